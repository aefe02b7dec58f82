/-
  maps.Keys of the estimates' map hands back what gives its keys, each once, in some order, to any loop that leaves maps and their iterators alone; of no map, none.
  slices.Collect of the estimates' keys: a new slice that has each of them once, in some order; at most 1000 of them.
  slices.Sort of numbers that a call owns; slices.Sorted of the estimates' keys; the program's Keys; Way13 of Pm.
  The program's wanted and Wants, of any edge that is kept well.
  The program's Wants, of any edge that is kept well.
-/
import Derived.RangeFuncNested
import Derived.RangeFuncBound
import Derived.RangeFuncCalls
import Derived.RangeFuncLeaves
import Derived.Shelf.Abstract
import Derived.Shelf.RegionOpen
import Derived.Sort.MapsRangeIn
import Derived.WalkKit
import Derived.OwnWalkIn
import Derived.TacticsInMore
import Derived.LoopNIn
import Derived.LoopIn
import Derived.Sort.OwnSortedInts
import Derived.Lib.OwnBridge
import Derived.Test.YtlbpeeelgpjciaaGreatMgAs
import Derived.Test.YtlbpeeelgpjciaaGreatShelf
import Derived.Test.YtlbpeeelgpjciaaGreatMgAx
import Derived.Test.YtlbpeeelgpjciaaGreatMgAy
import Derived.Test.YtlbpeeelgpjciaaGreatMgAz
namespace Go.Proofs.YtlbpeeelgpjciaaGreat.Demand
open Go.RowKit Go.Maps Go.Shelf
attribute [local go_sem] Oper.semAt_some

/-- What has come. -/
structure Got (L : List Nt) (left : Lit → Bool) (ss : List Int) : Prop where
  once : ss.Nodup
  mem : ∀ x, x ∈ ss ↔ (of L x ≠ 0 ∧ left (kl x) = false)
theorem Got.start {D : DataW Unit} {L : List Nt} (hi : Is D L) : Got L (Maps.has D) [] := by
  refine ⟨.nil, fun x => ⟨fun h => (by cases h), fun ⟨h, h0⟩ => ?_⟩⟩
  rw [hi.has] at h0
  exact absurd h (of_decide_eq_false h0)
theorem Got.perm {L : List Nt} {left : Lit → Bool} {ss : List Int} (h : Got L left ss) (hl : ∀ k, left k = false) : ss.Perm (keys L) :=
  (List.perm_ext_iff_of_nodup h.once (nodup_rise (keys_rise L))).2 fun x => by rw [h.mem x, hl, keys_mem]; simp
theorem came {D : DataW Unit} {L : List Nt} (hi : Is D L) {x : Int} {y : DataW Unit} (hat : ∀ zd, D.atKey (kl x) zd = y) : of L x ≠ 0 := by
  have h1 := has_true_of_atKey hat
  rw [hi.has] at h1
  exact of_decide_eq_true h1
theorem Got.step {L : List Nt} {left : Lit → Bool} {ss : List Int} (h : Got L left ss) {x : Int} (hlk : left (kl x) = true) (hy : of L x ≠ 0) : Got L (fun z => left z && !z.sameKey (kl x)) (ss ++ [x]) := by
  have hnew : x ∉ ss := fun hm => by
    have := ((h.mem x).1 hm).2
    rw [hlk] at this
    cases this
  refine ⟨List.nodup_append.2 ⟨h.once, by simp, fun a ha b hb => by simp at hb; subst hb; exact fun e => hnew (e ▸ ha)⟩, fun v => ?_⟩
  rw [List.mem_append, h.mem v, List.mem_singleton, kl_same]
  constructor
  · rintro (⟨h1, h2⟩ | rfl)
    · exact ⟨h1, by simp [h2]⟩
    · exact ⟨hy, by simp⟩
  · rintro ⟨h1, h2⟩
    by_cases e : v = x
    · exact .inr e
    · left
      refine ⟨h1, ?_⟩
      have : (v == x) = false := by simpa using e
      rw [this] at h2
      simpa using h2

set_option maxRecDepth 100000 in
set_option maxHeartbeats 1000000 in
theorem keys_in (n : Nat) (hn : 1 ≤ n) (l Bm b nn : Nat) (D : DataW Unit) (L : List Nt) (hi : Is D L) (J Jx : List Int → World → Prop)
    (hY : ∀ pre x W, J pre W → pre.length < (keys L).length → YieldAt Fence.wide (n - 1) Tryz.prog l #[.int .i64 x] W fun e W' =>
      (e = .returned (.bool true) ∧ J (pre ++ [x]) W' ∧ KeepsWalks W W') ∨ (e = .returned (.bool false) ∧ Jx (pre ++ [x]) W'))
    (W : World) (hJ : AbidesFrom W.heap.size J) (hm : W.cell? ⟨Bm, 0, none⟩ = some (.map (some b))) (hown : W.ownsMap Tryz.prog 3 rdi b nn D) (h0 : J [] W) :
    CallsIn Fence.wide n Tryz.prog 141 #[.func (.yield l) #[] #[], .pointer (some ⟨Bm, 0, none⟩)] W fun e W' => (∃ v, e = .returned v) ∧
      ((∃ xs, xs.Perm (keys L) ∧ J xs W') ∨ (∃ pre, True ∧ Jx pre W')) := by
  refine callsIn_of_wp Tryz.func141 rfl trivial ?_ rfl
  simp only [Tryz.ntmps141, List.size_toArray, List.length_cons, List.length_nil, Nat.reduceAdd, Nat.reduceSub, Array.replicate_succ, Array.replicate_zero, List.push_toArray, List.append_toArray, List.nil_append, List.cons_append]
  gi_wp2_with (first
    | (gi_at_range; refine wpListIn_range_own _ rfl _ 159 rfl 3 3 int_key Tryz.underlying159 rdi b nn _ rfl hown ?_; intro w0 hrg0 hg0 hs0)
    | gi_in)
  go_frame
  gi_loopw [7] (fun _ wr => ∃ (left : Lit → Bool) (cnt : Nat) (ss : List Int), wr.ranges Tryz.prog 3 rdi b W.heap.size nn D left cnt ∧ ss.length + cnt ≤ (keys L).length ∧ Got L left ss ∧ J ss wr)
    (fun _ wr => wr.rangeLeft b W.heap.size)
  case atStart =>
    exact ⟨_, _, [], hrg0, by simp [hi.size], Got.start hi, hJ [] W w0 none h0 hg0 (fun r e => by cases e)⟩
  case round =>
    obtain ⟨left, cnt, ss, hrg, hcs, hC, hJs⟩ := hrel
    gi_wp2_with (first
      | (gi_at_next; refine wpListIn_next_ranges _ rfl _ rfl 3 int_key rdi (Value.int .i64) (Value.int .i64) (fun key kl h => by obtain ⟨x, rfl, -⟩ := Maps.keyOf_int_inv Tryz.underlying3 h; exact ⟨x, rfl⟩) (fun v y h => by obtain ⟨x, rfl, -⟩ := rdi_inv h; exact ⟨x, rfl⟩) b W.heap.size nn _ _ _ rfl hrg ?_ ?_)
      | gi_in)
    · intro hc0 hl0
      gi_wp2
      go_end0
      exact ⟨⟨_, rfl⟩, .inl ⟨ss, hC.perm hl0, hJs⟩⟩
    · intro x y k1 yd yp w2 cnt2 hkey hlk hv hat hrg2 hlt hg2 hs2 hen
      obtain ⟨x', ex, rfl, -⟩ := Maps.keyOf_int_inv Tryz.underlying3 hkey
      obtain rfl : x = x' := by simpa using ex
      have hJ2 : J ss w2 := hJ ss wr w2 (some W.heap.size) hJs hg2 (fun r e => by cases e; exact ⟨Nat.le_refl _, hrg.iter_walk⟩)
      have hC2 := hC.step hlk (came hi hat)
      obtain ⟨fn, tmps, assign, body, hy, hR⟩ := hY ss x _ hJ2 (by omega)
      have hrg3 := Lib.hid hrg2
      clear hs2 hv
      gi_wp2
      refine hR.mono ?_
      rintro e W3 (⟨rfl, hJ4, hk4⟩ | ⟨rfl, hJx4⟩)
      · gi_wp2
        have hrg4 := hrg3.out.of_walks hk4
        go_roundw
        case rel => exact ⟨_, cnt2, ss ++ [x], hrg4, by simp; omega, hC2, hJ4⟩
        case measure => rw [hrg4.left_eq, hrg.left_eq]; exact hlt
      · gi_wp2
        refine bodyPost_ret (results_none rfl _ _ _) rfl ?_
        exact ⟨⟨_, rfl⟩, .inr ⟨ss ++ [x], trivial, hJx4⟩⟩
set_option maxRecDepth 100000 in
set_option maxHeartbeats 1000000 in
theorem keys_nil (n : Nat) (l Bm : Nat) (J : List Int → World → Prop) (W : World) (hJ : AbidesFrom W.heap.size J) (hm : W.cell? ⟨Bm, 0, none⟩ = some (.map none)) (h0 : J [] W) :
    CallsIn Fence.wide n Tryz.prog 141 #[.func (.yield l) #[] #[], .pointer (some ⟨Bm, 0, none⟩)] W fun e W' => (∃ v, e = .returned v) ∧ J [] W' := by
  refine callsIn_of_wp Tryz.func141 rfl trivial ?_ rfl
  simp only [Tryz.ntmps141, List.size_toArray, List.length_cons, List.length_nil, Nat.reduceAdd, Nat.reduceSub, Array.replicate_succ, Array.replicate_zero, List.push_toArray, List.append_toArray, List.nil_append, List.cons_append]
  have hrg := run_range_nilMap (P := Tryz.prog) W 159 _ _ Tryz.underlying159
  have hnx : ∀ ty, (Instr.next (.pointer (some ⟨W.heap.size, 0, none⟩)) false ty).run Tryz.prog (W.alloc (.mapIter none 0 #[] 0)) = _ := fun ty => run_next_nilMap _ ty 0 0 #[]
  gi_wp2
  refine wpIn_loop_rounds 1 ?_
  rw [roundsIn_succ]
  gi_wp2
  go_end0
  exact ⟨⟨_, rfl⟩, hJ [] W _ none h0 (World.grownBy_alloc W _ none) (fun r e => by cases e)⟩
theorem keys_stops (n : Nat) (hn : 1 ≤ n) {B Bm : Nat} {w : World} {m : Option Nat} {L : List Nt} (h : Mw B w m L) (hm : w.cell? ⟨Bm, 0, none⟩ = some (.map m)) (hlt : Bm < w.heap.size) :
    SeqStopsK Fence.wide n Tryz.prog 141 #[.pointer (some ⟨Bm, 0, none⟩)] (fun x : Int => #[.int .i64 x]) KeepsWalks (fun xs => xs.Perm (keys L)) (fun _ => True) (keys L).length w := fun l J Jx W hW hJ _ hY h0 => by
  have hm' := (hW.cell (p := ⟨Bm, 0, none⟩) hlt).trans hm
  rcases h.below hW with ⟨rfl, hk⟩ | ⟨b, D, rfl, -, ho, hi⟩
  · refine (keys_nil n l Bm J W hJ hm' h0).mono ?_
    rintro e W' ⟨hv, hJ'⟩
    exact ⟨hv, .inl ⟨[], by rw [hk], hJ'⟩⟩
  · exact keys_in n hn l Bm b _ D L hi J Jx hY W hJ hm' ho h0
theorem keys_call (n : Nat) (m : Option Nat) (w : World) :
    CallsIn Fence.wide n Tryz.prog 106 #[.map m] w fun e w' => e = .returned (.func (.func 141) #[] #[.pointer (some ⟨w.heap.size, 0, none⟩)]) ∧ w' = w.alloc (.cells #[.map m] 159) := by
  refine callsIn_of_wp Tryz.func106 rfl trivial ?_ rfl
  simp only [Tryz.ntmps106, List.size_toArray, List.length_cons, List.length_nil, Nat.reduceAdd, Nat.reduceSub, Array.replicate_succ, Array.replicate_zero, List.push_toArray, List.append_toArray, List.nil_append, List.cons_append]
  gi_wp2
  go_ret
  exact ⟨rfl, rfl⟩
end Go.Proofs.YtlbpeeelgpjciaaGreat.Demand

namespace Go.Proofs.YtlbpeeelgpjciaaGreat.Demand
open Go.RowKit Go.Maps Go.Shelf
open _root_.Go.Proofs.YtlbpeeelgpjciaaGreat.Kit (ints cells lt_heap)
attribute [local go_sem] Oper.semAt_some

theorem infoI : (Tryz.prog.info? 3).map (fun i => (i.zero, i.size, i.bytes)) = some (some (.int .i64 0), 1, 8) := by kernel_rfl
/-- What a round leaves for its body. -/
def Body1 (sv : Value) (Bs : Nat) (x : Int) (a : Act) (_ : World) : Prop :=
  a = { tmps := #[.slice none 0 0, sv, .pointer (some ⟨Bs, 0, none⟩), undef, .slice none 0 0, .int .i64 x, sv, .int .i64 x, undef, undef, undef, undef, undef], defers := [] }

set_option maxRecDepth 100000 in
set_option maxHeartbeats 2000000 in
theorem appendSeq_wide {L : List Nt} (hlen : (keys L).length ≤ 1000) (Bm : Nat) (w0 w : World) (hb0 : Below w0.heap.size w0 w)
    (hseq : SeqStopsK Fence.wide 5 Tryz.prog 141 #[.pointer (some ⟨Bm, 0, none⟩)] (fun x : Int => #[.int .i64 x]) KeepsWalks (fun xs => xs.Perm (keys L)) (fun _ => True) (keys L).length w0) :
    CallsIn Fence.wide 6 Tryz.prog 160 #[.slice none 0 0, .func (.func 141) #[] #[.pointer (some ⟨Bm, 0, none⟩)]] w fun e W' =>
      ∃ v xs, e = .returned v ∧ xs.Perm (keys L) ∧ Kit.Own ints 3 w.heap.size W' v xs ∧ Below w.heap.size w W' := by
  obtain ⟨i0, hi, hz0, hz1, hz2⟩ := info_parts infoI
  have HN := Lib.hid hlen; clear hlen
  refine callsIn_of_wp_marks Tryz.func160 rfl trivial ?_ rfl
  simp only [Tryz.ntmps160, List.size_toArray, List.length_cons, List.length_nil, Nat.reduceAdd, Nat.reduceSub, Array.replicate_succ, Array.replicate_zero, List.push_toArray, List.append_toArray, List.nil_append, List.cons_append]
  gi_wp2
  have bO := Boxed.new w 106 (.slice none 0 0)
  have hB0 : Below w.heap.size w (w.alloc (.cells #[.slice none 0 0] 106)) := lay _ _
  refine wpIn_rangeFunc_ownH rfl (by decide) (gf := 141) (lb := #[.pointer (some ⟨Bm, 0, none⟩)]) rfl trivial (enters_of Tryz.func141 (by kernel_rfl) rfl)
    hseq walksK_t walksK_b (hb0.trans (hB0.mono hb0.size)) (fun _ => rfl)
    (fun pre W => (∃ v, Boxed W w.heap.size 106 v ∧ W.ownsRow w.heap.size 3 1 v pre.length (cells ints pre) ∧ True) ∧ Below w.heap.size w W)
    (fun _ _ _ => False)
    (OwnFrom.and (Own.from (holdsRow_own w.heap.size w.heap.size 106 3 1 (fun pre : List Int => pre.length) (cells ints) (fun _ _ => True)) _) (ownFrom_below (Nat.le_refl _) (by simp)))
    (fun _ _ _ _ _ hs _ _ => hs)
    ⟨⟨_, bO, ⟨rfl, .inl ⟨rfl, rfl⟩⟩, trivial⟩, hB0⟩
    (Body1 (.func (.func 141) #[] #[.pointer (some ⟨Bm, 0, none⟩)]) w.heap.size)
    (fun x a' _ X Y row hs hg hr => hs) ?assign ?body ?done ?stop
  case assign =>
    intro l pre x W K hI hK
    gi_wp2
    exact hK _ _ ((KeepsOthers.refl _).from _) (KeepsWalks.refl _) hI rfl
  case body =>
    rintro l pre x a' W hl hrec ⟨⟨v, hv, hrow, _⟩, hB⟩ rfl hlt
    have hc := hv.cell
    have hml : pre.length + 1 ≤ 1000 := by have := HN.out; omega
    gi_wp2_with (gi_at_builtin; refine wpListIn_append_own _ rfl _ _ 106 rfl w.heap.size 3 i0 (.int .i64 0) 1 8 Tryz.underlying106 hi hz0 hz1 hz2 rfl (by decide) _ _ _ rfl (hrow.alloc _) ⟨W.heap.size, 0, none⟩ 1 1 [.int .i64 x] rfl rfl (World.news_of_block (MapKept.heap_alloc W _).1) (by intro u hu; simp at hu; subst hu; rfl) (by unfold maxLen; omega) (by omega) (by have := hB.size; simp; omega) ?_; intro v' w2 hown' hgrow _; obtain ⟨g', cap', rfl⟩ := ownsRow_succ hown'; obtain ⟨hv1, hv2, hr2, hk2, hb2⟩ := hv.appended (by decide) hrow hB.size (Nat.le_refl _) hown' hgrow; have hc1 := hv1.cell; have hf1 := hv1.frozen)
    exact ⟨hk2.from _, hk2.walks, ⟨⟨_, hv2, by rw [Kit.cells_snoc, List.length_append]; exact hr2, trivial⟩, hB.trans hb2⟩⟩
  case done =>
    rintro D xs W hD hp ⟨⟨v, hv, hrow, _⟩, hB⟩ hK
    have hc := hv.cell
    gi_wp2
    refine ⟨by simp, .inl ⟨_, _, rfl, run_takeDeferred hK, ?_⟩⟩
    exact ⟨_, results_tmp rfl _ _ _, v, xs, rfl, hp, ownsRow_putObj hrow _ hK rfl, hB.trans (belowK_b (w := w) (Nat.le_refl _) W D _ _ (by simp at hD; omega) hK rfl rfl)⟩
  case stop =>
    rintro D c pre W _ _ h _
    exact h.elim
set_option maxRecDepth 100000 in
theorem collect_any {L : List Nt} (hlen : (keys L).length ≤ 1000) (Bm : Nat) (w0 w : World) (hb0 : Below w0.heap.size w0 w)
    (hseq : SeqStopsK Fence.wide 5 Tryz.prog 141 #[.pointer (some ⟨Bm, 0, none⟩)] (fun x : Int => #[.int .i64 x]) KeepsWalks (fun xs => xs.Perm (keys L)) (fun _ => True) (keys L).length w0) :
    Calls Tryz.prog 140 #[.func (.func 141) #[] #[.pointer (some ⟨Bm, 0, none⟩)]] w fun e W' =>
      ∃ v xs, e = .returned v ∧ xs.Perm (keys L) ∧ Kit.Own ints 3 w.heap.size W' v xs ∧ Below w.heap.size w W' := by
  have ha := callsIn_wide.1 (appendSeq_wide hlen Bm w0 w hb0 hseq)
  clear hseq
  go_enter Tryz.func140, Tryz.ntmps140
  go_wp2_with (go_at_call 160; refine ha.mono ?_; clear ha; rintro e u ⟨v, xs, rfl, hp, ho, hb⟩)
  go_ret
  exact ⟨v, xs, rfl, hp, ho, hb⟩
end Go.Proofs.YtlbpeeelgpjciaaGreat.Demand

namespace Go.Proofs.YtlbpeeelgpjciaaGreat.Demand
open Go.RowKit Go.Maps Go.Shelf Go.Sort
open _root_.Go.Proofs.YtlbpeeelgpjciaaGreat.Codec (lt_of_heap frozen_of heap_set below_new own_below)
open _root_.Go.Proofs.YtlbpeeelgpjciaaGreat.Kit (Lies ints cell_on lt_heap)

/-! The walk. -/
theorem cells_ints (zs : List Int) : Kit.cells ints zs = zs.map (Value.int .i64) := by
  induction zs with
  | nil => rfl
  | cons x zs ih => rw [Kit.cells_cons, ih]; rfl
theorem own_ints {B : Nat} {u : World} {v : Value} {zs : List Int} : Kit.Own ints 3 B u v zs ↔ u.ownsRow B 3 1 v zs.length (zs.map (Value.int .i64)) := by
  unfold Kit.Own
  rw [cells_ints]
  exact Iff.rfl
theorem sort_ints {B : Nat} {u : World} {v : Value} {zs : List Int} (ho : Kit.Own ints 3 B u v zs) (hB : B ≤ u.heap.size) (hl : zs.length ≤ 1000) :
    Calls Tryz.prog 52 #[v] u fun e u' => e = .returned (.tuple #[]) ∧ Kit.Own ints 3 B u' v (zs.mergeSort fun x y => decide (x ≤ y)) ∧ Below B u u' := by
  have hl2 : (zs.mergeSort fun x y => decide (x ≤ y)).length = zs.length := List.length_mergeSort _
  have hown' := own_ints.1 ho
  rcases hown'.2 with ⟨rfl, h0⟩ | ⟨g, cap, cur, rfl, hbase, hblk, h1, h2, h3, h4⟩
  · have hz := List.eq_nil_of_length_eq_zero h0
    subst hz
    refine (Tryz.slices_Sort_int_none none 0 u).mono ?_
    rintro e u' ⟨rfl, rfl⟩
    exact ⟨rfl, by simpa using ho, Below.refl _ _⟩
  · obtain ⟨g', cap', e, _, hlt, _, _, _, hH⟩ := Lib.holds_of_ownsRow (enc := Value.int .i64) hown' (by simp)
    cases e
    refine (Tryz.slices_Sort_int g 0 cap zs u hH hlt (by omega)).mono ?_
    rintro e u' ⟨rfl, n, os, rfl⟩
    refine ⟨rfl, own_ints.2 ?_, (Below.refl B u).grown (grownBy_sortedI _) hB (fun j hj => by cases hj; exact hbase)⟩
    have := ownsRow_sortedI (n := n) (os := os) hl2 hbase hblk h1 h2 h3
    rw [hl2]
    exact this
theorem nil_of {T : TypeId} {B : Nat} {w : World} {p : Option Addr} {n c : Nat} {l : List Int} (h : Kit.Own ints T B w (.slice p n c) l) : p = none → c = 0 := by
  rintro rfl
  rcases h.2 with ⟨e, -⟩ | ⟨g, cap, cur, e, -⟩
  · simp only [Value.slice.injEq] at e
    exact e.2.2
  · simp at e
theorem sorted_is {xs L : List Int} (hr : L.Pairwise (· < ·)) (hp : xs.Perm L) : (xs.mergeSort fun x y => decide (x ≤ y)) = L := by
  have hp2 := (List.mergeSort_perm xs (fun x y => decide (x ≤ y))).trans hp
  have hs : (xs.mergeSort fun x y => decide (x ≤ y)).Pairwise (· ≤ ·) := by
    have := List.pairwise_mergeSort (le := fun x y : Int => decide (x ≤ y)) (fun a b c h1 h2 => by simp at *; omega) (fun a b => by simp; omega) xs
    exact this.imp fun h => by simpa using h
  exact List.Perm.eq_of_pairwise (le := fun a b : Int => a ≤ b) (fun a b _ _ hab hba => by omega) hs (hr.imp fun {a b} h => by omega) hp2
set_option maxRecDepth 100000 in
theorem sorted_any {L : List Nt} (hlen : (keys L).length ≤ 1000) (Bm : Nat) (w0 w : World) (hb0 : Below w0.heap.size w0 w)
    (hseq : SeqStopsK Fence.wide 5 Tryz.prog 141 #[.pointer (some ⟨Bm, 0, none⟩)] (fun x : Int => #[.int .i64 x]) KeepsWalks (fun xs => xs.Perm (keys L)) (fun _ => True) (keys L).length w0) :
    Calls Tryz.prog 105 #[.func (.func 141) #[] #[.pointer (some ⟨Bm, 0, none⟩)]] w fun e w' =>
      ∃ p c, e = .returned (.slice p (keys L).length c) ∧ (Lies ints w' p (keys L) ∧ (p = none → c = 0)) ∧ Below w.heap.size w w' := by
  have ha := collect_any hlen Bm w0 w hb0 hseq
  have hs := Lib.hid (fun (u : World) (v : Value) (xs : List Int) (hb : Below w.heap.size w u) (ho : Kit.Own ints 3 w.heap.size u v xs) (hp : xs.Perm (keys L)) => (sort_ints ho hb.size (by rw [hp.length_eq]; exact hlen)))
  have HR := Lib.hid (fun (xs : List Int) (hp : xs.Perm (keys L)) => sorted_is (keys_rise L) hp)
  clear hseq hlen
  generalize keys L = R at *
  go_enter Tryz.func105, Tryz.ntmps105
  go_wp2_with (first
    | (go_at_call 140; refine ha.mono ?_; clear ha; rintro e u ⟨v, xs, rfl, hp, ho, hb⟩)
    | (go_at_call 52; refine (hs.out _ _ _ hb ho hp).mono ?_; clear hs; rintro e u2 ⟨rfl, ho2, hb2⟩; rw [HR.out _ hp] at ho2; obtain ⟨p, c, rfl, hl⟩ := Kit.Own.lies ho2; have hni := nil_of ho2))
  go_ret
  exact ⟨p, c, rfl, ⟨hl, hni⟩, hb.trans hb2⟩
set_option maxRecDepth 100000 in
set_option maxHeartbeats 1000000 in
theorem pkeys_any {B q : Nat} {w : World} {l : List Nt} (h : Pm B w q l) (hlen : l.length ≤ 200) :
    Calls Tryz.prog 51 #[.pointer (some ⟨q, 0, none⟩)] w fun e w' => ∃ p c, e = .returned (.slice p (keys l).length c) ∧ (Lies ints w' p (keys l) ∧ (p = none → c = 0)) ∧ Below w.heap.size w w' := by
  obtain ⟨m, hc, -, hm⟩ := h.cell
  have hv := callsIn_wide.1 (keys_call 5 m w)
  have hb1 := lay w (.cells #[.map m] 159)
  have hz := (MapKept.heap_alloc w (.cells #[.map m] 159)).1
  have hs := sorted_any (L := l) (by have := keys_len l; omega) w.heap.size _ _ (Below.refl _ _) (keys_stops 5 (by decide) (hm.below hb1) (by rw [cell_of_row _ _ 0 _ _ (0, 0) hz]; rfl) (by simp))
  generalize keys l = R at *
  clear hz hlen h hm
  go_enter Tryz.func51, Tryz.ntmps51
  go_wp2_with (first
    | (go_at_call 106; refine hv.mono ?_; clear hv; rintro e u ⟨rfl, rfl⟩)
    | (go_at_call 105; refine hs.mono ?_; clear hs; rintro e u2 ⟨p, c, rfl, hl, hb2⟩))
  go_ret
  exact ⟨p, c, rfl, hl, hb1.trans (hb2.mono hb1.size)⟩
set_option maxRecDepth 100000 in
theorem nkeys_any (w : World) : Calls Tryz.prog 51 #[.pointer none] w fun e w' => ∃ p c, e = .returned (.slice p 0 c) ∧ Below w.heap.size w w' := by
  go_enter Tryz.func51, Tryz.ntmps51
  go_wp2
  go_ret
  exact ⟨none, 0, rfl, Below.refl _ _⟩
theorem way13 : Way13 Pm where
  below h hb := h.below hb
  kept h hk _ := h.kept hk
  new := new_any
  note h hB hl _ _ hk _ := pnote_any h hB hl hk
  of h _ _ hk := pof_any h hk
  want h _ _ qd most hk _ _ := pwant_any h hk qd most
  keys h hl := (pkeys_any h hl).mono fun _ _ ⟨p, c, he, hli, hb⟩ => ⟨p, c, he, hli.1, hb⟩
  nnote := nnote_any
  nof := nof_any
  nwant k qd most w _ _ := nwant_any k qd most w
  nkeys := nkeys_any
end Go.Proofs.YtlbpeeelgpjciaaGreat.Demand

namespace Go.Proofs.YtlbpeeelgpjciaaGreat.Edge
open Go.RowKit
open _root_.Go.Proofs.YtlbpeeelgpjciaaGreat.Codec (lt_of_heap frozen_of heap_set below_new)
open _root_.Go.Proofs.YtlbpeeelgpjciaaGreat.Kit (Enc Lies At Kept Laid Off cell_on lt_heap take_snoc below_drewN own_keep box5 ints)
open _root_.Go.Proofs.YtlbpeeelgpjciaaGreat.Lease (Lz Num spend)
open _root_.Go.Proofs.YtlbpeeelgpjciaaGreat.Queue (It take)
open _root_.Go.Proofs.YtlbpeeelgpjciaaGreat.Demand (Nt)

/-- How much the program says is wanted. -/
def am (c : Cf) (e : Eg) (k : Int) : Int := Demand.want (Demand.of e.D k) (Queue.sum e.Q k) (rb c k)
section
variable {R : Nat → Prop} {B q qw qq qd : Nat} {w w' u u' : World} {y : Value} {c : Cf} {e e' e2 : Eg}
set_option maxRecDepth 100000 in
set_option maxHeartbeats 8000000 in
theorem wanted_any (h : In R B w q y qw qq qd c e) (hg : Good c e) (hf : Lens e) {key : Int} (hk : Num key) :
    Calls Tryz.prog 54 #[.pointer (some ⟨q, 0, none⟩), .int .i64 key] w fun x w' => x = .returned (.int .i64 (am c e key)) ∧ Below w.heap.size w w' := by
  obtain ⟨p, k, rfl, hl⟩ := h.rates
  have HK := Lib.hid (fun u (hu : Below w.heap.size w u) => prate_any k (hl.below hu) key)
  have HS := Lib.hid (fun u (hu : Below w.heap.size w u) => Queue.way12.sum (h.below hu).qu hg.q hf.2.1 key hk)
  have HW := Lib.hid (fun u (qs b : Int) (hu : Below w.heap.size w u) => Demand.pwant_any (h.below hu).dm hk qs b)
  have HX := Lib.hid (fun u (hu : Below w.heap.size w u) => (h.below hu).sees)
  obtain ⟨k0, k1, k2, k3, k4, k5, k6, k7, k8, k9, k10, k11⟩ := h.sees
  rw [show am c e key = Demand.want (Demand.of e.D key) (Queue.sum e.Q key) (rb c key) from rfl]
  generalize ra c key = vra at *
  generalize rb c key = vrb at *
  generalize c.rate key = kk at *
  generalize Queue.sum e.Q key = qs at *
  simp only [Cf.val] at *
  clear h hl hg hf k0 k10 k11
  go_enter Tryz.func54, Tryz.ntmps54
  go_wp2_with (first
    | (go_at_call 96; (with_reducible refine (HK.out _ (Below.refl _ _)).mono ?_); rintro e1 w1 ⟨rfl, hb⟩; have HB1 := Lib.hid hb; clear hb HK))
  have hbx := HB1.out.trans ((lay w1 (.cells #[.int .i64 vra, .int .i64 vrb] 82)).mono HB1.out.size)
  have HB2 := Lib.hid hbx
  have hbk := heap_alloc_new w1 (.cells #[.int .i64 vra, .int .i64 vrb] 82)
  have hb1 : (w1.alloc (.cells #[.int .i64 vra, .int .i64 vrb] 82)).cell? ⟨w1.heap.size, 1, none⟩ = some (.int .i64 vrb) := by rw [cell_of_row _ _ 1 _ _ (0, 0) hbk]; rfl
  clear hbx hbk HB1 k1 k2 k3 k4 k5 k6 k7 k8 k9
  generalize w1.heap.size = g at *
  generalize w1.alloc (.cells #[.int .i64 vra, .int .i64 vrb] 82) = w2 at *
  have HY := Lib.hid (fun u (hu : Below w2.heap.size w2 u) => show Below w2.heap.size w2 u ∧ u.cell? ⟨q, 10, none⟩ = some (.pointer (some ⟨qq, 0, none⟩)) ∧ u.cell? ⟨q, 11, none⟩ = some (.pointer (some ⟨qd, 0, none⟩)) ∧ u.cell? ⟨g, 1, none⟩ = some (.int .i64 vrb) from
    ⟨hu, (HX.out u (HB2.out.trans (hu.mono HB2.out.size))).k10, (HX.out u (HB2.out.trans (hu.mono HB2.out.size))).k11, cell_on hb1 hu⟩)
  have y0 := HY.out _ (Below.refl w2.heap.size w2).drew
  clear hb1
  go_region_held3 (fun u => Below w2.heap.size w2 u ∧ u.cell? ⟨q, 10, none⟩ = some (.pointer (some ⟨qq, 0, none⟩)) ∧ u.cell? ⟨q, 11, none⟩ = some (.pointer (some ⟨qd, 0, none⟩)) ∧ u.cell? ⟨g, 1, none⟩ = some (.int .i64 vrb)) (first | with_reducible assumption) (first
    | (go_at_call 110; (with_reducible refine (HS.out _ (s_low (by with_reducible assumption) HB2.out)).mono ?_); rintro e1 w3 ⟨rfl, hb⟩; have y3 := HY.out _ (s_next (by with_reducible assumption) hb))
    | (go_at_call 109; (with_reducible refine (HW.out _ _ _ (s_low (by with_reducible assumption) HB2.out)).mono ?_); rintro e1 w4 ⟨rfl, hb⟩; have y4 := HY.out _ (s_next (by with_reducible assumption) hb)))
  go_wp2
  go_ret
  exact ⟨rfl, HB2.out.trans (y4.1.mono HB2.out.size)⟩
theorem am_amount (c : Cf) (e : Eg) (k : Int) : (0 < am c e k ↔ 0 < amount c e k) ∧ (0 < am c e k → am c e k = amount c e k) := by
  unfold am amount rb
  by_cases h : 0 ≤ c.rate k
  · rw [if_pos h, if_pos h]
    exact ⟨Iff.rfl, fun _ => rfl⟩
  · rw [if_neg h, if_neg h]
    have : Demand.want (Demand.of e.D k) (Queue.sum e.Q k) 0 ≤ 0 := by
      unfold Demand.want
      have : Sat.fit 0 = 0 := by decide
      rw [this]
      omega
    exact ⟨⟨fun h => by omega, fun h => by omega⟩, fun h => by omega⟩
end
end Go.Proofs.YtlbpeeelgpjciaaGreat.Edge

namespace Go.Proofs.YtlbpeeelgpjciaaGreat.Edge
open Go.RowKit
open _root_.Go.Proofs.YtlbpeeelgpjciaaGreat.Codec (lt_of_heap frozen_of heap_set below_new)
open _root_.Go.Proofs.YtlbpeeelgpjciaaGreat.Kit (Enc Lies At Kept Laid Off cell_on lt_heap take_snoc below_drewN own_keep box5 ints)
open _root_.Go.Proofs.YtlbpeeelgpjciaaGreat.Lease (Lz Num spend)
open _root_.Go.Proofs.YtlbpeeelgpjciaaGreat.Queue (It take)
open _root_.Go.Proofs.YtlbpeeelgpjciaaGreat.Demand (Nt)

theorem merge_mem (x : Int) : ∀ (a b : List Int), x ∈ merge a b ↔ x ∈ a ∨ x ∈ b
  | [], b => by simp [merge]
  | a :: l, [] => by simp [merge]
  | a :: l, b :: m => by
    have h1 := merge_mem x l (b :: m)
    have h2 := merge_mem x l m
    have h3 := merge_mem x (a :: l) m
    rw [merge]
    split
    · rw [List.mem_cons, h1]
      simp only [List.mem_cons, or_assoc]
    · split
      · rename_i e
        subst e
        rw [List.mem_cons, h2]
        simp only [List.mem_cons]
        constructor
        · rintro (h | h | h) <;> simp [h]
        · rintro ((h | h) | h | h) <;> simp [h]
      · rw [List.mem_cons, h3]
        simp only [List.mem_cons]
        constructor
        · rintro (h | (h | h) | h) <;> simp [h]
        · rintro ((h | h) | h | h) <;> simp [h]
theorem merge_rise : ∀ (a b : List Int), a.Pairwise (· < ·) → b.Pairwise (· < ·) → (merge a b).Pairwise (· < ·)
  | [], b, _, h => by simpa [merge] using h
  | a :: l, [], h, _ => by simpa [merge] using h
  | a :: l, b :: m, ha, hb => by
    obtain ⟨a1, a2⟩ := List.pairwise_cons.1 ha
    obtain ⟨b1, b2⟩ := List.pairwise_cons.1 hb
    have h1 := merge_rise l (b :: m) a2 hb
    have h2 := merge_rise l m a2 b2
    have h3 := merge_rise (a :: l) m ha b2
    rw [merge]
    split
    · rename_i h
      refine List.pairwise_cons.2 ⟨fun x hx => ?_, h1⟩
      rcases (merge_mem x _ _).1 hx with hx | hx
      · exact a1 x hx
      · rcases List.mem_cons.1 hx with rfl | hx
        · exact h
        · have := b1 x hx; omega
    · split
      · rename_i e
        refine List.pairwise_cons.2 ⟨fun x hx => ?_, h2⟩
        rcases (merge_mem x _ _).1 hx with hx | hx
        · have := a1 x hx; omega
        · exact b1 x hx
      · refine List.pairwise_cons.2 ⟨fun x hx => ?_, h3⟩
        rcases (merge_mem x _ _).1 hx with hx | hx
        · rcases List.mem_cons.1 hx with rfl | hx
          · omega
          · have := a1 x hx; omega
        · exact b1 x hx
/-- What Sort and Compact leave of both lists of keys. -/
theorem keys_one (e : Eg) : Lib.compact ((Queue.keys e.Q ++ Demand.keys e.D).mergeSort fun x y => decide (x ≤ y)) = keys e := by
  have hp := List.mergeSort_perm (Queue.keys e.Q ++ Demand.keys e.D) (fun x y => decide (x ≤ y))
  have hs : ((Queue.keys e.Q ++ Demand.keys e.D).mergeSort fun x y => decide (x ≤ y)).Pairwise (· ≤ ·) := by
    have := List.pairwise_mergeSort (le := fun x y : Int => decide (x ≤ y)) (fun a b c h1 h2 => by simp at *; omega) (fun a b => by simp; omega) (Queue.keys e.Q ++ Demand.keys e.D)
    exact this.imp fun h => by simpa using h
  generalize ((Queue.keys e.Q ++ Demand.keys e.D).mergeSort fun x y => decide (x ≤ y)) = zs at *
  obtain ⟨c1, c2⟩ := Queue.compact_spec hs zs.length (Nat.le_refl _)
  refine Queue.rise_eq c1 (merge_rise _ _ (Queue.keys_spec _ e.Q rfl).1 (Demand.keys_rise e.D)) fun x => ?_
  have := c2 x
  rw [List.take_length, hp.mem_iff, List.mem_append] at this
  exact this.trans (merge_mem x _ _).symm
theorem keys_num {c : Cf} {e : Eg} (hg : Good c e) (hn : ∀ x ∈ e.D, Num x.key) (x : Int) (hx : x ∈ keys e) : Num x := by
  rcases (merge_mem x _ _).1 hx with h | h
  · have h2 := (Queue.keys_spec _ e.Q rfl).2 x |>.1 h
    obtain ⟨i, hi, rfl⟩ := List.mem_map.1 h2
    exact (hg.q.each i hi).2.2.1
  · obtain ⟨-, z, hz, rfl⟩ := ((Demand.some_spec e.D e.D).2 x).1 h
    exact hn z hz
section
variable {R : Nat → Prop} {B q qw qq qd : Nat} {w w' u u' : World} {y : Value} {c : Cf} {e e' e2 : Eg}
theorem laidW : Laid Tryz.prog pair 84 69 := ⟨Tryz.underlying69, .agg #[.int .i64 0, .int .i64 0], 16, by kernel_rfl, rfl, by decide⟩
theorem concat_new {w2 : World} {la lb : List Int} {pa pb : Option Addr} {ca cb : Nat} {T : TypeId} (ha : Lies ints w2 pa la) (hb : Lies ints w2 pb lb) (na : pa = none → ca = 0) (nb : pb = none → cb = 0) (la' : la.length ≤ 300) (lb' : lb.length ≤ 300) :
    Calls Tryz.prog 49 #[.slice (some ⟨w2.heap.size, 0, none⟩) 2 2] (w2.alloc (.cells #[.slice pa la.length ca, .slice pb lb.length cb] T)) fun e w' => ∃ v, e = .returned v ∧ Kit.Own ints 3 w2.heap.size w' v (la ++ lb) ∧ Below w2.heap.size w2 w' := by
  have hbx := lay w2 (.cells #[.slice pa la.length ca, .slice pb lb.length cb] T)
  have k := heap_alloc_new w2 (.cells #[.slice pa la.length ca, .slice pb lb.length cb] T)
  refine (concat_any (g := w2.heap.size) (ca := ca) (cb := cb) (by rw [cell_of_row _ _ 0 _ _ (0, 0) k]; rfl) (by rw [cell_of_row _ _ 1 _ _ (0, 0) k]; rfl) (ha.below hbx) (hb.below hbx) na nb la' lb').mono ?_
  rintro e w' ⟨v, he, ho, hb2⟩
  exact ⟨v, he, Kit.Own.lower ho hbx.size, hbx.trans (hb2.mono hbx.size)⟩
set_option maxRecDepth 100000 in
set_option maxHeartbeats 8000000 in
theorem pwants_any (h : In R B w q y qw qq qd c e) (hg : Good c e) (hf : Lens e) (hn : ∀ x ∈ e.D, Num x.key) :
    Calls Tryz.prog 21 #[.pointer (some ⟨q, 0, none⟩)] w fun x w' => ∃ p k, x = .returned (.slice p (wants c e).length k) ∧ Lies pair w' p (wants c e) ∧ Typed w' p 84 ∧ Below w.heap.size w w' := by
  have HX := Lib.hid (fun u (hu : Below w.heap.size w u) => (h.below hu).sees)
  have HQ := Lib.hid (fun u (hu : Below w.heap.size w u) => Queue.pkeys_any (h.below hu).qu hf.2.1)
  have HD := Lib.hid (fun u (hu : Below w.heap.size w u) => Demand.pkeys_any (h.below hu).dm (by have := hf.2.2; omega))
  have HWD := Lib.hid (fun u key (hu : Below w.heap.size w u) (hk : Num key) => wanted_any (h.below hu) hg hf hk)
  have hl1 := Queue.keys_len e.Q
  have hl2 := Demand.keys_len e.D
  have HCC := Lib.hid (fun (u : World) (pa pb : Option Addr) (ca cb : Nat) (T : TypeId) (ha : Lies ints u pa (Queue.keys e.Q)) (hb : Lies ints u pb (Demand.keys e.D)) (na : pa = none → ca = 0) (nb : pb = none → cb = 0) => concat_new (ca := ca) (cb := cb) (T := T) ha hb na nb (by have := hf.2.1; omega) (by have := hf.2.2; omega))
  have hkl : (Queue.keys e.Q ++ Demand.keys e.D).length ≤ 200 := by rw [List.length_append]; have := hf.2.1; have := hf.2.2; omega
  have HSO := Lib.hid (fun (B' : Nat) (u : World) (v : Value) (ho : Kit.Own ints 3 B' u v (Queue.keys e.Q ++ Demand.keys e.D)) (hu : B' ≤ u.heap.size) => Queue.sort_ints ho hu (by omega))
  have HCO := Lib.hid (fun (B' : Nat) (u : World) (v : Value) (ho : Kit.Own ints 3 B' u v ((Queue.keys e.Q ++ Demand.keys e.D).mergeSort fun x y => decide (x ≤ y))) (hu : B' ≤ u.heap.size) => Queue.compact_ints ho hu (by rw [List.length_mergeSort]; omega))
  rw [keys_one e] at HCO
  have HW := Lib.hid (show wants c e = wantsOf c e ((keys e).take (keys e).length) by rw [List.take_length]; rfl)
  have HKN := Lib.hid (fun x (hx : x ∈ keys e) => keys_num hg hn x hx)
  have hkk : (keys e).length ≤ 300 := Nat.le_trans (merge_len _ _) (by have := hf.2.1; have := hf.2.2; omega)
  generalize ((Queue.keys e.Q ++ Demand.keys e.D).mergeSort fun x y => decide (x ≤ y)) = zs at *
  generalize Queue.keys e.Q ++ Demand.keys e.D = ls at *
  generalize Queue.keys e.Q = la at *
  generalize Demand.keys e.D = lb at *
  generalize wants c e = WW at *
  generalize keys e = l at *
  have WS := Lib.hid (fun (j : Nat) (hj : j < l.length) => wants_at (c := c) (e := e) hj)
  have WL := Lib.hid (fun j => wants_len c e (l.take j))
  have W0 := Lib.hid (show wantsOf c e (l.take 0) = [] from rfl)
  have HY := Lib.hid (fun u (hu : Below w.heap.size w u) => show Below w.heap.size w u ∧ u.cell? ⟨q, 10, none⟩ = some (.pointer (some ⟨qq, 0, none⟩)) ∧ u.cell? ⟨q, 11, none⟩ = some (.pointer (some ⟨qd, 0, none⟩)) from ⟨hu, (HX.out u hu).k10, (HX.out u hu).k11⟩)
  have y0 := HY.out _ (Below.refl w.heap.size w).drew
  clear h hg hf hn hl1 hl2 HX
  go_enter Tryz.func21, Tryz.ntmps21
  go_wp2_with fail
  go_region_held3 (fun u => Below w.heap.size w u ∧ u.cell? ⟨q, 10, none⟩ = some (.pointer (some ⟨qq, 0, none⟩)) ∧ u.cell? ⟨q, 11, none⟩ = some (.pointer (some ⟨qd, 0, none⟩))) (first | with_reducible assumption | exact HY.out _ (s_alloc (by with_reducible assumption) _)) (first
    | (go_at_call 50; (with_reducible refine (HQ.out _ (And.left (by with_reducible assumption))).mono ?_); rintro e1 w1 ⟨p1, d1, rfl, hli1, hb⟩; have HLA := Lib.hid hli1; have y1 := HY.out _ (s_next (by with_reducible assumption) hb))
    | (go_at_call 51; (with_reducible refine (HD.out _ (And.left (by with_reducible assumption))).mono ?_); rintro e1 w2 ⟨p2, d2, rfl, hli2, hb⟩; have HLB := Lib.hid hli2; have HLA2 := Lib.hid (HLA.out.1.below hb); have y2 := HY.out _ (s_next (by with_reducible assumption) hb))
    | (go_at_call 49; (refine (HCC.out w2 _ _ _ _ _ HLA2.out HLB.out.1 HLA.out.2 HLB.out.2).mono ?_); rintro e1 w3 ⟨v3, rfl, ho, hb⟩; have HO3 := Lib.hid ho; have HB3 := Lib.hid hb; have y3 := HY.out _ (s_next (by with_reducible assumption) hb)))
  have HBW2 := Lib.hid y2.1
  clear y0 y1 y2 y3 HQ HD HCC HLA HLB HLA2 HY
  go_wp2_with (first
    | (go_at_call 52; (with_reducible refine (HSO.out _ _ _ HO3.out HB3.out.size).mono ?_); rintro e1 w4 ⟨rfl, ho, hb⟩; have HO4 := Lib.hid ho; have HB4 := Lib.hid (HB3.out.trans hb); clear ho hb HSO)
    | (go_at_call 53; (with_reducible refine (HCO.out _ _ _ HO4.out HB4.out.size).mono ?_); rintro e1 w5 ⟨p5, d5, rfl, ⟨hl5, -⟩, hb⟩; have HL5 := Lib.hid hl5; have HB5 := Lib.hid (HB4.out.trans hb); clear hl5 hb HCO))
  have HBW5 := Lib.hid (HBW2.out.trans (HB5.out.mono HBW2.out.size))
  clear HO3 HO4 HB3 HB4 HB5 HBW2
  go_loopw [4, 27] (fun o i wr => ∃ (j : Nat) (pq : Option Addr) (d n : Nat), j ≤ l.length ∧ i = .int .i64 (j : Int) ∧ o = .slice pq n d ∧ Hid (Kit.Own pair 84 w5.heap.size wr o (wantsOf c e (l.take j))) ∧ Hid ((wantsOf c e (l.take j)).length = n) ∧ Hid (Below w5.heap.size w5 wr)) (fun _ i _ => l.length - (intOf i).toNat)
  case atStart => exact ⟨0, none, 0, 0, by omega, rfl, rfl, by rw [W0.out]; exact Lib.hid (Kit.Own.none _ _ _ _), by rw [W0.out]; exact Lib.hid rfl, Lib.hid (Below.refl _ _)⟩
  case round =>
    obtain ⟨j, pq, d, n, hj, rfl, rfl, hown, hn, hbw⟩ := hrel
    by_cases hlt : j < l.length
    · have hlt' : (j : Int) < (l.length : Int) := by omega
      obtain ⟨b, o, rfl, hk0⟩ := ints_at (HL5.out.below hbw.out) hlt
      have hn5 : n ≤ 300 := by rw [← hn.out]; exact Nat.le_trans (WL.out j) (by simp; omega)
      have HWS := Lib.hid (WS.out j hlt)
      have HKJ := Lib.hid (HKN.out _ (List.getElem_mem hlt))
      have hge : l[j] = l.getD j 0 := by simp [List.getD, hlt]
      rw [hge] at HKJ
      have c6 := HWD.out wr _ (HBW5.out.trans (hbw.out.mono HBW5.out.size)) HKJ.out
      have hAM := am_amount c e (l.getD j 0)
      clear hge HKN WS WL W0 HW HWD
      generalize wantsOf c e (l.take j) = WJ at *
      generalize l.getD j 0 = key at *
      generalize am c e key = a1 at *
      generalize amount c e key = a2 at *
      by_cases ham : 0 < a1
      · obtain rfl := hAM.2 ham
        have HE := Lib.hid (show wantsOf c e (l.take (j + 1)) = WJ ++ [(key, a1)] by rw [HWS.out, if_pos ham])
        clear HWS hAM
        go_wp2_with (first
          | (go_at_call 54; (with_reducible refine c6.mono ?_); rintro e1 w6 ⟨rfl, hb⟩; have HB6 := Lib.hid (hbw.out.trans (hb.mono hbw.out.size)); have HO6 := Lib.hid (hown.out.on hb); clear hb c6)
          | (at_builtin; refine Kit.push laidW rfl _ _ rfl w5 w6 (.slice pq n d) rfl WJ n hn.out HO6.out HB6.out (lay _ _) w6.heap.size (key, a1) rfl (heap_alloc_new _ _) (by omega) ?_; intro p7 c7 w7 R7 B7))
        go_roundw
        case rel => exact ⟨j + 1, p7, c7, n + 1, by omega, by go_num, rfl, by rw [HE.out]; exact R7, by rw [HE.out]; exact Lib.hid (by rw [List.length_append, hn.out]; rfl), Lib.hid B7⟩
        case measure => simp only [intOf]; omega
      · have ham2 : ¬ 0 < a2 := fun h => ham (hAM.1.2 h)
        have HE := Lib.hid (show wantsOf c e (l.take (j + 1)) = WJ by rw [HWS.out, if_neg ham2])
        clear HWS hAM ham2
        go_wp2_with (go_at_call 54; (with_reducible refine c6.mono ?_); rintro e1 w6 ⟨rfl, hb⟩; have HB6 := Lib.hid (hbw.out.trans (hb.mono hbw.out.size)); have HO6 := Lib.hid (hown.out.on hb); clear hb c6)
        go_roundw
        case rel => exact ⟨j + 1, pq, d, n, by omega, by go_num, rfl, by rw [HE.out]; exact HO6, by rw [HE.out]; exact hn, HB6⟩
        case measure => simp only [intOf]; omega
    · have hlt' : ¬ (j : Int) < (l.length : Int) := by omega
      have HE := Lib.hid (show WW = wantsOf c e (l.take j) by rw [HW.out]; have e : j = l.length := by omega
                                                              subst e; rfl)
      generalize wantsOf c e (l.take j) = WJ at *
      clear WS WL W0 HW HWD HKN
      go_wp2
      have e1 := hn.out
      have e2 := HE.out
      subst e2 e1
      refine bodyPost_ret (v := .slice pq WW.length d) (by simp [results, Tryz.results21, go_sem]) rfl ?_
      obtain ⟨q', d', e', hlq⟩ := Kit.Own.lies hown.out
      rw [Value.slice.injEq] at e'
      obtain ⟨rfl, -, rfl⟩ := e'
      refine ⟨_, ⟨_, rfl⟩, hlq, ?_, HBW5.out.trans (hbw.out.mono HBW5.out.size)⟩
      rintro a rfl
      rcases hown.out.2 with ⟨e, -⟩ | ⟨g, cap, cur, e, -, k, -⟩
      · simp at e
      · simp only [Value.slice.injEq, Option.some.injEq] at e
        obtain ⟨rfl, -, -⟩ := e
        exact ⟨_, _, k⟩
end
end Go.Proofs.YtlbpeeelgpjciaaGreat.Edge
