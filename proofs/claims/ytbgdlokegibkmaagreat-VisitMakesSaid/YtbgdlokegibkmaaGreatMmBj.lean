/-
  maps.Keys of the estimates' map hands back what gives its keys, each once, in some order, to any loop that leaves maps and their iterators alone; of no map, none.
  slices.Collect of the estimates' keys: a new slice that has each of them once, in some order; at most 1000 of them.
-/
import Derived.RangeFuncNested
import Derived.RangeFuncBound
import Derived.RangeFuncCalls
import Derived.RangeFuncLeaves
import Derived.Shelf.Abstract
import Derived.Shelf.RegionOpen
import Derived.Sort.MapsRangeIn
import Derived.WalkKit
import Derived.OwnWalkIn
import Derived.TacticsInMore
import Derived.LoopNIn
import Derived.LoopIn
import Derived.Test.YtbgdlokegibkmaaGreatMmAj
namespace Go.Proofs.YtbgdlokegibkmaaGreat.Demand
open Go.RowKit Go.Maps Go.Shelf
attribute [local go_sem] Oper.semAt_some
/-- What has come. -/
structure Got (L : List Nt) (left : Lit → Bool) (ss : List Int) : Prop where
  once : ss.Nodup
  mem : ∀ x, x ∈ ss ↔ (of L x ≠ 0 ∧ left (kl x) = false)
theorem Got.start {D : DataW Unit} {L : List Nt} (hi : Is D L) : Got L (Maps.has D) [] := by
  refine ⟨.nil, fun x => ⟨fun h => (by cases h), fun ⟨h, h0⟩ => ?_⟩⟩
  rw [hi.has] at h0
  exact absurd h (of_decide_eq_false h0)
theorem Got.perm {L : List Nt} {left : Lit → Bool} {ss : List Int} (h : Got L left ss) (hl : ∀ k, left k = false) : ss.Perm (keys L) :=
  (List.perm_ext_iff_of_nodup h.once (nodup_rise (keys_rise L))).2 fun x => by rw [h.mem x, hl, keys_mem]; simp
theorem came {D : DataW Unit} {L : List Nt} (hi : Is D L) {x : Int} {y : DataW Unit} (hat : ∀ zd, D.atKey (kl x) zd = y) : of L x ≠ 0 := by
  have h1 := has_true_of_atKey hat
  rw [hi.has] at h1
  exact of_decide_eq_true h1
theorem Got.step {L : List Nt} {left : Lit → Bool} {ss : List Int} (h : Got L left ss) {x : Int} (hlk : left (kl x) = true) (hy : of L x ≠ 0) : Got L (fun z => left z && !z.sameKey (kl x)) (ss ++ [x]) := by
  have hnew : x ∉ ss := fun hm => by
    have := ((h.mem x).1 hm).2
    rw [hlk] at this
    cases this
  refine ⟨List.nodup_append.2 ⟨h.once, by simp, fun a ha b hb => by simp at hb; subst hb; exact fun e => hnew (e ▸ ha)⟩, fun v => ?_⟩
  rw [List.mem_append, h.mem v, List.mem_singleton, kl_same]
  constructor
  · rintro (⟨h1, h2⟩ | rfl)
    · exact ⟨h1, by simp [h2]⟩
    · exact ⟨hy, by simp⟩
  · rintro ⟨h1, h2⟩
    by_cases e : v = x
    · exact .inr e
    · left
      refine ⟨h1, ?_⟩
      have : (v == x) = false := by simpa using e
      rw [this] at h2
      simpa using h2
set_option maxRecDepth 100000 in
set_option maxHeartbeats 1000000 in
theorem keys_in (n : Nat) (hn : 1 ≤ n) (l Bm b nn : Nat) (D : DataW Unit) (L : List Nt) (hi : Is D L) (J Jx : List Int → World → Prop)
    (hY : ∀ pre x W, J pre W → pre.length < (keys L).length → YieldAt Fence.wide (n - 1) Tryz.prog l #[.int .i64 x] W fun e W' =>
      (e = .returned (.bool true) ∧ J (pre ++ [x]) W' ∧ KeepsWalks W W') ∨ (e = .returned (.bool false) ∧ Jx (pre ++ [x]) W'))
    (W : World) (hJ : AbidesFrom W.heap.size J) (hm : W.cell? ⟨Bm, 0, none⟩ = some (.map (some b))) (hown : W.ownsMap Tryz.prog 3 rdi b nn D) (h0 : J [] W) :
    CallsIn Fence.wide n Tryz.prog 227 #[.func (.yield l) #[] #[], .pointer (some ⟨Bm, 0, none⟩)] W fun e W' => (∃ v, e = .returned v) ∧
      ((∃ xs, xs.Perm (keys L) ∧ J xs W') ∨ (∃ pre, True ∧ Jx pre W')) := by
  refine callsIn_of_wp Tryz.func227 rfl trivial ?_ rfl
  simp only [Tryz.ntmps227, List.size_toArray, List.length_cons, List.length_nil, Nat.reduceAdd, Nat.reduceSub, Array.replicate_succ, Array.replicate_zero, List.push_toArray, List.append_toArray, List.nil_append, List.cons_append]
  gi_wp2_with (first
    | (gi_at_range; refine wpListIn_range_own _ rfl _ 198 rfl 3 3 int_key Tryz.underlying198 rdi b nn _ rfl hown ?_; intro w0 hrg0 hg0 hs0)
    | gi_in)
  go_frame
  gi_loopw [7] (fun _ wr => ∃ (left : Lit → Bool) (cnt : Nat) (ss : List Int), wr.ranges Tryz.prog 3 rdi b W.heap.size nn D left cnt ∧ ss.length + cnt ≤ (keys L).length ∧ Got L left ss ∧ J ss wr)
    (fun _ wr => wr.rangeLeft b W.heap.size)
  case atStart =>
    exact ⟨_, _, [], hrg0, by simp [hi.size], Got.start hi, hJ [] W w0 none h0 hg0 (fun r e => by cases e)⟩
  case round =>
    obtain ⟨left, cnt, ss, hrg, hcs, hC, hJs⟩ := hrel
    gi_wp2_with (first
      | (gi_at_next; refine wpListIn_next_ranges _ rfl _ rfl 3 int_key rdi (Value.int .i64) (Value.int .i64) (fun key kl h => by obtain ⟨x, rfl, -⟩ := Maps.keyOf_int_inv Tryz.underlying3 h; exact ⟨x, rfl⟩) (fun v y h => by obtain ⟨x, rfl, -⟩ := rdi_inv h; exact ⟨x, rfl⟩) b W.heap.size nn _ _ _ rfl hrg ?_ ?_)
      | gi_in)
    · intro hc0 hl0
      gi_wp2
      go_end0
      exact ⟨⟨_, rfl⟩, .inl ⟨ss, hC.perm hl0, hJs⟩⟩
    · intro x y k1 yd yp w2 cnt2 hkey hlk hv hat hrg2 hlt hg2 hs2 hen
      obtain ⟨x', ex, rfl, -⟩ := Maps.keyOf_int_inv Tryz.underlying3 hkey
      obtain rfl : x = x' := by simpa using ex
      have hJ2 : J ss w2 := hJ ss wr w2 (some W.heap.size) hJs hg2 (fun r e => by cases e; exact ⟨Nat.le_refl _, hrg.iter_walk⟩)
      have hC2 := hC.step hlk (came hi hat)
      obtain ⟨fn, tmps, assign, body, hy, hR⟩ := hY ss x _ hJ2 (by omega)
      have hrg3 := Lib.hid hrg2
      clear hs2 hv
      gi_wp2
      refine hR.mono ?_
      rintro e W3 (⟨rfl, hJ4, hk4⟩ | ⟨rfl, hJx4⟩)
      · gi_wp2
        have hrg4 := hrg3.out.of_walks hk4
        go_roundw
        case rel => exact ⟨_, cnt2, ss ++ [x], hrg4, by simp; omega, hC2, hJ4⟩
        case measure => rw [hrg4.left_eq, hrg.left_eq]; exact hlt
      · gi_wp2
        refine bodyPost_ret (results_none rfl _ _ _) rfl ?_
        exact ⟨⟨_, rfl⟩, .inr ⟨ss ++ [x], trivial, hJx4⟩⟩
set_option maxRecDepth 100000 in
set_option maxHeartbeats 1000000 in
theorem keys_nil (n : Nat) (l Bm : Nat) (J : List Int → World → Prop) (W : World) (hJ : AbidesFrom W.heap.size J) (hm : W.cell? ⟨Bm, 0, none⟩ = some (.map none)) (h0 : J [] W) :
    CallsIn Fence.wide n Tryz.prog 227 #[.func (.yield l) #[] #[], .pointer (some ⟨Bm, 0, none⟩)] W fun e W' => (∃ v, e = .returned v) ∧ J [] W' := by
  refine callsIn_of_wp Tryz.func227 rfl trivial ?_ rfl
  simp only [Tryz.ntmps227, List.size_toArray, List.length_cons, List.length_nil, Nat.reduceAdd, Nat.reduceSub, Array.replicate_succ, Array.replicate_zero, List.push_toArray, List.append_toArray, List.nil_append, List.cons_append]
  have hrg := run_range_nilMap (P := Tryz.prog) W 198 _ _ Tryz.underlying198
  have hnx : ∀ ty, (Instr.next (.pointer (some ⟨W.heap.size, 0, none⟩)) false ty).run Tryz.prog (W.alloc (.mapIter none 0 #[] 0)) = _ := fun ty => run_next_nilMap _ ty 0 0 #[]
  gi_wp2
  refine wpIn_loop_rounds 1 ?_
  rw [roundsIn_succ]
  gi_wp2
  go_end0
  exact ⟨⟨_, rfl⟩, hJ [] W _ none h0 (World.grownBy_alloc W _ none) (fun r e => by cases e)⟩
theorem keys_stops (n : Nat) (hn : 1 ≤ n) {B Bm : Nat} {w : World} {m : Option Nat} {L : List Nt} (h : Mw B w m L) (hm : w.cell? ⟨Bm, 0, none⟩ = some (.map m)) (hlt : Bm < w.heap.size) :
    SeqStopsK Fence.wide n Tryz.prog 227 #[.pointer (some ⟨Bm, 0, none⟩)] (fun x : Int => #[.int .i64 x]) KeepsWalks (fun xs => xs.Perm (keys L)) (fun _ => True) (keys L).length w := fun l J Jx W hW hJ _ hY h0 => by
  have hm' := (hW.cell (p := ⟨Bm, 0, none⟩) hlt).trans hm
  rcases h.below hW with ⟨rfl, hk⟩ | ⟨b, D, rfl, -, ho, hi⟩
  · refine (keys_nil n l Bm J W hJ hm' h0).mono ?_
    rintro e W' ⟨hv, hJ'⟩
    exact ⟨hv, .inl ⟨[], by rw [hk], hJ'⟩⟩
  · exact keys_in n hn l Bm b _ D L hi J Jx hY W hJ hm' ho h0
theorem keys_call (n : Nat) (m : Option Nat) (w : World) :
    CallsIn Fence.wide n Tryz.prog 198 #[.map m] w fun e w' => e = .returned (.func (.func 227) #[] #[.pointer (some ⟨w.heap.size, 0, none⟩)]) ∧ w' = w.alloc (.cells #[.map m] 198) := by
  refine callsIn_of_wp Tryz.func198 rfl trivial ?_ rfl
  simp only [Tryz.ntmps198, List.size_toArray, List.length_cons, List.length_nil, Nat.reduceAdd, Nat.reduceSub, Array.replicate_succ, Array.replicate_zero, List.push_toArray, List.append_toArray, List.nil_append, List.cons_append]
  gi_wp2
  go_ret
  exact ⟨rfl, rfl⟩
end Go.Proofs.YtbgdlokegibkmaaGreat.Demand

namespace Go.Proofs.YtbgdlokegibkmaaGreat.Demand
open Go.RowKit Go.Maps Go.Shelf
open _root_.Go.Proofs.YtbgdlokegibkmaaGreat.Kit (ints cells lt_heap)
attribute [local go_sem] Oper.semAt_some
theorem infoI : (Tryz.prog.info? 3).map (fun i => (i.zero, i.size, i.bytes)) = some (some (.int .i64 0), 1, 8) := by kernel_rfl
/-- What a round leaves for its body. -/
def Body1 (sv : Value) (Bs : Nat) (x : Int) (a : Act) (_ : World) : Prop :=
  a = { tmps := #[.slice none 0 0, sv, .pointer (some ⟨Bs, 0, none⟩), undef, .slice none 0 0, .int .i64 x, sv, .int .i64 x, undef, undef, undef, undef, undef], defers := [] }
set_option maxRecDepth 100000 in
set_option maxHeartbeats 2000000 in
theorem appendSeq_wide {L : List Nt} (hlen : (keys L).length ≤ 1000) (Bm : Nat) (w0 w : World) (hb0 : Below w0.heap.size w0 w)
    (hseq : SeqStopsK Fence.wide 5 Tryz.prog 227 #[.pointer (some ⟨Bm, 0, none⟩)] (fun x : Int => #[.int .i64 x]) KeepsWalks (fun xs => xs.Perm (keys L)) (fun _ => True) (keys L).length w0) :
    CallsIn Fence.wide 6 Tryz.prog 245 #[.slice none 0 0, .func (.func 227) #[] #[.pointer (some ⟨Bm, 0, none⟩)]] w fun e W' =>
      ∃ v xs, e = .returned v ∧ xs.Perm (keys L) ∧ Kit.Own ints 3 w.heap.size W' v xs ∧ Below w.heap.size w W' := by
  obtain ⟨i0, hi, hz0, hz1, hz2⟩ := info_parts infoI
  have HN := Lib.hid hlen; clear hlen
  refine callsIn_of_wp_marks Tryz.func245 rfl trivial ?_ rfl
  simp only [Tryz.ntmps245, List.size_toArray, List.length_cons, List.length_nil, Nat.reduceAdd, Nat.reduceSub, Array.replicate_succ, Array.replicate_zero, List.push_toArray, List.append_toArray, List.nil_append, List.cons_append]
  gi_wp2
  have bO := Boxed.new w 25 (.slice none 0 0)
  have hB0 : Below w.heap.size w (w.alloc (.cells #[.slice none 0 0] 25)) := lay _ _
  refine wpIn_rangeFunc_ownH rfl (by decide) (gf := 227) (lb := #[.pointer (some ⟨Bm, 0, none⟩)]) rfl trivial (enters_of Tryz.func227 (by kernel_rfl) rfl)
    hseq walksK_t walksK_b (hb0.trans (hB0.mono hb0.size)) (fun _ => rfl)
    (fun pre W => (∃ v, Boxed W w.heap.size 25 v ∧ W.ownsRow w.heap.size 3 1 v pre.length (cells ints pre) ∧ True) ∧ Below w.heap.size w W)
    (fun _ _ _ => False)
    (OwnFrom.and (Own.from (holdsRow_own w.heap.size w.heap.size 25 3 1 (fun pre : List Int => pre.length) (cells ints) (fun _ _ => True)) _) (ownFrom_below (Nat.le_refl _) (by simp)))
    (fun _ _ _ _ _ hs _ _ => hs)
    ⟨⟨_, bO, ⟨rfl, .inl ⟨rfl, rfl⟩⟩, trivial⟩, hB0⟩
    (Body1 (.func (.func 227) #[] #[.pointer (some ⟨Bm, 0, none⟩)]) w.heap.size)
    (fun x a' _ X Y row hs hg hr => hs) ?assign ?body ?done ?stop
  case assign =>
    intro l pre x W K hI hK
    gi_wp2
    exact hK _ _ ((KeepsOthers.refl _).from _) (KeepsWalks.refl _) hI rfl
  case body =>
    rintro l pre x a' W hl hrec ⟨⟨v, hv, hrow, _⟩, hB⟩ rfl hlt
    have hc := hv.cell
    have hml : pre.length + 1 ≤ 1000 := by have := HN.out; omega
    gi_wp2_with (gi_at_builtin; refine wpListIn_append_own _ rfl _ _ 25 rfl w.heap.size 3 i0 (.int .i64 0) 1 8 Tryz.underlying25 hi hz0 hz1 hz2 rfl (by decide) _ _ _ rfl (hrow.alloc _) ⟨W.heap.size, 0, none⟩ 1 1 [.int .i64 x] rfl rfl (World.news_of_block (MapKept.heap_alloc W _).1) (by intro u hu; simp at hu; subst hu; rfl) (by unfold maxLen; omega) (by omega) (by have := hB.size; simp; omega) ?_; intro v' w2 hown' hgrow _; obtain ⟨g', cap', rfl⟩ := ownsRow_succ hown'; obtain ⟨hv1, hv2, hr2, hk2, hb2⟩ := hv.appended (by decide) hrow hB.size (Nat.le_refl _) hown' hgrow; have hc1 := hv1.cell; have hf1 := hv1.frozen)
    exact ⟨hk2.from _, hk2.walks, ⟨⟨_, hv2, by rw [Kit.cells_snoc, List.length_append]; exact hr2, trivial⟩, hB.trans hb2⟩⟩
  case done =>
    rintro D xs W hD hp ⟨⟨v, hv, hrow, _⟩, hB⟩ hK
    have hc := hv.cell
    gi_wp2
    refine ⟨by simp, .inl ⟨_, _, rfl, run_takeDeferred hK, ?_⟩⟩
    exact ⟨_, results_tmp rfl _ _ _, v, xs, rfl, hp, ownsRow_putObj hrow _ hK rfl, hB.trans (belowK_b (w := w) (Nat.le_refl _) W D _ _ (by simp at hD; omega) hK rfl rfl)⟩
  case stop =>
    rintro D c pre W _ _ h _
    exact h.elim
set_option maxRecDepth 100000 in
theorem collect_any {L : List Nt} (hlen : (keys L).length ≤ 1000) (Bm : Nat) (w0 w : World) (hb0 : Below w0.heap.size w0 w)
    (hseq : SeqStopsK Fence.wide 5 Tryz.prog 227 #[.pointer (some ⟨Bm, 0, none⟩)] (fun x : Int => #[.int .i64 x]) KeepsWalks (fun xs => xs.Perm (keys L)) (fun _ => True) (keys L).length w0) :
    Calls Tryz.prog 226 #[.func (.func 227) #[] #[.pointer (some ⟨Bm, 0, none⟩)]] w fun e W' =>
      ∃ v xs, e = .returned v ∧ xs.Perm (keys L) ∧ Kit.Own ints 3 w.heap.size W' v xs ∧ Below w.heap.size w W' := by
  have ha := callsIn_wide.1 (appendSeq_wide hlen Bm w0 w hb0 hseq)
  clear hseq
  go_enter Tryz.func226, Tryz.ntmps226
  go_wp2_with (go_at_call 245; refine ha.mono ?_; clear ha; rintro e u ⟨v, xs, rfl, hp, ho, hb⟩)
  go_ret
  exact ⟨v, xs, rfl, hp, ho, hb⟩
end Go.Proofs.YtbgdlokegibkmaaGreat.Demand
