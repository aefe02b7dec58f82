/-
  maps.Values of a map of leases hands back what gives its leases, each once, in some order, to any loop that leaves maps and their iterators alone; of no map, none.
  slices.Collect of a map's leases: a new slice that has each of them once, in some order; at most 100 of them.
-/
import Derived.RangeFuncNested
import Derived.RangeFuncBound
import Derived.RangeFuncCalls
import Derived.RangeFuncLeaves
import Derived.Shelf.Abstract
import Derived.Shelf.RegionOpen
import Derived.Sort.MapsRangeIn
import Derived.WalkKit
import Derived.OwnWalkIn
import Derived.TacticsInMore
import Derived.LoopNIn
import Derived.LoopIn
import Derived.Test.YtbgdlokegibkmaaGreatMmAh
namespace Go.Proofs.YtbgdlokegibkmaaGreat.Lease
open Go.RowKit Go.Maps Go.Shelf
attribute [local go_sem] Oper.semAt_some
theorem rise_one {l : List Lz} (h : Rise l) {x y : Lz} (hx : x ∈ l) (hy : y ∈ l) (e : x.key = y.key) : x = y := by
  induction l with
  | nil => simp at hx
  | cons a l ih =>
    obtain ⟨h1, h2⟩ := List.pairwise_cons.1 h
    rcases List.mem_cons.1 hx with ex | hx'
    · rcases List.mem_cons.1 hy with ey | hy'
      · rw [ex, ey]
      · have := h1 _ hy'
        rw [← ex] at this
        omega
    · rcases List.mem_cons.1 hy with ey | hy'
      · have := h1 _ hx'
        rw [← ey] at this
        omega
      · exact ih h2 hx' hy'
theorem rise_nodup {l : List Lz} (h : Rise l) : l.Nodup := h.imp fun {a b} hab e => by rw [e] at hab; omega
/-- What has come. -/
structure Got (L : List Lz) (left : Lit → Bool) (ss : List Lz) : Prop where
  once : ss.Nodup
  mem : ∀ x, x ∈ ss ↔ (x ∈ L ∧ left (kl x.key) = false)
theorem Got.start {D : DataW Unit} {L : List Lz} (hi : Is D L) : Got L (Maps.has D) [] := by
  refine ⟨.nil, fun x => ⟨fun h => (by cases h), fun ⟨h, h0⟩ => ?_⟩⟩
  rw [hi.has] at h0
  have h1 := of_decide_eq_false h0
  exact absurd rfl (place_none (l := L) (k := x.key) (by omega) x h)
theorem Got.perm {L : List Lz} {left : Lit → Bool} {ss : List Lz} (h : Got L left ss) (hr : Rise L) (hl : ∀ k, left k = false) : ss.Perm L :=
  (List.perm_ext_iff_of_nodup h.once (rise_nodup hr)).2 fun x => by rw [h.mem x, hl]; simp
theorem came {D : DataW Unit} {L : List Lz} (hi : Is D L) (hr : Rise L) {x : Int} {y : Lz} (hat : ∀ zd, D.atKey (kl x) zd = dat y) : y ∈ L ∧ y.key = x := by
  have h1 := has_true_of_atKey hat
  rw [hi.has] at h1
  have hp := of_decide_eq_true h1
  have h2 := hat (dat z)
  rw [hi.at hr] at h2
  have h3 := dat_inj h2
  unfold found at h3
  rw [if_pos hp] at h3
  obtain ⟨-, hk, hm⟩ := place_some hp
  exact ⟨h3 ▸ hm, h3 ▸ hk⟩
theorem Got.step {L : List Lz} {left : Lit → Bool} {ss : List Lz} (h : Got L left ss) (hr : Rise L) {x : Int} {y : Lz} (hlk : left (kl x) = true) (hy : y ∈ L ∧ y.key = x) : Got L (fun z => left z && !z.sameKey (kl x)) (ss ++ [y]) := by
  obtain ⟨hy, hk⟩ := hy
  have hnew : y ∉ ss := fun hm => by
    have := ((h.mem y).1 hm).2
    rw [hk, hlk] at this
    cases this
  refine ⟨List.nodup_append.2 ⟨h.once, by simp, fun a ha b hb => by simp at hb; subst hb; exact fun e => hnew (e ▸ ha)⟩, fun v => ?_⟩
  rw [List.mem_append, h.mem v, List.mem_singleton, kl_same]
  constructor
  · rintro (⟨h1, h2⟩ | rfl)
    · exact ⟨h1, by simp [h2]⟩
    · exact ⟨hy, by simp [hk]⟩
  · rintro ⟨h1, h2⟩
    by_cases e : v.key = x
    · exact .inr (rise_one hr h1 hy (by rw [e, hk]))
    · left
      refine ⟨h1, ?_⟩
      have : (v.key == x) = false := by simpa using e
      rw [this] at h2
      simpa using h2
set_option maxRecDepth 100000 in
set_option maxHeartbeats 1000000 in
theorem values_in (n : Nat) (hn : 1 ≤ n) (l Bm b nn : Nat) (D : DataW Unit) (L : List Lz) (hi : Is D L) (hr : Rise L) (J Jx : List Lz → World → Prop)
    (hY : ∀ pre x W, J pre W → pre.length < L.length → YieldAt Fence.wide (n - 1) Tryz.prog l #[val x] W fun e W' =>
      (e = .returned (.bool true) ∧ J (pre ++ [x]) W' ∧ KeepsWalks W W') ∨ (e = .returned (.bool false) ∧ Jx (pre ++ [x]) W'))
    (W : World) (hJ : AbidesFrom W.heap.size J) (hm : W.cell? ⟨Bm, 0, none⟩ = some (.map (some b))) (hown : W.ownsMap Tryz.prog 3 rdz b nn D) (h0 : J [] W) :
    CallsIn Fence.wide n Tryz.prog 176 #[.func (.yield l) #[] #[], .pointer (some ⟨Bm, 0, none⟩)] W fun e W' => (∃ v, e = .returned v) ∧
      ((∃ xs, xs.Perm L ∧ J xs W') ∨ (∃ pre, True ∧ Jx pre W')) := by
  refine callsIn_of_wp Tryz.func176 rfl trivial ?_ rfl
  simp only [Tryz.ntmps176, List.size_toArray, List.length_cons, List.length_nil, Nat.reduceAdd, Nat.reduceSub, Array.replicate_succ, Array.replicate_zero, List.push_toArray, List.append_toArray, List.nil_append, List.cons_append]
  gi_wp2_with (first
    | (gi_at_range; refine wpListIn_range_own _ rfl _ 192 rfl 3 135 int_key Tryz.underlying192 rdz b nn _ rfl hown ?_; intro w0 hrg0 hg0 hs0)
    | gi_in)
  go_frame
  gi_loopw [7] (fun _ wr => ∃ (left : Lit → Bool) (cnt : Nat) (ss : List Lz), wr.ranges Tryz.prog 3 rdz b W.heap.size nn D left cnt ∧ ss.length + cnt ≤ L.length ∧ Got L left ss ∧ J ss wr)
    (fun _ wr => wr.rangeLeft b W.heap.size)
  case atStart =>
    exact ⟨_, _, [], hrg0, by simp [hi.size], Got.start hi, hJ [] W w0 none h0 hg0 (fun r e => by cases e)⟩
  case round =>
    obtain ⟨left, cnt, ss, hrg, hcs, hC, hJs⟩ := hrel
    gi_wp2_with (first
      | (gi_at_next; refine wpListIn_next_ranges _ rfl _ rfl 3 int_key rdz (Value.int .i64) val (fun key kl h => by obtain ⟨x, rfl, -⟩ := Maps.keyOf_int_inv Tryz.underlying3 h; exact ⟨x, rfl⟩) (fun v y h => by obtain ⟨x, rfl, -⟩ := rdz_inv h; exact ⟨x, rfl⟩) b W.heap.size nn _ _ _ rfl hrg ?_ ?_)
      | gi_in)
    · intro hc0 hl0
      gi_wp2
      go_end0
      exact ⟨⟨_, rfl⟩, .inl ⟨ss, hC.perm hr hl0, hJs⟩⟩
    · intro x y k1 yd yp w2 cnt2 hkey hlk hv hat hrg2 hlt hg2 hs2 hen
      simp only [rdz_val, Option.some.injEq, Prod.mk.injEq] at hv
      obtain ⟨rfl, rfl⟩ := hv
      obtain ⟨x', ex, rfl, -⟩ := Maps.keyOf_int_inv Tryz.underlying3 hkey
      obtain rfl : x = x' := by simpa using ex
      have hJ2 : J ss w2 := hJ ss wr w2 (some W.heap.size) hJs hg2 (fun r e => by cases e; exact ⟨Nat.le_refl _, hrg.iter_walk⟩)
      have hJ3 : J ss (w2.alloc (.cells #[.int .i64 y.key, .int .i64 y.gen, .int .i64 y.amount, .int .i64 y.spent, .int .i64 y.til] 135)) := hJ ss w2 _ none hJ2 (World.grownBy_alloc _ _ _) (fun r e => by cases e)
      have hrg3 := Lib.hid (hrg2.alloc (.cells #[.int .i64 y.key, .int .i64 y.gen, .int .i64 y.amount, .int .i64 y.spent, .int .i64 y.til] 135))
      have hC2 := hC.step hr hlk (came hi hr hat)
      obtain ⟨fn, tmps, assign, body, hy, hR⟩ := hY ss y _ hJ3 (by omega)
      simp only [val] at hen hy hR ⊢
      clear hs2
      gi_wp2
      refine hR.mono ?_
      rintro e W3 (⟨rfl, hJ4, hk4⟩ | ⟨rfl, hJx4⟩)
      · gi_wp2
        have hrg4 := hrg3.out.of_walks hk4
        go_roundw
        case rel => exact ⟨_, cnt2, ss ++ [y], hrg4, by simp; omega, hC2, hJ4⟩
        case measure => rw [hrg4.left_eq, hrg.left_eq]; exact hlt
      · gi_wp2
        refine bodyPost_ret (results_none rfl _ _ _) rfl ?_
        exact ⟨⟨_, rfl⟩, .inr ⟨ss ++ [y], trivial, hJx4⟩⟩
set_option maxRecDepth 100000 in
set_option maxHeartbeats 1000000 in
theorem values_nil (n : Nat) (l Bm : Nat) (J : List Lz → World → Prop) (W : World) (hJ : AbidesFrom W.heap.size J) (hm : W.cell? ⟨Bm, 0, none⟩ = some (.map none)) (h0 : J [] W) :
    CallsIn Fence.wide n Tryz.prog 176 #[.func (.yield l) #[] #[], .pointer (some ⟨Bm, 0, none⟩)] W fun e W' => (∃ v, e = .returned v) ∧ J [] W' := by
  refine callsIn_of_wp Tryz.func176 rfl trivial ?_ rfl
  simp only [Tryz.ntmps176, List.size_toArray, List.length_cons, List.length_nil, Nat.reduceAdd, Nat.reduceSub, Array.replicate_succ, Array.replicate_zero, List.push_toArray, List.append_toArray, List.nil_append, List.cons_append]
  have hrg := run_range_nilMap (P := Tryz.prog) W 192 _ _ Tryz.underlying192
  have hnx : ∀ ty, (Instr.next (.pointer (some ⟨W.heap.size, 0, none⟩)) false ty).run Tryz.prog (W.alloc (.mapIter none 0 #[] 0)) = _ := fun ty => run_next_nilMap _ ty 0 0 #[]
  gi_wp2
  refine wpIn_loop_rounds 1 ?_
  rw [roundsIn_succ]
  gi_wp2
  go_end0
  exact ⟨⟨_, rfl⟩, hJ [] W _ none h0 (World.grownBy_alloc W _ none) (fun r e => by cases e)⟩
theorem values_stops (n : Nat) (hn : 1 ≤ n) {B Bm : Nat} {w : World} {m : Option Nat} {L : List Lz} (h : Mw B w m L) (hr : Rise L) (hm : w.cell? ⟨Bm, 0, none⟩ = some (.map m)) (hlt : Bm < w.heap.size) :
    SeqStopsK Fence.wide n Tryz.prog 176 #[.pointer (some ⟨Bm, 0, none⟩)] (fun x : Lz => #[val x]) KeepsWalks (fun xs => xs.Perm L) (fun _ => True) L.length w := fun l J Jx W hW hJ _ hY h0 => by
  have hm' := (hW.cell (p := ⟨Bm, 0, none⟩) hlt).trans hm
  rcases h.below hW with ⟨rfl, rfl⟩ | ⟨b, D, rfl, -, ho, hi⟩
  · refine (values_nil n l Bm J W hJ hm' h0).mono ?_
    rintro e W' ⟨hv, hJ'⟩
    exact ⟨hv, .inl ⟨[], .nil, hJ'⟩⟩
  · exact values_in n hn l Bm b _ D L hi hr J Jx hY W hJ hm' ho h0
theorem values_call (n : Nat) (m : Option Nat) (w : World) :
    CallsIn Fence.wide n Tryz.prog 128 #[.map m] w fun e w' => e = .returned (.func (.func 176) #[] #[.pointer (some ⟨w.heap.size, 0, none⟩)]) ∧ w' = w.alloc (.cells #[.map m] 192) := by
  refine callsIn_of_wp Tryz.func128 rfl trivial ?_ rfl
  simp only [Tryz.ntmps128, List.size_toArray, List.length_cons, List.length_nil, Nat.reduceAdd, Nat.reduceSub, Array.replicate_succ, Array.replicate_zero, List.push_toArray, List.append_toArray, List.nil_append, List.cons_append]
  gi_wp2
  go_ret
  exact ⟨rfl, rfl⟩
end Go.Proofs.YtbgdlokegibkmaaGreat.Lease

namespace Go.Proofs.YtbgdlokegibkmaaGreat.Lease
open Go.RowKit Go.Maps Go.Shelf
attribute [local go_sem] Oper.semAt_some
theorem infoL : (Tryz.prog.info? 135).map (fun i => (i.zero, i.size, i.bytes)) = some (some (.agg #[.int .i64 0, .int .i64 0, .int .i64 0, .int .i64 0, .int .i64 0]), 5, 40) := by kernel_rfl
abbrev five (x : Lz) : List Value := [.int .i64 x.key, .int .i64 x.gen, .int .i64 x.amount, .int .i64 x.spent, .int .i64 x.til]
/-- A lease's box. -/
def Bx5 (W : World) (g : Nat) (x : Lz) : Prop := W.heap[g]? = some (.cells #[.int .i64 x.key, .int .i64 x.gen, .int .i64 x.amount, .int .i64 x.spent, .int .i64 x.til] 135 (0, 0))
theorem Bx5.own {W W' : World} {g : Nat} {x : Lz} {row : Option Nat} (h : Bx5 W g x) (hg : W.grownBy W' row) (hr : ∀ r, row = some r → ∃ o : Obj, W.heap[r]? = some o ∧ o.isCells = false) : Bx5 W' g x := by
  refine (hg.block g (Codec.lt_of_heap h) fun e => ?_).trans h
  obtain ⟨o, ho, hc⟩ := hr g e.symm
  rw [show W.heap[g]? = _ from h] at ho
  cases ho
  cases hc
/-- What a round leaves for its body. -/
def Body5 (sv : Value) (Bs : Nat) (x : Lz) (a : Act) (W : World) : Prop :=
  ∃ g, a = { tmps := #[.slice none 0 0, sv, .pointer (some ⟨Bs, 0, none⟩), undef, .slice none 0 0, .pointer (some ⟨g, 0, none⟩), sv, val x, undef, undef, undef, undef, undef], defers := [] } ∧ Bx5 W g x
set_option maxRecDepth 100000 in
set_option maxHeartbeats 2000000 in
theorem appendSeq_wide {L : List Lz} (hlen : L.length ≤ 100) (Bm : Nat) (w0 w : World) (hb0 : Below w0.heap.size w0 w)
    (hseq : SeqStopsK Fence.wide 5 Tryz.prog 176 #[.pointer (some ⟨Bm, 0, none⟩)] (fun x : Lz => #[val x]) KeepsWalks (fun xs => xs.Perm L) (fun _ => True) L.length w0) :
    CallsIn Fence.wide 6 Tryz.prog 208 #[.slice none 0 0, .func (.func 176) #[] #[.pointer (some ⟨Bm, 0, none⟩)]] w fun e W' =>
      ∃ v xs, e = .returned v ∧ xs.Perm L ∧ Own 135 w.heap.size W' v xs ∧ Below w.heap.size w W' := by
  obtain ⟨i0, hi, hz0, hz1, hz2⟩ := info_parts infoL
  have HN := Lib.hid hlen; clear hlen
  refine callsIn_of_wp_marks Tryz.func208 rfl trivial ?_ rfl
  simp only [Tryz.ntmps208, List.size_toArray, List.length_cons, List.length_nil, Nat.reduceAdd, Nat.reduceSub, Array.replicate_succ, Array.replicate_zero, List.push_toArray, List.append_toArray, List.nil_append, List.cons_append]
  gi_wp2
  have bO := Boxed.new w 65 (.slice none 0 0)
  have hB0 : Below w.heap.size w (w.alloc (.cells #[.slice none 0 0] 65)) := lay _ _
  refine wpIn_rangeFunc_ownH rfl (by decide) (gf := 176) (lb := #[.pointer (some ⟨Bm, 0, none⟩)]) rfl trivial (enters_of Tryz.func176 (by kernel_rfl) rfl)
    hseq walksK_t walksK_b (hb0.trans (hB0.mono hb0.size)) (fun _ => rfl)
    (fun pre W => (∃ v, Boxed W w.heap.size 65 v ∧ W.ownsRow w.heap.size 135 5 v pre.length (cells5 pre) ∧ True) ∧ Below w.heap.size w W)
    (fun _ _ _ => False)
    (OwnFrom.and (Own.from (holdsRow_own w.heap.size w.heap.size 65 135 5 (fun pre : List Lz => pre.length) cells5 (fun _ _ => True)) _) (ownFrom_below (Nat.le_refl _) (by simp)))
    (fun _ _ _ _ _ hs _ _ => hs)
    ⟨⟨_, bO, ⟨rfl, .inl ⟨rfl, rfl⟩⟩, trivial⟩, hB0⟩
    (Body5 (.func (.func 176) #[] #[.pointer (some ⟨Bm, 0, none⟩)]) w.heap.size)
    (fun x a' _ X Y row hs hg hr => by
      obtain ⟨g, e, h⟩ := hs
      exact ⟨g, e, h.own hg fun r er => (hr r er).2⟩) ?assign ?body ?done ?stop
  case assign =>
    intro l pre x W K hI hK
    simp only [val]
    gi_wp2
    refine hK _ _ ((KeepsOthers.alloc _ _).from _) (KeepsWalks.alloc _ _) ?_ ⟨_, rfl, ?_⟩
    · obtain ⟨⟨v, hv, hrow, ht⟩, hB⟩ := hI
      exact ⟨⟨v, hv.alloc _, hrow.alloc _, ht⟩, hB.alloc hB.size _⟩
    · exact (MapKept.heap_alloc _ _).1
  case body =>
    rintro l pre x a' W hl hrec ⟨⟨v, hv, hrow, _⟩, hB⟩ ⟨g, rfl, hx⟩ hlt
    have hc := hv.cell
    obtain ⟨x0, x1, x2, x3, x4⟩ := box5 hx
    have hml : pre.length + 1 ≤ 100 := by have := HN.out; omega
    simp only [val]
    gi_wp2_with (gi_at_builtin; refine wpListIn_append_own _ rfl _ _ 65 rfl w.heap.size 135 i0 (.agg #[.int .i64 0, .int .i64 0, .int .i64 0, .int .i64 0, .int .i64 0]) 5 40 Tryz.underlying65 hi hz0 hz1 hz2 rfl (by decide) _ _ _ rfl (hrow.alloc _) ⟨W.heap.size, 0, none⟩ 1 1 [.int .i64 x.key, .int .i64 x.gen, .int .i64 x.amount, .int .i64 x.spent, .int .i64 x.til] rfl rfl (World.news_of_block (MapKept.heap_alloc W _).1) (by intro u hu; simp at hu; rcases hu with rfl | rfl | rfl | rfl | rfl <;> rfl) (by unfold maxLen; omega) (by omega) (by have := hB.size; simp; omega) ?_; intro v' w2 hown' hgrow _; obtain ⟨g', cap', rfl⟩ := ownsRow_succ hown'; obtain ⟨hv1, hv2, hr2, hk2, hb2⟩ := hv.appended (by decide) hrow hB.size (Nat.le_refl _) hown' hgrow; have hc1 := hv1.cell; have hf1 := hv1.frozen)
    exact ⟨hk2.from _, hk2.walks, ⟨⟨_, hv2, by rw [cells5_snoc, List.length_append]; exact hr2, trivial⟩, hB.trans hb2⟩⟩
  case done =>
    rintro D xs W hD hp ⟨⟨v, hv, hrow, _⟩, hB⟩ hK
    have hc := hv.cell
    gi_wp2
    refine ⟨by simp, .inl ⟨_, _, rfl, run_takeDeferred hK, ?_⟩⟩
    exact ⟨_, results_tmp rfl _ _ _, v, xs, rfl, hp, ownsRow_putObj hrow _ hK rfl, hB.trans (belowK_b (w := w) (Nat.le_refl _) W D _ _ (by simp at hD; omega) hK rfl rfl)⟩
  case stop =>
    rintro D c pre W _ _ h _
    exact h.elim
set_option maxRecDepth 100000 in
theorem collect_any {L : List Lz} (hlen : L.length ≤ 100) (Bm : Nat) (w0 w : World) (hb0 : Below w0.heap.size w0 w)
    (hseq : SeqStopsK Fence.wide 5 Tryz.prog 176 #[.pointer (some ⟨Bm, 0, none⟩)] (fun x : Lz => #[val x]) KeepsWalks (fun xs => xs.Perm L) (fun _ => True) L.length w0) :
    Calls Tryz.prog 174 #[.func (.func 176) #[] #[.pointer (some ⟨Bm, 0, none⟩)]] w fun e W' =>
      ∃ v xs, e = .returned v ∧ xs.Perm L ∧ Own 135 w.heap.size W' v xs ∧ Below w.heap.size w W' := by
  have ha := callsIn_wide.1 (appendSeq_wide hlen Bm w0 w hb0 hseq)
  clear hseq
  go_enter Tryz.func174, Tryz.ntmps174
  go_wp2_with (go_at_call 208; refine ha.mono ?_; clear ha; rintro e u ⟨v, xs, rfl, hp, ho, hb⟩)
  go_ret
  exact ⟨v, xs, rfl, hp, ho, hb⟩
end Go.Proofs.YtbgdlokegibkmaaGreat.Lease
