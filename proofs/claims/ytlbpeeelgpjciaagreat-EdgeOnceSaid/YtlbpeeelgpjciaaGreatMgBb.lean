/-
  maps.Values of a map of leases hands back what gives its leases, each once, in some order, to any loop that leaves maps and their iterators alone; of no map, none.
  slices.Collect of a map's leases: a new slice that has each of them once, in some order; at most 100 of them.
  All of any wallet of leases that rise by keys, at most 100 of them, and of none: a new slice of them, by keys, rising.
  The program's Leases, of any edge that is kept well; its calls on no edge.
  The program's edge does what is asked of it.
-/
import Derived.RangeFuncNested
import Derived.RangeFuncBound
import Derived.RangeFuncCalls
import Derived.RangeFuncLeaves
import Derived.Shelf.Abstract
import Derived.Shelf.RegionOpen
import Derived.Sort.MapsRangeIn
import Derived.WalkKit
import Derived.OwnWalkIn
import Derived.TacticsInMore
import Derived.LoopNIn
import Derived.LoopIn
import Derived.Test.YtlbpeeelgpjciaaGreatMgAq
import Derived.Test.YtlbpeeelgpjciaaGreatShelf
import Derived.Test.YtlbpeeelgpjciaaGreatMgAx
import Derived.Test.YtlbpeeelgpjciaaGreatMgAy
import Derived.Test.YtlbpeeelgpjciaaGreatMgBa
namespace Go.Proofs.YtlbpeeelgpjciaaGreat.Lease
open Go.RowKit Go.Maps Go.Shelf
attribute [local go_sem] Oper.semAt_some

theorem rise_one {l : List Lz} (h : Rise l) {x y : Lz} (hx : x ∈ l) (hy : y ∈ l) (e : x.key = y.key) : x = y := by
  induction l with
  | nil => simp at hx
  | cons a l ih =>
    obtain ⟨h1, h2⟩ := List.pairwise_cons.1 h
    rcases List.mem_cons.1 hx with ex | hx'
    · rcases List.mem_cons.1 hy with ey | hy'
      · rw [ex, ey]
      · have := h1 _ hy'
        rw [← ex] at this
        omega
    · rcases List.mem_cons.1 hy with ey | hy'
      · have := h1 _ hx'
        rw [← ey] at this
        omega
      · exact ih h2 hx' hy'
theorem rise_nodup {l : List Lz} (h : Rise l) : l.Nodup := h.imp fun {a b} hab e => by rw [e] at hab; omega
/-- What has come. -/
structure Got (L : List Lz) (left : Lit → Bool) (ss : List Lz) : Prop where
  once : ss.Nodup
  mem : ∀ x, x ∈ ss ↔ (x ∈ L ∧ left (kl x.key) = false)
theorem Got.start {D : DataW Unit} {L : List Lz} (hi : Is D L) : Got L (Maps.has D) [] := by
  refine ⟨.nil, fun x => ⟨fun h => (by cases h), fun ⟨h, h0⟩ => ?_⟩⟩
  rw [hi.has] at h0
  have h1 := of_decide_eq_false h0
  exact absurd rfl (place_none (l := L) (k := x.key) (by omega) x h)
theorem Got.perm {L : List Lz} {left : Lit → Bool} {ss : List Lz} (h : Got L left ss) (hr : Rise L) (hl : ∀ k, left k = false) : ss.Perm L :=
  (List.perm_ext_iff_of_nodup h.once (rise_nodup hr)).2 fun x => by rw [h.mem x, hl]; simp
theorem came {D : DataW Unit} {L : List Lz} (hi : Is D L) (hr : Rise L) {x : Int} {y : Lz} (hat : ∀ zd, D.atKey (kl x) zd = dat y) : y ∈ L ∧ y.key = x := by
  have h1 := has_true_of_atKey hat
  rw [hi.has] at h1
  have hp := of_decide_eq_true h1
  have h2 := hat (dat z)
  rw [hi.at hr] at h2
  have h3 := dat_inj h2
  unfold found at h3
  rw [if_pos hp] at h3
  obtain ⟨-, hk, hm⟩ := place_some hp
  exact ⟨h3 ▸ hm, h3 ▸ hk⟩
theorem Got.step {L : List Lz} {left : Lit → Bool} {ss : List Lz} (h : Got L left ss) (hr : Rise L) {x : Int} {y : Lz} (hlk : left (kl x) = true) (hy : y ∈ L ∧ y.key = x) : Got L (fun z => left z && !z.sameKey (kl x)) (ss ++ [y]) := by
  obtain ⟨hy, hk⟩ := hy
  have hnew : y ∉ ss := fun hm => by
    have := ((h.mem y).1 hm).2
    rw [hk, hlk] at this
    cases this
  refine ⟨List.nodup_append.2 ⟨h.once, by simp, fun a ha b hb => by simp at hb; subst hb; exact fun e => hnew (e ▸ ha)⟩, fun v => ?_⟩
  rw [List.mem_append, h.mem v, List.mem_singleton, kl_same]
  constructor
  · rintro (⟨h1, h2⟩ | rfl)
    · exact ⟨h1, by simp [h2]⟩
    · exact ⟨hy, by simp [hk]⟩
  · rintro ⟨h1, h2⟩
    by_cases e : v.key = x
    · exact .inr (rise_one hr h1 hy (by rw [e, hk]))
    · left
      refine ⟨h1, ?_⟩
      have : (v.key == x) = false := by simpa using e
      rw [this] at h2
      simpa using h2

set_option maxRecDepth 100000 in
set_option maxHeartbeats 1000000 in
theorem values_in (n : Nat) (hn : 1 ≤ n) (l Bm b nn : Nat) (D : DataW Unit) (L : List Lz) (hi : Is D L) (hr : Rise L) (J Jx : List Lz → World → Prop)
    (hY : ∀ pre x W, J pre W → pre.length < L.length → YieldAt Fence.wide (n - 1) Tryz.prog l #[val x] W fun e W' =>
      (e = .returned (.bool true) ∧ J (pre ++ [x]) W' ∧ KeepsWalks W W') ∨ (e = .returned (.bool false) ∧ Jx (pre ++ [x]) W'))
    (W : World) (hJ : AbidesFrom W.heap.size J) (hm : W.cell? ⟨Bm, 0, none⟩ = some (.map (some b))) (hown : W.ownsMap Tryz.prog 3 rdz b nn D) (h0 : J [] W) :
    CallsIn Fence.wide n Tryz.prog 131 #[.func (.yield l) #[] #[], .pointer (some ⟨Bm, 0, none⟩)] W fun e W' => (∃ v, e = .returned v) ∧
      ((∃ xs, xs.Perm L ∧ J xs W') ∨ (∃ pre, True ∧ Jx pre W')) := by
  refine callsIn_of_wp Tryz.func131 rfl trivial ?_ rfl
  simp only [Tryz.ntmps131, List.size_toArray, List.length_cons, List.length_nil, Nat.reduceAdd, Nat.reduceSub, Array.replicate_succ, Array.replicate_zero, List.push_toArray, List.append_toArray, List.nil_append, List.cons_append]
  gi_wp2_with (first
    | (gi_at_range; refine wpListIn_range_own _ rfl _ 139 rfl 3 40 int_key Tryz.underlying139 rdz b nn _ rfl hown ?_; intro w0 hrg0 hg0 hs0)
    | gi_in)
  go_frame
  gi_loopw [7] (fun _ wr => ∃ (left : Lit → Bool) (cnt : Nat) (ss : List Lz), wr.ranges Tryz.prog 3 rdz b W.heap.size nn D left cnt ∧ ss.length + cnt ≤ L.length ∧ Got L left ss ∧ J ss wr)
    (fun _ wr => wr.rangeLeft b W.heap.size)
  case atStart =>
    exact ⟨_, _, [], hrg0, by simp [hi.size], Got.start hi, hJ [] W w0 none h0 hg0 (fun r e => by cases e)⟩
  case round =>
    obtain ⟨left, cnt, ss, hrg, hcs, hC, hJs⟩ := hrel
    gi_wp2_with (first
      | (gi_at_next; refine wpListIn_next_ranges _ rfl _ rfl 3 int_key rdz (Value.int .i64) val (fun key kl h => by obtain ⟨x, rfl, -⟩ := Maps.keyOf_int_inv Tryz.underlying3 h; exact ⟨x, rfl⟩) (fun v y h => by obtain ⟨x, rfl, -⟩ := rdz_inv h; exact ⟨x, rfl⟩) b W.heap.size nn _ _ _ rfl hrg ?_ ?_)
      | gi_in)
    · intro hc0 hl0
      gi_wp2
      go_end0
      exact ⟨⟨_, rfl⟩, .inl ⟨ss, hC.perm hr hl0, hJs⟩⟩
    · intro x y k1 yd yp w2 cnt2 hkey hlk hv hat hrg2 hlt hg2 hs2 hen
      simp only [rdz_val, Option.some.injEq, Prod.mk.injEq] at hv
      obtain ⟨rfl, rfl⟩ := hv
      obtain ⟨x', ex, rfl, -⟩ := Maps.keyOf_int_inv Tryz.underlying3 hkey
      obtain rfl : x = x' := by simpa using ex
      have hJ2 : J ss w2 := hJ ss wr w2 (some W.heap.size) hJs hg2 (fun r e => by cases e; exact ⟨Nat.le_refl _, hrg.iter_walk⟩)
      have hJ3 : J ss (w2.alloc (.cells #[.int .i64 y.key, .int .i64 y.gen, .int .i64 y.amount, .int .i64 y.spent, .int .i64 y.til] 40)) := hJ ss w2 _ none hJ2 (World.grownBy_alloc _ _ _) (fun r e => by cases e)
      have hrg3 := Lib.hid (hrg2.alloc (.cells #[.int .i64 y.key, .int .i64 y.gen, .int .i64 y.amount, .int .i64 y.spent, .int .i64 y.til] 40))
      have hC2 := hC.step hr hlk (came hi hr hat)
      obtain ⟨fn, tmps, assign, body, hy, hR⟩ := hY ss y _ hJ3 (by omega)
      simp only [val] at hen hy hR ⊢
      clear hs2
      gi_wp2
      refine hR.mono ?_
      rintro e W3 (⟨rfl, hJ4, hk4⟩ | ⟨rfl, hJx4⟩)
      · gi_wp2
        have hrg4 := hrg3.out.of_walks hk4
        go_roundw
        case rel => exact ⟨_, cnt2, ss ++ [y], hrg4, by simp; omega, hC2, hJ4⟩
        case measure => rw [hrg4.left_eq, hrg.left_eq]; exact hlt
      · gi_wp2
        refine bodyPost_ret (results_none rfl _ _ _) rfl ?_
        exact ⟨⟨_, rfl⟩, .inr ⟨ss ++ [y], trivial, hJx4⟩⟩
set_option maxRecDepth 100000 in
set_option maxHeartbeats 1000000 in
theorem values_nil (n : Nat) (l Bm : Nat) (J : List Lz → World → Prop) (W : World) (hJ : AbidesFrom W.heap.size J) (hm : W.cell? ⟨Bm, 0, none⟩ = some (.map none)) (h0 : J [] W) :
    CallsIn Fence.wide n Tryz.prog 131 #[.func (.yield l) #[] #[], .pointer (some ⟨Bm, 0, none⟩)] W fun e W' => (∃ v, e = .returned v) ∧ J [] W' := by
  refine callsIn_of_wp Tryz.func131 rfl trivial ?_ rfl
  simp only [Tryz.ntmps131, List.size_toArray, List.length_cons, List.length_nil, Nat.reduceAdd, Nat.reduceSub, Array.replicate_succ, Array.replicate_zero, List.push_toArray, List.append_toArray, List.nil_append, List.cons_append]
  have hrg := run_range_nilMap (P := Tryz.prog) W 139 _ _ Tryz.underlying139
  have hnx : ∀ ty, (Instr.next (.pointer (some ⟨W.heap.size, 0, none⟩)) false ty).run Tryz.prog (W.alloc (.mapIter none 0 #[] 0)) = _ := fun ty => run_next_nilMap _ ty 0 0 #[]
  gi_wp2
  refine wpIn_loop_rounds 1 ?_
  rw [roundsIn_succ]
  gi_wp2
  go_end0
  exact ⟨⟨_, rfl⟩, hJ [] W _ none h0 (World.grownBy_alloc W _ none) (fun r e => by cases e)⟩
theorem values_stops (n : Nat) (hn : 1 ≤ n) {B Bm : Nat} {w : World} {m : Option Nat} {L : List Lz} (h : Mw B w m L) (hr : Rise L) (hm : w.cell? ⟨Bm, 0, none⟩ = some (.map m)) (hlt : Bm < w.heap.size) :
    SeqStopsK Fence.wide n Tryz.prog 131 #[.pointer (some ⟨Bm, 0, none⟩)] (fun x : Lz => #[val x]) KeepsWalks (fun xs => xs.Perm L) (fun _ => True) L.length w := fun l J Jx W hW hJ _ hY h0 => by
  have hm' := (hW.cell (p := ⟨Bm, 0, none⟩) hlt).trans hm
  rcases h.below hW with ⟨rfl, rfl⟩ | ⟨b, D, rfl, -, ho, hi⟩
  · refine (values_nil n l Bm J W hJ hm' h0).mono ?_
    rintro e W' ⟨hv, hJ'⟩
    exact ⟨hv, .inl ⟨[], .nil, hJ'⟩⟩
  · exact values_in n hn l Bm b _ D L hi hr J Jx hY W hJ hm' ho h0
theorem values_call (n : Nat) (m : Option Nat) (w : World) :
    CallsIn Fence.wide n Tryz.prog 88 #[.map m] w fun e w' => e = .returned (.func (.func 131) #[] #[.pointer (some ⟨w.heap.size, 0, none⟩)]) ∧ w' = w.alloc (.cells #[.map m] 139) := by
  refine callsIn_of_wp Tryz.func88 rfl trivial ?_ rfl
  simp only [Tryz.ntmps88, List.size_toArray, List.length_cons, List.length_nil, Nat.reduceAdd, Nat.reduceSub, Array.replicate_succ, Array.replicate_zero, List.push_toArray, List.append_toArray, List.nil_append, List.cons_append]
  gi_wp2
  go_ret
  exact ⟨rfl, rfl⟩
end Go.Proofs.YtlbpeeelgpjciaaGreat.Lease

namespace Go.Proofs.YtlbpeeelgpjciaaGreat.Lease
open Go.RowKit Go.Maps Go.Shelf
attribute [local go_sem] Oper.semAt_some

theorem infoL : (Tryz.prog.info? 40).map (fun i => (i.zero, i.size, i.bytes)) = some (some (.agg #[.int .i64 0, .int .i64 0, .int .i64 0, .int .i64 0, .int .i64 0]), 5, 40) := by kernel_rfl
abbrev five (x : Lz) : List Value := [.int .i64 x.key, .int .i64 x.gen, .int .i64 x.amount, .int .i64 x.spent, .int .i64 x.til]
/-- A lease's box. -/
def Bx5 (W : World) (g : Nat) (x : Lz) : Prop := W.heap[g]? = some (.cells #[.int .i64 x.key, .int .i64 x.gen, .int .i64 x.amount, .int .i64 x.spent, .int .i64 x.til] 40 (0, 0))
theorem Bx5.own {W W' : World} {g : Nat} {x : Lz} {row : Option Nat} (h : Bx5 W g x) (hg : W.grownBy W' row) (hr : ∀ r, row = some r → ∃ o : Obj, W.heap[r]? = some o ∧ o.isCells = false) : Bx5 W' g x := by
  refine (hg.block g (Codec.lt_of_heap h) fun e => ?_).trans h
  obtain ⟨o, ho, hc⟩ := hr g e.symm
  rw [show W.heap[g]? = _ from h] at ho
  cases ho
  cases hc
/-- What a round leaves for its body. -/
def Body5 (sv : Value) (Bs : Nat) (x : Lz) (a : Act) (W : World) : Prop :=
  ∃ g, a = { tmps := #[.slice none 0 0, sv, .pointer (some ⟨Bs, 0, none⟩), undef, .slice none 0 0, .pointer (some ⟨g, 0, none⟩), sv, val x, undef, undef, undef, undef, undef], defers := [] } ∧ Bx5 W g x

set_option maxRecDepth 100000 in
set_option maxHeartbeats 2000000 in
theorem appendSeq_wide {L : List Lz} (hlen : L.length ≤ 100) (Bm : Nat) (w0 w : World) (hb0 : Below w0.heap.size w0 w)
    (hseq : SeqStopsK Fence.wide 5 Tryz.prog 131 #[.pointer (some ⟨Bm, 0, none⟩)] (fun x : Lz => #[val x]) KeepsWalks (fun xs => xs.Perm L) (fun _ => True) L.length w0) :
    CallsIn Fence.wide 6 Tryz.prog 157 #[.slice none 0 0, .func (.func 131) #[] #[.pointer (some ⟨Bm, 0, none⟩)]] w fun e W' =>
      ∃ v xs, e = .returned v ∧ xs.Perm L ∧ Own 40 w.heap.size W' v xs ∧ Below w.heap.size w W' := by
  obtain ⟨i0, hi, hz0, hz1, hz2⟩ := info_parts infoL
  have HN := Lib.hid hlen; clear hlen
  refine callsIn_of_wp_marks Tryz.func157 rfl trivial ?_ rfl
  simp only [Tryz.ntmps157, List.size_toArray, List.length_cons, List.length_nil, Nat.reduceAdd, Nat.reduceSub, Array.replicate_succ, Array.replicate_zero, List.push_toArray, List.append_toArray, List.nil_append, List.cons_append]
  gi_wp2
  have bO := Boxed.new w 63 (.slice none 0 0)
  have hB0 : Below w.heap.size w (w.alloc (.cells #[.slice none 0 0] 63)) := lay _ _
  refine wpIn_rangeFunc_ownH rfl (by decide) (gf := 131) (lb := #[.pointer (some ⟨Bm, 0, none⟩)]) rfl trivial (enters_of Tryz.func131 (by kernel_rfl) rfl)
    hseq walksK_t walksK_b (hb0.trans (hB0.mono hb0.size)) (fun _ => rfl)
    (fun pre W => (∃ v, Boxed W w.heap.size 63 v ∧ W.ownsRow w.heap.size 40 5 v pre.length (cells5 pre) ∧ True) ∧ Below w.heap.size w W)
    (fun _ _ _ => False)
    (OwnFrom.and (Own.from (holdsRow_own w.heap.size w.heap.size 63 40 5 (fun pre : List Lz => pre.length) cells5 (fun _ _ => True)) _) (ownFrom_below (Nat.le_refl _) (by simp)))
    (fun _ _ _ _ _ hs _ _ => hs)
    ⟨⟨_, bO, ⟨rfl, .inl ⟨rfl, rfl⟩⟩, trivial⟩, hB0⟩
    (Body5 (.func (.func 131) #[] #[.pointer (some ⟨Bm, 0, none⟩)]) w.heap.size)
    (fun x a' _ X Y row hs hg hr => by
      obtain ⟨g, e, h⟩ := hs
      exact ⟨g, e, h.own hg fun r er => (hr r er).2⟩) ?assign ?body ?done ?stop
  case assign =>
    intro l pre x W K hI hK
    simp only [val]
    gi_wp2
    refine hK _ _ ((KeepsOthers.alloc _ _).from _) (KeepsWalks.alloc _ _) ?_ ⟨_, rfl, ?_⟩
    · obtain ⟨⟨v, hv, hrow, ht⟩, hB⟩ := hI
      exact ⟨⟨v, hv.alloc _, hrow.alloc _, ht⟩, hB.alloc hB.size _⟩
    · exact (MapKept.heap_alloc _ _).1
  case body =>
    rintro l pre x a' W hl hrec ⟨⟨v, hv, hrow, _⟩, hB⟩ ⟨g, rfl, hx⟩ hlt
    have hc := hv.cell
    obtain ⟨x0, x1, x2, x3, x4⟩ := box5 hx
    have hml : pre.length + 1 ≤ 100 := by have := HN.out; omega
    simp only [val]
    gi_wp2_with (gi_at_builtin; refine wpListIn_append_own _ rfl _ _ 63 rfl w.heap.size 40 i0 (.agg #[.int .i64 0, .int .i64 0, .int .i64 0, .int .i64 0, .int .i64 0]) 5 40 Tryz.underlying63 hi hz0 hz1 hz2 rfl (by decide) _ _ _ rfl (hrow.alloc _) ⟨W.heap.size, 0, none⟩ 1 1 [.int .i64 x.key, .int .i64 x.gen, .int .i64 x.amount, .int .i64 x.spent, .int .i64 x.til] rfl rfl (World.news_of_block (MapKept.heap_alloc W _).1) (by intro u hu; simp at hu; rcases hu with rfl | rfl | rfl | rfl | rfl <;> rfl) (by unfold maxLen; omega) (by omega) (by have := hB.size; simp; omega) ?_; intro v' w2 hown' hgrow _; obtain ⟨g', cap', rfl⟩ := ownsRow_succ hown'; obtain ⟨hv1, hv2, hr2, hk2, hb2⟩ := hv.appended (by decide) hrow hB.size (Nat.le_refl _) hown' hgrow; have hc1 := hv1.cell; have hf1 := hv1.frozen)
    exact ⟨hk2.from _, hk2.walks, ⟨⟨_, hv2, by rw [cells5_snoc, List.length_append]; exact hr2, trivial⟩, hB.trans hb2⟩⟩
  case done =>
    rintro D xs W hD hp ⟨⟨v, hv, hrow, _⟩, hB⟩ hK
    have hc := hv.cell
    gi_wp2
    refine ⟨by simp, .inl ⟨_, _, rfl, run_takeDeferred hK, ?_⟩⟩
    exact ⟨_, results_tmp rfl _ _ _, v, xs, rfl, hp, ownsRow_putObj hrow _ hK rfl, hB.trans (belowK_b (w := w) (Nat.le_refl _) W D _ _ (by simp at hD; omega) hK rfl rfl)⟩
  case stop =>
    rintro D c pre W _ _ h _
    exact h.elim
set_option maxRecDepth 100000 in
theorem collect_any {L : List Lz} (hlen : L.length ≤ 100) (Bm : Nat) (w0 w : World) (hb0 : Below w0.heap.size w0 w)
    (hseq : SeqStopsK Fence.wide 5 Tryz.prog 131 #[.pointer (some ⟨Bm, 0, none⟩)] (fun x : Lz => #[val x]) KeepsWalks (fun xs => xs.Perm L) (fun _ => True) L.length w0) :
    Calls Tryz.prog 129 #[.func (.func 131) #[] #[.pointer (some ⟨Bm, 0, none⟩)]] w fun e W' =>
      ∃ v xs, e = .returned v ∧ xs.Perm L ∧ Own 40 w.heap.size W' v xs ∧ Below w.heap.size w W' := by
  have ha := callsIn_wide.1 (appendSeq_wide hlen Bm w0 w hb0 hseq)
  clear hseq
  go_enter Tryz.func129, Tryz.ntmps129
  go_wp2_with (go_at_call 157; refine ha.mono ?_; clear ha; rintro e u ⟨v, xs, rfl, hp, ho, hb⟩)
  go_ret
  exact ⟨v, xs, rfl, hp, ho, hb⟩
end Go.Proofs.YtlbpeeelgpjciaaGreat.Lease

namespace Go.Proofs.YtlbpeeelgpjciaaGreat.Lease
open Go.RowKit Go.Maps Go.Shelf Go.Sort

instance : Inhabited Lz := ⟨z⟩
def cmpI (x y : Int) : Int := if x < y then -1 else if y < x then 1 else 0
theorem isnan_any (x : Int) (w : World) : Calls Tryz.prog 132 #[.int .i64 x] w fun e w' => e = .returned (.bool false) ∧ w = w' := by
  have h : (x != x) = false := by simp
  go_enter Tryz.func132, Tryz.ntmps132
  go_wp2
  go_ret
  exact ⟨rfl, rfl⟩
theorem cmp_any (x y : Int) (w : World) : Calls Tryz.prog 90 #[.int .i64 x, .int .i64 y] w fun e w' => e = .returned (.int .i64 (cmpI x y)) ∧ w = w' := by
  have hcase : (x < y ∧ cmpI x y = -1) ∨ (¬ x < y ∧ y < x ∧ cmpI x y = 1) ∨ (¬ x < y ∧ ¬ y < x ∧ cmpI x y = 0) := by
    unfold cmpI
    by_cases h1 : x < y <;> by_cases h2 : y < x <;> simp [h1, h2]
  generalize cmpI x y = R at *
  rcases hcase with ⟨h1, rfl⟩ | ⟨h1, h2, rfl⟩ | ⟨h1, h2, rfl⟩
  all_goals
    go_enter Tryz.func90, Tryz.ntmps90
    go_wp2_with (go_at_call 132; (with_reducible refine (isnan_any _ _).mono ?_); rintro e w1 ⟨rfl, rfl⟩)
    go_ret
    exact ⟨rfl, rfl⟩
def byKey (x y : Lz) : Int := cmpI x.key y.key
theorem byKey_lt (x y : Lz) : Go.Proofs.ltOf byKey x y = decide (x.key < y.key) := by
  unfold Go.Proofs.ltOf byKey cmpI
  by_cases h1 : x.key < y.key
  · simp [h1]
  · by_cases h2 : y.key < x.key <;> simp [h1, h2]
theorem byKey_swo : SWO (Go.Proofs.ltOf byKey) where
  irrefl x := by rw [byKey_lt]; simp
  trans x y z h1 h2 := by rw [byKey_lt] at *; simp at *; omega
  ntrans x y z h1 h2 := by rw [byKey_lt] at *; simp at *; omega
set_option maxRecDepth 100000 in
set_option maxHeartbeats 1000000 in
theorem closure_any (x y : Lz) (W : World) : Calls Tryz.prog 89 #[.agg (five x).toArray, .agg (five y).toArray] W fun e w' => e = .returned (.int .i64 (byKey x y)) ∧ ∃ q os', w' = grow (W.drewN q) os' := by
  have hcon := fun W' => cmp_any x.key y.key W'
  unfold byKey
  generalize cmpI x.key y.key = r at hcon ⊢
  simp only [five]
  go_enter Tryz.func89, Tryz.ntmps89
  go_wp2_with (go_at_call 90; refine (hcon _).mono ?_; rintro e w' ⟨rfl, rfl⟩)
  go_ret
  exact ⟨rfl, 0, _, by rw [alloc_eq_grow, alloc_eq_grow, grow_grow]; rfl⟩

theorem flat_cells (xs : List Lz) : flatK five 5 xs.toArray = (cells5 xs).toArray := by
  refine ext_get! (by simp [cells5_len]) fun t ht => ?_
  have ht' : t < xs.length * 5 := by simpa using ht
  rw [get_flatK _ _ _ t (by simpa using ht')]
  have hj : t / 5 < xs.length := by omega
  obtain ⟨h0, h1, h2, h3, h4⟩ := cells5_at xs (t / 5) hj
  have hx : xs.toArray[t / 5]! = xs.getD (t / 5) z := by simp [List.getD, hj]
  rw [hx]
  generalize xs.getD (t / 5) z = x at *
  have hc : ∀ v, (cells5 xs)[t]? = some v → (cells5 xs).toArray[t]! = v := fun v hv => by simp [hv]
  have hm : t % 5 = 0 ∨ t % 5 = 1 ∨ t % 5 = 2 ∨ t % 5 = 3 ∨ t % 5 = 4 := by omega
  rcases hm with e | e | e | e | e
  · rw [show t / 5 * 5 = t by omega] at h0
    rw [hc _ h0, e]
    rfl
  · rw [show t / 5 * 5 + 1 = t by omega] at h1
    rw [hc _ h1, e]
    rfl
  · rw [show t / 5 * 5 + 2 = t by omega] at h2
    rw [hc _ h2, e]
    rfl
  · rw [show t / 5 * 5 + 3 = t by omega] at h3
    rw [hc _ h3, e]
    rfl
  · rw [show t / 5 * 5 + 4 = t by omega] at h4
    rw [hc _ h4, e]
    rfl
theorem holds_five {w : World} {g B cap : Nat} {xs : List Lz} (h : Own 40 B w (.slice (some ⟨g, 0, none⟩) xs.length cap) xs) : HoldsK five 5 w g 0 xs.toArray := by
  intro j hj
  rw [flat_cells] at hj ⊢
  have hj' : j < (cells5 xs).length := by simpa using hj
  have hc := World.ownsRow.cells (g := g) h rfl j _ (List.getElem?_eq_getElem hj')
  rw [Codec.add_at] at hc
  refine ⟨by simpa [hj'] using hc, ?_⟩
  rcases h.2 with ⟨h0, _⟩ | ⟨g', cap', cur, hv, _, hb, _⟩
  · cases h0
  · cases hv
    simp [World.frozen?, hb]
theorem five_lies {w : World} {g : Nat} {l : List Lz} (h : HoldsK five 5 w g 0 l.toArray) : Lies w (some ⟨g, 0, none⟩) l := by
  refine .inr ⟨g, 0, rfl, fun j hj => ?_⟩
  obtain ⟨h0, h1, h2, h3, h4⟩ := cells5_at l j hj
  have key : ∀ t v, (cells5 l)[t]? = some v → w.cell? ⟨g, 0 + t, none⟩ = some v := fun t v hv => by
    have ht := (List.getElem?_eq_some_iff.1 hv).1
    have := (h t (by rw [flat_cells]; simpa using ht)).1
    rw [flat_cells] at this
    rw [this]
    simp [hv]
  exact ⟨key _ _ h0, key _ _ h1, key _ _ h2, key _ _ h3, key _ _ h4⟩
theorem below_sort {w : World} {B g n : Nat} {d : Array Lz} {os : Array Obj} (hB : B ≤ w.heap.size) (hg : B ≤ g) : Below B w (Go.Proofs.sortWorldK five 5 w g 0 n d os) := by
  refine (Below.refl B w).grown (row := some g) ⟨rfl, rfl, rfl, Go.Proofs.size_sortWorldK_c five 5 w g 0 n d os, fun k hk hne => ?_⟩ hB (fun k e => by cases e; exact hg)
  unfold Go.Proofs.sortWorldK putRowK
  rw [heap_grow_old _ _ (by simpa using hk)]
  have : g ≠ k := fun e => hne (by rw [e])
  simp [putRow, mapBlock, Sort.ahead, Array.getElem?_modify, this]
theorem sorted_is {L : List Lz} (hr : Rise L) {xs : List Lz} (hp : xs.Perm L) {d : Array Lz} (h1 : PermIn 0 xs.toArray.size xs.toArray d) (h2 : SortedIn (Go.Proofs.ltOf byKey) 0 xs.toArray.size d) : d = L.toArray := by
  obtain ⟨hs, -, hperm⟩ := h1
  have e1 : (d.extract 0 xs.toArray.size).toList = d.toList := by rw [← hs]; simp
  have e2 : (xs.toArray.extract 0 xs.toArray.size).toList = xs := by simp
  rw [e1, e2] at hperm
  have hdL := hperm.trans hp
  have hsort : d.toList.Pairwise fun a b => a.key ≤ b.key := by
    rw [List.pairwise_iff_getElem]
    intro i j hi hj hij
    have hj' : j < d.size := by simpa using hj
    have := h2 i j (Nat.zero_le _) hij (by rw [← hs]; exact hj')
    rw [byKey_lt] at this
    have hn := of_decide_eq_false this
    rw [getElem!_pos d j hj', getElem!_pos d i (by omega)] at hn
    simp only [Array.getElem_toList]
    omega
  have hL : L.Pairwise fun a b => a.key ≤ b.key := hr.imp fun {a b} h => by omega
  have e := List.Perm.eq_of_pairwise (le := fun a b : Lz => a.key ≤ b.key) (fun a b ha hb hab hba => rise_one hr (hdL.mem_iff.1 ha) hb (by omega)) hsort hL hdL
  apply Array.toList_inj.1
  rw [e]

theorem sort_any {L : List Lz} (hr : Rise L) {B : Nat} {u : World} {v : Value} {xs : List Lz} (hB : B ≤ u.heap.size) (ho : Own 40 B u v xs) (hp : xs.Perm L) (hlen : L.length ≤ 100) :
    Calls Tryz.prog 130 #[v, .func (.func 89) #[] #[]] u fun e w' => e = .returned (.tuple #[]) ∧ ∃ p c, v = .slice p L.length c ∧ Lies w' p L ∧ Below B u w' := by
  have hl := hp.length_eq
  rcases ho.2 with ⟨rfl, h0⟩ | ⟨g, cap, cur, rfl, hg, hb, -⟩
  · have hL : L = [] := List.eq_nil_of_length_eq_zero (by omega)
    subst hL
    refine (Go.Proofs.AnyF.slices_SortFunc_none Tryz.sortLease none 0 _ u).mono ?_
    rintro e w' ⟨rfl, rfl⟩
    exact ⟨rfl, none, 0, rfl, .inl rfl, Below.refl _ _⟩
  · have hlt : g < u.heap.size := Codec.lt_of_heap hb
    have hH := holds_five ho
    have hcon := Go.Proofs.AnyQ.slices_SortFunc Tryz.sortLease 5 Tryz.isAgg40 Tryz.sizeOf40 five (fun _ => rfl) (fun x v hv => by simp [five] at hv; rcases hv with rfl | rfl | rfl | rfl | rfl <;> rfl) byKey byKey_swo 89 #[] g 0 cap xs.toArray u (enters_of Tryz.func89 (by kernel_rfl) rfl) (fun _ _ _ _ x y => closure_any x y _) hH hlt (by simp; omega)
    refine Calls.mono (P := Tryz.prog) hcon ?_
    rintro e w' ⟨rfl, d, n, os, h1, h2, rfl⟩
    have hd := sorted_is hr hp h1 h2
    subst hd
    refine ⟨rfl, _, cap, by rw [hl], five_lies (Go.Proofs.holdsK_sortWorldK five 5 u g 0 n xs.toArray L.toArray os hlt hH (by simp [hl])), below_sort hB hg⟩
set_option maxRecDepth 100000 in
theorem sorted_any {L : List Lz} (hr : Rise L) (hlen : L.length ≤ 100) (Bm : Nat) (w0 w : World) (hb0 : Below w0.heap.size w0 w)
    (hseq : SeqStopsK Fence.wide 5 Tryz.prog 131 #[.pointer (some ⟨Bm, 0, none⟩)] (fun x : Lz => #[val x]) KeepsWalks (fun xs => xs.Perm L) (fun _ => True) L.length w0) :
    Calls Tryz.prog 87 #[.func (.func 131) #[] #[.pointer (some ⟨Bm, 0, none⟩)], .func (.func 89) #[] #[]] w fun e w' =>
      ∃ p c, e = .returned (.slice p L.length c) ∧ Lies w' p L ∧ Below w.heap.size w w' := by
  have ha := collect_any hlen Bm w0 w hb0 hseq
  have hs := Lib.hid (fun u v xs (hb : Below w.heap.size w u) (ho : Own 40 w.heap.size u v xs) (hp : xs.Perm L) => sort_any hr hb.size ho hp hlen)
  clear hseq hlen
  go_enter Tryz.func87, Tryz.ntmps87
  go_wp2_with (first
    | (go_at_call 129; refine ha.mono ?_; clear ha; rintro e u ⟨v, xs, rfl, hp, ho, hb⟩)
    | (go_at_call 130; refine (hs.out _ _ _ hb ho hp).mono ?_; clear hs; rintro e u2 ⟨rfl, p, c, rfl, hl, hb2⟩))
  go_ret
  exact ⟨p, c, rfl, hl, hb.trans hb2⟩
set_option maxRecDepth 100000 in
set_option maxHeartbeats 1000000 in
theorem pall_any {B q : Nat} {w : World} {l : List Lz} (h : Pm B w q l) (hg : Good l) (hlen : l.length ≤ 100) :
    Calls Tryz.prog 39 #[.pointer (some ⟨q, 0, none⟩)] w fun e w' => ∃ p c, e = .returned (.slice p l.length c) ∧ Lies w' p l ∧ Below w.heap.size w w' := by
  obtain ⟨m, hc, -, hm⟩ := h.cell
  have hr := hg.rise
  have hv := callsIn_wide.1 (values_call 5 m w)
  have hb1 := lay w (.cells #[.map m] 139)
  have hz := (MapKept.heap_alloc w (.cells #[.map m] 139)).1
  have hs := sorted_any hr hlen w.heap.size _ _ (Below.refl _ _) (values_stops 5 (by decide) (hm.below hb1) hr (by rw [cell_of_row _ _ 0 _ _ (0, 0) hz]; rfl) (by simp))
  clear hz hr hlen hg
  go_enter Tryz.func39, Tryz.ntmps39
  go_wp2_with (first
    | (go_at_call 88; refine hv.mono ?_; clear hv; rintro e u ⟨rfl, rfl⟩)
    | (go_at_call 87; refine hs.mono ?_; clear hs; rintro e u2 ⟨p, c, rfl, hl, hb2⟩))
  go_ret
  exact ⟨p, c, rfl, hl, hb1.trans (hb2.mono hb1.size)⟩
set_option maxRecDepth 100000 in
theorem nall_any (w : World) : Calls Tryz.prog 39 #[.pointer none] w fun e w' => ∃ p c, e = .returned (.slice p 0 c) ∧ Below w.heap.size w w' := by
  go_enter Tryz.func39, Tryz.ntmps39
  go_wp2
  go_ret
  exact ⟨none, 0, rfl, Below.refl _ _⟩
end Go.Proofs.YtlbpeeelgpjciaaGreat.Lease

namespace Go.Proofs.YtlbpeeelgpjciaaGreat.Edge
open Go.RowKit
open _root_.Go.Proofs.YtlbpeeelgpjciaaGreat.Codec (lt_of_heap frozen_of heap_set below_new)
open _root_.Go.Proofs.YtlbpeeelgpjciaaGreat.Kit (Enc Lies At Kept Laid Off cell_on lt_heap take_snoc below_drewN own_keep box5)
open _root_.Go.Proofs.YtlbpeeelgpjciaaGreat.Lease (Lz Num spend)
open _root_.Go.Proofs.YtlbpeeelgpjciaaGreat.Queue (It take)
open _root_.Go.Proofs.YtlbpeeelgpjciaaGreat.Demand (Nt)

section
variable {R : Nat → Prop} {B q qw qq qd : Nat} {w w' u u' : World} {y : Value} {c : Cf} {e e' e2 : Eg}
set_option maxRecDepth 100000 in
set_option maxHeartbeats 1000000 in
theorem pleases_any (h : In R B w q y qw qq qd c e) (hg : Good c e) (hf : Lens e) :
    Calls Tryz.prog 16 #[.pointer (some ⟨q, 0, none⟩)] w fun x w' => ∃ p k, x = .returned (.slice p e.L.length k) ∧ Lease.Lies w' p e.L ∧ Below w.heap.size w w' := by
  have c1 := Lease.pall_any h.wl hg.l hf.1
  have s0 := h.sees.k0
  clear h hf hg
  go_enter Tryz.func16, Tryz.ntmps16
  go_wp2_with (go_at_call 39; (with_reducible refine c1.mono ?_); rintro e1 w1 ⟨p, k, rfl, hl, hb⟩; have HL := Lib.hid hl; have HB1 := Lib.hid hb; clear hl hb c1)
  go_ret
  exact ⟨p, k, rfl, HL.out, HB1.out⟩
end
theorem nask_any (r : Rq) (now : Int) (w : World) : Calls Tryz.prog 19 #[.pointer none, rval r, .int .i64 now] w fun x w' => ∃ p k, x = .returned (.slice p 0 k) ∧ Below w.heap.size w w' := by
  obtain ⟨ri, rk, rc, rs, rw'⟩ := r
  unfold rval
  simp only
  go_enter Tryz.func19, Tryz.ntmps19
  go_wp2
  go_ret
  exact ⟨_, _, rfl, lay _ _⟩
theorem ngrant_any (l : Lz) (now : Int) (w : World) : Calls Tryz.prog 20 #[.pointer none, Lease.val l, .int .i64 now] w fun x w' => ∃ p k, x = .returned (.slice p 0 k) ∧ Below w.heap.size w w' := by
  obtain ⟨xk, xg, xa, xs, xt⟩ := l
  unfold Lease.val
  simp only
  go_enter Tryz.func20, Tryz.ntmps20
  go_wp2
  go_quiet (fail)
  go_wp2
  go_ret
  exact ⟨_, _, rfl, (lay _ _).trans ((below_drewN _ _).mono (lay _ _).size)⟩
theorem nclose_any (key gen : Int) (w : World) : Calls Tryz.prog 25 #[.pointer none, .int .i64 key, .int .i64 gen] w fun x w' => x = .returned (.int .i64 (-1)) ∧ Below w.heap.size w w' := by
  go_enter Tryz.func25, Tryz.ntmps25
  go_wp2
  go_ret
  exact ⟨rfl, Below.refl _ _⟩
theorem ndrop_any (gen : Int) (w : World) : Calls Tryz.prog 18 #[.pointer none, .int .i64 gen] w fun x w' => x = .returned (.tuple #[]) ∧ Below w.heap.size w w' := by
  go_enter Tryz.func18, Tryz.ntmps18
  go_wp2
  go_end0
  exact ⟨rfl, Below.refl _ _⟩
theorem nexpire_any (now : Int) (w : World) : Calls Tryz.prog 22 #[.pointer none, .int .i64 now] w fun x w' => ∃ p k, x = .returned (.slice p 0 k) ∧ Below w.heap.size w w' := by
  go_enter Tryz.func22, Tryz.ntmps22
  go_wp2
  go_ret
  exact ⟨_, _, rfl, Below.refl _ _⟩
theorem nrefuse_any (key why : Int) (w : World) : Calls Tryz.prog 23 #[.pointer none, .int .i64 key, .int .i64 why] w fun x w' => ∃ p k, x = .returned (.slice p 0 k) ∧ Below w.heap.size w w' := by
  go_enter Tryz.func23, Tryz.ntmps23
  go_wp2
  go_ret
  exact ⟨_, _, rfl, Below.refl _ _⟩
theorem ncrash_any (w : World) : Calls Tryz.prog 24 #[.pointer none] w fun x w' => ∃ p k, x = .returned (.slice p 0 k) ∧ Below w.heap.size w w' := by
  go_enter Tryz.func24, Tryz.ntmps24
  go_wp2
  go_ret
  exact ⟨_, _, rfl, Below.refl _ _⟩
theorem nwants_any (w : World) : Calls Tryz.prog 21 #[.pointer none] w fun x w' => ∃ p k, x = .returned (.slice p 0 k) ∧ Below w.heap.size w w' := by
  go_enter Tryz.func21, Tryz.ntmps21
  go_wp2
  go_ret
  exact ⟨_, _, rfl, Below.refl _ _⟩
theorem nwaiting_any (w : World) : Calls Tryz.prog 13 #[.pointer none] w fun x w' => ∃ p k, x = .returned (.slice p 0 k) ∧ Below w.heap.size w w' := by
  go_enter Tryz.func13, Tryz.ntmps13
  go_wp2
  go_ret
  exact ⟨_, _, rfl, Below.refl _ _⟩
theorem nleases_any (w : World) : Calls Tryz.prog 16 #[.pointer none] w fun x w' => ∃ p k, x = .returned (.slice p 0 k) ∧ Below w.heap.size w w' := by
  go_enter Tryz.func16, Tryz.ntmps16
  go_wp2
  go_ret
  exact ⟨_, _, rfl, Below.refl _ _⟩
end Go.Proofs.YtlbpeeelgpjciaaGreat.Edge

namespace Go.Proofs.YtlbpeeelgpjciaaGreat.Edge
open Go.RowKit
open _root_.Go.Proofs.YtlbpeeelgpjciaaGreat.Lease (Lz Num spend)

theorem grant_D (e : Eg) (x : Lz) (now : Int) : (grant e x now).1.D = e.D := by
  unfold grant
  split
  · exact (len_serves x.key now _ _).2.2
  · rfl
theorem close_D {e : Eg} {key gen : Int} (h : ∀ x ∈ e.D, Num x.key) (hk : Num key) : ∀ x ∈ (close e key gen).1.D, Num x.key := by
  unfold close
  simp only
  split
  · intro x hx
    rcases List.mem_append.1 hx with hx | hx
    · exact h x hx
    · rw [List.mem_singleton.1 hx]; exact hk
  · exact h
theorem way14 : Way14 Pe where
  below := fun ⟨hc, y, qw, qq, qd, h⟩ hb => ⟨hc, y, qw, qq, qd, h.below hb⟩
  kept := fun ⟨hc, y, qw, qq, qd, h⟩ hk _ => ⟨hc, y, qw, qq, qd, h.kept hk⟩
  new := fun c p k w hr hl _ h0 => (pnew_any Queue.way12 hr hl).mono fun _ _ ⟨hb, h⟩ => by
    rcases h with ⟨h1, -⟩ | ⟨-, q, he, hp⟩
    · exact absurd h0 h1
    · exact ⟨q, he, hp, hb⟩
  newno := fun c p k w hr hl _ h0 => (pnew_any Queue.way12 hr hl).mono fun _ _ ⟨hb, h⟩ => by
    rcases h with ⟨-, he⟩ | ⟨h1, -⟩
    · exact ⟨he, hb⟩
    · exact absurd h1 h0
  ask := fun ⟨hc, _, _, _, _, h⟩ hB hg hf r hr now _ => (pask_any Queue.way12 h hB hg hf r hr now).mono fun _ _ ⟨v, he, hs, hm⟩ => ⟨v, he, hs, hm.pe ⟨hc.1, by rw [(ask_few _ _ _ _).2]; exact hc.2⟩⟩
  grant := fun ⟨hc, _, _, _, _, h⟩ hB hg hf l hl now _ => (pgrant_any Queue.way12 h hB hg hf l hl now).mono fun _ _ ⟨v, he, hs, hm⟩ => ⟨v, he, hs, hm.pe ⟨hc.1, by rw [grant_D]; exact hc.2⟩⟩
  close := fun ⟨hc, _, _, _, _, h⟩ hB hg hf _ _ hk _ => (pclose_any h hB hg hf hk).mono fun _ _ ⟨he, hm⟩ => ⟨he, hm.pe ⟨hc.1, close_D hc.2 hk⟩⟩
  drop := fun ⟨hc, _, _, _, _, h⟩ hB _ hf gen _ => (pdrop_any h hB hf gen).mono fun _ _ ⟨he, hm⟩ => ⟨he, hm.pe hc⟩
  expire := fun ⟨hc, _, _, _, _, h⟩ hB hg hf _ hn => (pexpire_any Queue.way12 h hB hg hf hn).mono fun _ _ ⟨v, he, hs, hm⟩ => ⟨v, he, hs, hm.pe hc⟩
  refuse := fun ⟨hc, _, _, _, _, h⟩ hB hg hf _ why hk _ => (prefuse_any Queue.way12 h hB hg hf hk why).mono fun _ _ ⟨v, he, hs, hm⟩ => ⟨v, he, hs, hm.pe hc⟩
  crash := fun ⟨hc, _, _, _, _, h⟩ hB _ hf => pcrash_any Queue.way12 h hB hf hc.1
  wants := fun ⟨hc, _, _, _, _, h⟩ hg hf => pwants_any h hg hf hc.2
  waiting := fun ⟨_, _, _, _, _, h⟩ _ hf => pwaiting_any h hf
  leases := fun ⟨_, _, _, _, _, h⟩ hg hf => pleases_any h hg hf
  nask := nask_any
  ngrant := ngrant_any
  nclose := nclose_any
  ndrop := ndrop_any
  nexpire := nexpire_any
  nrefuse := nrefuse_any
  ncrash := ncrash_any
  nwants := nwants_any
  nwaiting := nwaiting_any
  nleases := nleases_any
end Go.Proofs.YtlbpeeelgpjciaaGreat.Edge
