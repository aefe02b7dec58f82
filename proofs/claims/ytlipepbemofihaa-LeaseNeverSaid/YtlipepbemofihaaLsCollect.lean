/-
  slices.Collect of a map's leases: a new slice that has each of them once, in some order; at most 100 of them.
-/
import Derived.Test.YtlipepbemofihaaLsSeq
namespace Go.Proofs.Ytlipepbemofihaa.Lease
open Go.RowKit Go.Maps Go.Shelf
attribute [local go_sem] Oper.semAt_some

theorem infoL : (Try.prog.info? 33).map (fun i => (i.zero, i.size, i.bytes)) = some (some (.agg #[.int .i64 0, .int .i64 0, .int .i64 0, .int .i64 0, .int .i64 0]), 5, 40) := by kernel_rfl
abbrev five (x : Lz) : List Value := [.int .i64 x.key, .int .i64 x.gen, .int .i64 x.amount, .int .i64 x.spent, .int .i64 x.til]
/-- A lease's box. -/
def Bx5 (W : World) (g : Nat) (x : Lz) : Prop := W.heap[g]? = some (.cells #[.int .i64 x.key, .int .i64 x.gen, .int .i64 x.amount, .int .i64 x.spent, .int .i64 x.til] 33 (0, 0))
theorem Bx5.own {W W' : World} {g : Nat} {x : Lz} {row : Option Nat} (h : Bx5 W g x) (hg : W.grownBy W' row) (hr : ∀ r, row = some r → ∃ o : Obj, W.heap[r]? = some o ∧ o.isCells = false) : Bx5 W' g x := by
  refine (hg.block g (Codec.lt_of_heap h) fun e => ?_).trans h
  obtain ⟨o, ho, hc⟩ := hr g e.symm
  rw [show W.heap[g]? = _ from h] at ho
  cases ho
  cases hc
/-- What a round leaves for its body. -/
def Body5 (sv : Value) (Bs : Nat) (x : Lz) (a : Act) (W : World) : Prop :=
  ∃ g, a = { tmps := #[.slice none 0 0, sv, .pointer (some ⟨Bs, 0, none⟩), undef, .slice none 0 0, .pointer (some ⟨g, 0, none⟩), sv, val x, undef, undef, undef, undef, undef], defers := [] } ∧ Bx5 W g x

set_option maxRecDepth 100000 in
set_option maxHeartbeats 2000000 in
theorem appendSeq_wide {L : List Lz} (hlen : L.length ≤ 100) (Bm : Nat) (w0 w : World) (hb0 : Below w0.heap.size w0 w)
    (hseq : SeqStopsK Fence.wide 5 Try.prog 34 #[.pointer (some ⟨Bm, 0, none⟩)] (fun x : Lz => #[val x]) KeepsWalks (fun xs => xs.Perm L) (fun _ => True) L.length w0) :
    CallsIn Fence.wide 6 Try.prog 36 #[.slice none 0 0, .func (.func 34) #[] #[.pointer (some ⟨Bm, 0, none⟩)]] w fun e W' =>
      ∃ v xs, e = .returned v ∧ xs.Perm L ∧ Own 33 w.heap.size W' v xs ∧ Below w.heap.size w W' := by
  obtain ⟨i0, hi, hz0, hz1, hz2⟩ := info_parts infoL
  have HN := Lib.hid hlen; clear hlen
  refine callsIn_of_wp_marks Try.func36 rfl trivial ?_ rfl
  simp only [Try.ntmps36, List.size_toArray, List.length_cons, List.length_nil, Nat.reduceAdd, Nat.reduceSub, Array.replicate_succ, Array.replicate_zero, List.push_toArray, List.append_toArray, List.nil_append, List.cons_append]
  gi_wp2
  have bO := Boxed.new w 39 (.slice none 0 0)
  have hB0 : Below w.heap.size w (w.alloc (.cells #[.slice none 0 0] 39)) := lay _ _
  refine wpIn_rangeFunc_ownH rfl (by decide) (gf := 34) (lb := #[.pointer (some ⟨Bm, 0, none⟩)]) rfl trivial (enters_of Try.func34 (by kernel_rfl) rfl)
    hseq walksK_t walksK_b (hb0.trans (hB0.mono hb0.size)) (fun _ => rfl)
    (fun pre W => (∃ v, Boxed W w.heap.size 39 v ∧ W.ownsRow w.heap.size 33 5 v pre.length (cells5 pre) ∧ True) ∧ Below w.heap.size w W)
    (fun _ _ _ => False)
    (OwnFrom.and (Own.from (holdsRow_own w.heap.size w.heap.size 39 33 5 (fun pre : List Lz => pre.length) cells5 (fun _ _ => True)) _) (ownFrom_below (Nat.le_refl _) (by simp)))
    (fun _ _ _ _ _ hs _ _ => hs)
    ⟨⟨_, bO, ⟨rfl, .inl ⟨rfl, rfl⟩⟩, trivial⟩, hB0⟩
    (Body5 (.func (.func 34) #[] #[.pointer (some ⟨Bm, 0, none⟩)]) w.heap.size)
    (fun x a' _ X Y row hs hg hr => by
      obtain ⟨g, e, h⟩ := hs
      exact ⟨g, e, h.own hg fun r er => (hr r er).2⟩) ?assign ?body ?done ?stop
  case assign =>
    intro l pre x W K hI hK
    simp only [val]
    gi_wp2
    refine hK _ _ ((KeepsOthers.alloc _ _).from _) (KeepsWalks.alloc _ _) ?_ ⟨_, rfl, ?_⟩
    · obtain ⟨⟨v, hv, hrow, ht⟩, hB⟩ := hI
      exact ⟨⟨v, hv.alloc _, hrow.alloc _, ht⟩, hB.alloc hB.size _⟩
    · exact (MapKept.heap_alloc _ _).1
  case body =>
    rintro l pre x a' W hl hrec ⟨⟨v, hv, hrow, _⟩, hB⟩ ⟨g, rfl, hx⟩ hlt
    have hc := hv.cell
    obtain ⟨x0, x1, x2, x3, x4⟩ := box5 hx
    have hml : pre.length + 1 ≤ 100 := by have := HN.out; omega
    simp only [val]
    gi_wp2_with (gi_at_builtin; refine wpListIn_append_own _ rfl _ _ 39 rfl w.heap.size 33 i0 (.agg #[.int .i64 0, .int .i64 0, .int .i64 0, .int .i64 0, .int .i64 0]) 5 40 Try.underlying39 hi hz0 hz1 hz2 rfl (by decide) _ _ _ rfl (hrow.alloc _) ⟨W.heap.size, 0, none⟩ 1 1 [.int .i64 x.key, .int .i64 x.gen, .int .i64 x.amount, .int .i64 x.spent, .int .i64 x.til] rfl rfl (World.news_of_block (MapKept.heap_alloc W _).1) (by intro u hu; simp at hu; rcases hu with rfl | rfl | rfl | rfl | rfl <;> rfl) (by unfold maxLen; omega) (by omega) (by have := hB.size; simp; omega) ?_; intro v' w2 hown' hgrow _; obtain ⟨g', cap', rfl⟩ := ownsRow_succ hown'; obtain ⟨hv1, hv2, hr2, hk2, hb2⟩ := hv.appended (by decide) hrow hB.size (Nat.le_refl _) hown' hgrow; have hc1 := hv1.cell; have hf1 := hv1.frozen)
    exact ⟨hk2.from _, hk2.walks, ⟨⟨_, hv2, by rw [cells5_snoc, List.length_append]; exact hr2, trivial⟩, hB.trans hb2⟩⟩
  case done =>
    rintro D xs W hD hp ⟨⟨v, hv, hrow, _⟩, hB⟩ hK
    have hc := hv.cell
    gi_wp2
    refine ⟨by simp, .inl ⟨_, _, rfl, run_takeDeferred hK, ?_⟩⟩
    exact ⟨_, results_tmp rfl _ _ _, v, xs, rfl, hp, ownsRow_putObj hrow _ hK rfl, hB.trans (belowK_b (w := w) (Nat.le_refl _) W D _ _ (by simp at hD; omega) hK rfl rfl)⟩
  case stop =>
    rintro D c pre W _ _ h _
    exact h.elim
set_option maxRecDepth 100000 in
theorem collect_any {L : List Lz} (hlen : L.length ≤ 100) (Bm : Nat) (w0 w : World) (hb0 : Below w0.heap.size w0 w)
    (hseq : SeqStopsK Fence.wide 5 Try.prog 34 #[.pointer (some ⟨Bm, 0, none⟩)] (fun x : Lz => #[val x]) KeepsWalks (fun xs => xs.Perm L) (fun _ => True) L.length w0) :
    Calls Try.prog 32 #[.func (.func 34) #[] #[.pointer (some ⟨Bm, 0, none⟩)]] w fun e W' =>
      ∃ v xs, e = .returned v ∧ xs.Perm L ∧ Own 33 w.heap.size W' v xs ∧ Below w.heap.size w W' := by
  have ha := callsIn_wide.1 (appendSeq_wide hlen Bm w0 w hb0 hseq)
  clear hseq
  go_enter Try.func32, Try.ntmps32
  go_wp2_with (go_at_call 36; refine ha.mono ?_; clear ha; rintro e u ⟨v, xs, rfl, hp, ho, hb⟩)
  go_ret
  exact ⟨v, xs, rfl, hp, ho, hb⟩
end Go.Proofs.Ytlipepbemofihaa.Lease
