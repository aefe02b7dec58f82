/-
  Next and Nodes of a set return what the plain functions of RingPlain give; of what lay when the call began nothing has turned; any ints, any set from 0 to 2^64 less 1.
-/
import Derived.Test.YtgbenfdffhcjiaaRingSeq
namespace Go.Proofs.Ytgbenfdffhcjiaa.Ring
open Go.RowKit Go.Shelf
attribute [local go_sem] Oper.semAt_some

theorem next_out {x n i : Int} (h : has (all n) i = false) : next x n i = -1 := by
  rw [has_all] at h; unfold next; rw [h]; rfl
theorem next_in {x n i : Int} (h : has (all n) i = true) : next x n i = ((behind n i).find? (fun j => has x j)).getD i := by
  rw [has_all] at h; unfold next; rw [h]; rfl

theorem boxed_keptO {A C : World} {row : Option Nat} {B : Nat} {t : TypeId} {v : Value} (h : Boxed A B t v) (hg : A.grownBy C row) (hr : ∀ r, row = some r → ∃ o : Obj, A.heap[r]? = some o ∧ o.isCells = false) : Boxed C B t v :=
  h.kept hg (fun e => by
    obtain ⟨o, ho, hc⟩ := hr B e.symm
    rw [show A.heap[B]? = _ from h] at ho; cases ho; cases hc)
theorem find_none {x : Int} {l : List Int} (h : ∀ y ∈ l, has x y = false) (i : Int) : (l.find? (fun j => has x j)).getD i = i := by
  have : l.find? (fun j => has x j) = none := List.find?_eq_none.2 (fun y hy => by rw [h y hy]; simp)
  rw [this]; rfl
theorem find_first {x y : Int} {pre l : List Int} (hp : (pre ++ [y]) <+: l) (h : ∀ z ∈ pre, has x z = false) (hy : has x y = true) (i : Int) : (l.find? (fun j => has x j)).getD i = y := by
  obtain ⟨r, rfl⟩ := hp
  rw [List.append_assoc, List.find?_append, List.find?_eq_none.2 (fun z hz => by rw [h z hz]; simp)]
  simp [hy]

set_option maxRecDepth 100000 in
set_option maxHeartbeats 2000000 in
theorem next_wide (x m i : Int) (hx0 : 0 ≤ x) (hx1 : x < 18446744073709551616) (w : World) :
    CallsIn Fence.wide 6 Try.prog 25 #[.int .u64 x, .int .i64 m, .int .i64 i] w fun e W' => e = .returned (.int .i64 (next x m i)) ∧ Below w.heap.size w W' := by
  have hfH : Fence.wide.fn 16 := trivial
  have hfA : Fence.wide.fn 17 := trivial
  have hfB : Fence.wide.fn 33 := trivial
  have ha0 := all_lo m
  have ha1 := all_hi m
  rcases Bool.eq_false_or_eq_true (has (all m) i) with hh | hh
  · have hb : (1 ≤ m ∧ m ≤ 64) ∧ 0 ≤ i ∧ i < m := by
      have g := hh; rw [has_all] at g; unfold okRing at g; simpa using g
    obtain ⟨⟨hm0, hm1⟩, hi0, hi1⟩ := hb
    have hr := Lib.hid (next_in (x := x) hh)
    refine callsIn_of_wp_marks Try.func25 rfl trivial ?_ rfl
    simp only [Try.ntmps25, List.size_toArray, List.length_cons, List.length_nil, Nat.reduceAdd, Nat.reduceSub, Array.replicate_succ, Array.replicate_zero, List.push_toArray, List.append_toArray, List.nil_append, List.cons_append]
    gi_wp2_with (first
      | (gi_at_call 17; refine (callsIn_wide.2 (all_any _ _)).mono ?_; rintro e w' ⟨rfl, rfl⟩)
      | (gi_at_call 16; refine (callsIn_wide.2 (has_any _ _ _ ha0 ha1)).mono ?_; rintro e w' ⟨rfl, rfl⟩)
      | (gi_at_call 33; refine (behind_in _ _ _ _).mono ?_; rintro e w' ⟨rfl, rfl⟩))
    have b0 := Boxed.new w 40 (.int .u64 x)
    have b1 := Boxed.new (w.alloc (.cells #[.int .u64 x] 40)) 3 (.int .i64 0)
    have b2 := Boxed.new ((w.alloc (.cells #[.int .u64 x] 40)).alloc (.cells #[.int .i64 0] 3)) 3 (.int .i64 m)
    have b3 := Boxed.new (((w.alloc (.cells #[.int .u64 x] 40)).alloc (.cells #[.int .i64 0] 3)).alloc (.cells #[.int .i64 m] 3)) 3 (.int .i64 i)
    simp only [World.size_alloc] at b1 b2 b3
    have hB0 : Below w.heap.size w ((((w.alloc (.cells #[.int .u64 x] 40)).alloc (.cells #[.int .i64 0] 3)).alloc (.cells #[.int .i64 m] 3)).alloc (.cells #[.int .i64 i] 3)) :=
      ((((Below.refl _ w).alloc (Nat.le_refl _) _).alloc (by simp) _).alloc (by simp; omega) _).alloc (by simp; omega) _
    refine wpIn_rangeFunc_ownF rfl (by decide) (gf := 36) (lb := #[.pointer (some ⟨w.heap.size + 1 + 1, 0, none⟩), .pointer (some ⟨w.heap.size + 1 + 1 + 1, 0, none⟩)]) rfl trivial (enters_of Try.func36 (by kernel_rfl) rfl)
      (behind_stops 5 (by decide) (w.heap.size + 1 + 1) (w.heap.size + 1 + 1 + 1) m i hm0 hm1 hi0 hi1 _ (b2.alloc _) b3) keeps2_t keeps2_b (Below.refl _ _) (fun _ => rfl)
      (fun pre W => ((∀ y ∈ pre, has x y = false) ∧ Boxed W w.heap.size 40 (.int .u64 x) ∧ Boxed W (w.heap.size + 1) 3 (.int .i64 0) ∧ Boxed W (w.heap.size + 1 + 1) 3 (.int .i64 m) ∧ Boxed W (w.heap.size + 1 + 1 + 1) 3 (.int .i64 i)) ∧ Below w.heap.size w W)
      (fun c pre W => (c = .ret ∧ ∃ (y : Int) (q : List Int), pre = q ++ [y] ∧ (∀ z ∈ q, has x z = false) ∧ has x y = true ∧ Boxed W (w.heap.size + 1) 3 (.int .i64 y)) ∧ Below w.heap.size w W)
      (OwnFrom.and (Own.from (fun s A B row hs hg hr => ⟨hs.1, boxed_keptO hs.2.1 hg hr, boxed_keptO hs.2.2.1 hg hr, boxed_keptO hs.2.2.2.1 hg hr, boxed_keptO hs.2.2.2.2 hg hr⟩) _) (ownFrom_below (Nat.le_refl _) (by simp; omega)))
      (fun c => OwnFrom.and (Own.from (fun s A B row hs hg hr => ⟨hs.1, hs.2.elim fun y h => ⟨y, h.elim fun q h => ⟨q, h.1, h.2.1, h.2.2.1, boxed_keptO h.2.2.2 hg hr⟩⟩⟩) _) (ownFrom_below (Nat.le_refl _) (by simp; omega)))
      ⟨⟨by simp, ((b0.alloc _).alloc _).alloc _, (b1.alloc _).alloc _, b2.alloc _, b3⟩, hB0⟩
      (fun y => { tmps := #[.int .u64 x, .int .i64 m, .int .i64 i, .pointer (some ⟨w.heap.size, 0, none⟩), undef, undef, .pointer (some ⟨w.heap.size + 1, 0, none⟩), .int .i64 y, .int .i64 m, .int .u64 (all m), .int .i64 i, .bool true, .bool false, .int .i64 m, .int .i64 i, .func (.func 36) #[] #[.pointer (some ⟨w.heap.size + 1 + 1, 0, none⟩), .pointer (some ⟨w.heap.size + 1 + 1 + 1, 0, none⟩)], .int .i64 y, undef, undef, undef, undef, undef], defers := [] }) ?assign ?body ?done ?stop
    case assign =>
      intro l y W K hK
      gi_wp2
      exact hK
    case body =>
      rintro l pre y W ⟨⟨hp, h0, h1, h2, h3⟩, hB⟩ _
      have hd : 1 ≤ 6 - 1 - 1 := by decide
      have hc0 := h0.cell
      have hc1 := h1.cell
      have hf1 := h1.frozen
      rcases Bool.eq_false_or_eq_true (has x y) with hy | hy
      · gi_wp2_with (gi_at_call 16; refine (CallsIn.inRound l (callsIn_wide.2 (has_any _ _ _ hx0 hx1))).mono ?_; rintro e w' ⟨rfl, rfl⟩)
        exact ⟨KeepsOthers.setCell _ _ _, ⟨rfl, y, pre, rfl, hp, hy, h1.set _⟩, hB.setCell (p := ⟨w.heap.size + 1, 0, none⟩) (by simp) _⟩
      · gi_wp2_with (gi_at_call 16; refine (CallsIn.inRound l (callsIn_wide.2 (has_any _ _ _ hx0 hx1))).mono ?_; rintro e w' ⟨rfl, rfl⟩)
        exact ⟨KeepsOthers.refl _, ⟨fun b => b, fun b => b⟩, ⟨fun z hz => (List.mem_append.1 hz).elim (hp z) (fun e => by simp at e; rw [e]; exact hy), h0, h1, h2, h3⟩, hB⟩
    case done =>
      rintro D ys W hD rfl ⟨⟨hne, _, h1, _, _⟩, hB⟩ hK
      have hc1 := h1.cell
      have hf1 := h1.frozen
      gi_wp2
      have hK' := (KeepsOthers.setCell W ⟨w.heap.size + 1, 0, none⟩ (.int .i64 i)).same D _ hK rfl
      refine ⟨by simp, .inl ⟨_, _, rfl, run_takeDeferred hK', ?_⟩⟩
      have hc5 := (boxed_put (h1.set (.int .i64 i)) D _ (.deferred none) hK' rfl).cell
      refine ⟨.int .i64 i, ?_, by rw [hr.out, find_none hne], (hB.setCell (p := ⟨w.heap.size + 1, 0, none⟩) (by simp) _).trans (belowK_b (w := w) (Nat.le_refl _) _ D _ _ (by simp at hD; omega) hK' rfl rfl)⟩
      simp [results, Try.f25, go_sem, hc5]
    case stop =>
      rintro D c pre W hD hpre ⟨⟨rfl, y, q, rfl, hq, hy, h1⟩, hB⟩ hK
      gi_wp2
      refine ⟨by simp, .inl ⟨_, _, rfl, run_takeDeferred hK, ?_⟩⟩
      have hc5 := (boxed_put h1 D _ (.deferred none) hK rfl).cell
      refine ⟨.int .i64 y, ?_, by rw [hr.out, find_first hpre hq hy], hB.trans (belowK_b (w := w) (Nat.le_refl _) W D _ _ (by simp at hD; omega) hK rfl rfl)⟩
      simp [results, Try.f25, go_sem, hc5]
  · have hr := Lib.hid (next_out (x := x) hh)
    refine callsIn_of_wp_marks Try.func25 rfl trivial ?_ rfl
    simp only [Try.ntmps25, List.size_toArray, List.length_cons, List.length_nil, Nat.reduceAdd, Nat.reduceSub, Array.replicate_succ, Array.replicate_zero, List.push_toArray, List.append_toArray, List.nil_append, List.cons_append]
    gi_wp2_with (first
      | (gi_at_call 17; refine (callsIn_wide.2 (all_any _ _)).mono ?_; rintro e w' ⟨rfl, rfl⟩)
      | (gi_at_call 16; refine (callsIn_wide.2 (has_any _ _ _ ha0 ha1)).mono ?_; rintro e w' ⟨rfl, rfl⟩))
    have b1 := (Boxed.new (w.alloc (.cells #[.int .u64 x] 40)) 3 (.int .i64 (-1))).cell
    simp only [World.size_alloc] at b1
    refine ⟨.int .i64 (-1), ?_, by rw [hr.out], ((Below.refl _ w).alloc (Nat.le_refl _) _).alloc (by simp) _⟩
    simp [results, Try.f25, go_sem, b1]

theorem next_any (x m i : Int) (w : World) (hx0 : 0 ≤ x) (hx1 : x < 18446744073709551616) :
    Calls Try.prog 25 #[.int .u64 x, .int .i64 m, .int .i64 i] w fun e W' => e = .returned (.int .i64 (next x m i)) ∧ Below w.heap.size w W' :=
  callsIn_wide.1 (next_wide x m i hx0 hx1 w)
end Go.Proofs.Ytgbenfdffhcjiaa.Ring
