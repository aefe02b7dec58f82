/-
  The functions that package ring hands to a range (rising: a set's nodes from the least one on; behind: once round a ring) give their nodes in order to any loop that leaves their variables alone; any set from 0 to 2^64 less 1, any ring from 1 to 64, any node of it.
-/
import Derived.RangeFuncNested
import Derived.RangeFuncBound
import Derived.RangeFuncCalls
import Derived.RangeFuncLeaves
import Derived.Shelf.Abstract
import Derived.Shelf.RegionOpen
import Derived.WalkKit
import Derived.OwnWalkIn
import Derived.TacticsInMore
import Derived.LoopNIn
import Derived.LoopIn
import Derived.Maps.AppendAt
import Derived.Test.YtgbenfdffhcjiaaRingCount
namespace Go.Proofs.Ytgbenfdffhcjiaa.Ring
open Go.RowKit Go.Shelf
attribute [local go_sem] Oper.semAt_some

/-- The nodes of a set that are below k. -/
def pref (x : Int) (k : Nat) : List Int := ((List.range k).filter (fun i => x.toNat.testBit i)).map (fun i : Nat => (i : Int))
theorem pref_all (x : Int) : pref x 64 = nodes x := rfl
theorem pref_hit (x : Int) (k : Nat) (hk : k < 64) (h : has x (k : Int) = true) : pref x (k + 1) = pref x k ++ [(k : Int)] := by
  rw [has_nat x k hk] at h
  unfold pref; rw [List.range_succ, List.filter_append, List.map_append]; simp [h]
theorem pref_miss (x : Int) (k : Nat) (hk : k < 64) (h : has x (k : Int) = false) : pref x (k + 1) = pref x k := by
  rw [has_nat x k hk] at h
  unfold pref; rw [List.range_succ, List.filter_append, List.map_append]; simp [h]
theorem pref_le (x : Int) (k : Nat) : ∀ m : Nat, pref x k <+: pref x (k + m)
  | 0 => List.prefix_refl _
  | m + 1 => by
    refine List.IsPrefix.trans (pref_le x k m) ?_
    unfold pref
    rw [show k + (m + 1) = (k + m) + 1 by omega, List.range_succ, List.filter_append, List.map_append]
    exact List.prefix_append _ _
theorem pref_in (x : Int) (k : Nat) (hk : k ≤ 64) : pref x k <+: nodes x := by
  have h := pref_le x k (64 - k)
  rwa [show k + (64 - k) = 64 by omega] at h

/-- A variable that is left alone. -/
def Keeps (B : Nat) (t : TypeId) (v : Value) (W W' : World) : Prop := Boxed W B t v → Boxed W' B t v
theorem boxed_put {W : World} {B : Nat} {t : TypeId} {v : Value} (h : Boxed W B t v) (l : Nat) (o o' : Obj) (hl : W.heap[l]? = some o) (hc : o.isCells = false) : Boxed (W.putObj l o') B t v :=
  h.kept (grownBy_putObj' W l o') (fun e => by
    cases e
    have := (show W.heap[B]? = _ from h).symm.trans hl
    cases this; cases hc)
theorem boxed_below {B : Nat} {t : TypeId} {v : Value} {W W' : World} {n₀ : Nat} (hb : Below n₀ W W') (hB : B < n₀) (h : Boxed W B t v) : Boxed W' B t v :=
  (hb.block B hB).trans h




theorem keeps_t {B : Nat} {t : TypeId} {v : Value} {A C D : World} (h : Keeps B t v A C) (k : Keeps B t v C D) : Keeps B t v A D := fun b => k (h b)
theorem keeps_b {B : Nat} {t : TypeId} {v : Value} {w : World} (W : World) (l : Nat) (o o' : Obj) (_ : w.heap.size ≤ l) (h : W.heap[l]? = some o) (hc : o.isCells = false) (_ : o.isWalk = false) : Keeps B t v W (W.putObj l o') := fun b => boxed_put b l o o' h hc

/-- Once round: the first k. -/
def bpre (n i : Int) (k : Nat) : List Int := (List.range k).map (fun t : Nat => (i + ((t : Int) + 1)) % n)
theorem bpre_all (n i : Int) : bpre n i (n.toNat - 1) = behind n i := rfl
theorem bpre_succ (n i : Int) (k : Nat) : bpre n i (k + 1) = bpre n i k ++ [(i + ((k : Int) + 1)) % n] := by unfold bpre; rw [List.range_succ, List.map_append]; rfl
theorem bpre_le (n i : Int) (k : Nat) : ∀ m : Nat, bpre n i k <+: bpre n i (k + m)
  | 0 => List.prefix_refl _
  | m + 1 => by
    refine List.IsPrefix.trans (bpre_le n i k m) ?_
    rw [show k + (m + 1) = (k + m) + 1 by omega, bpre_succ]
    exact List.prefix_append _ _
theorem bpre_in (n i : Int) (k : Nat) (hk : k ≤ n.toNat - 1) : bpre n i k <+: behind n i := by
  have h := bpre_le n i k (n.toNat - 1 - k)
  rwa [show k + (n.toNat - 1 - k) = n.toNat - 1 by omega] at h

def Keeps2 (B : Nat) (t : TypeId) (v : Value) (B' : Nat) (t' : TypeId) (v' : Value) (W W' : World) : Prop := Keeps B t v W W' ∧ Keeps B' t' v' W W'

set_option maxRecDepth 100000 in
set_option maxHeartbeats 1000000 in
theorem behind1_in (n : Nat) (hn : 1 ≤ n) (l B1 B2 : Nat) (m i : Int) (hm0 : 1 ≤ m) (hm1 : m ≤ 64) (hi0 : 0 ≤ i) (hi1 : i < m) (J Jx : List Int → World → Prop)
    (hY : ∀ pre y W, J pre W → pre.length < (behind m i).length → YieldAt Fence.wide (n - 1) Try.prog l #[.int .i64 y] W fun e W' =>
      (e = .returned (.bool true) ∧ J (pre ++ [y]) W' ∧ Keeps2 B1 3 (.int .i64 m) B2 3 (.int .i64 i) W W') ∨ (e = .returned (.bool false) ∧ Jx (pre ++ [y]) W'))
    (W : World) (hB1 : Boxed W B1 3 (.int .i64 m)) (hB2 : Boxed W B2 3 (.int .i64 i)) (h0 : J [] W) :
    CallsIn Fence.wide n Try.prog 36 #[.func (.yield l) #[] #[], .pointer (some ⟨B1, 0, none⟩), .pointer (some ⟨B2, 0, none⟩)] W fun e W' => (∃ v, e = .returned v) ∧
      ((∃ ys, ys = behind m i ∧ J ys W') ∨ (∃ pre, pre <+: behind m i ∧ Jx pre W')) := by
  refine callsIn_of_wp Try.func36 rfl trivial ?_ rfl
  simp only [Try.ntmps36, List.size_toArray, List.length_cons, List.length_nil, Nat.reduceAdd, Nat.reduceSub, Array.replicate_succ, Array.replicate_zero, List.push_toArray, List.append_toArray, List.nil_append, List.cons_append]
  gi_wp2
  gi_loopw [4] (fun k wr => ∃ q : Nat, k = .int .i64 ((q : Int) + 1) ∧ (q : Int) + 1 ≤ m ∧ Boxed wr B1 3 (.int .i64 m) ∧ Boxed wr B2 3 (.int .i64 i) ∧ J (bpre m i q) wr)
    (fun k _ => 65 - (intOf k).toNat)
  case atStart =>
    exact ⟨0, rfl, by omega, hB1, hB2, h0⟩
  case round =>
    obtain ⟨q, rfl, hq, hb1, hb2, hJ⟩ := hrel
    have hc1 := hb1.cell
    have hc2 := hb2.cell
    by_cases hq' : (q : Int) + 1 = m
    · gi_wp2
      go_end0
      exact ⟨⟨_, rfl⟩, .inl ⟨_, by rw [← bpre_all]; congr 1; omega, hJ⟩⟩
    · have hq2 : (q : Int) + 1 < m := by omega
      have he : (i + ((q : Int) + 1)).tmod m = (i + ((q : Int) + 1)) % m := Int.tmod_eq_emod_of_nonneg (by omega)
      obtain ⟨fn, tmps, assign, body, hy, hR⟩ := hY (bpre m i q) ((i + ((q : Int) + 1)) % m) wr hJ (by
          have h2 := (bpre_in m i (q + 1) (by omega)).length_le
          rw [bpre_succ] at h2; simp at h2; omega)
      have hs := bpre_succ m i q
      have hp := bpre_in m i (q + 1) (by omega)
      have HS := Lib.hid hs; clear hs
      have HP := Lib.hid hp; clear hp
      gi_wp2
      refine hR.mono ?_
      rintro e W3 (⟨rfl, hJ3, hk3⟩ | ⟨rfl, hJx3⟩)
      · have hc13 := (hk3.1 hb1).cell
        gi_wp2
        go_roundw
        case rel => exact ⟨q + 1, by simp, by omega, hk3.1 hb1, hk3.2 hb2, by rw [HS.out]; exact hJ3⟩
        case measure => (simp only [intOf]; omega)
      · gi_wp2
        refine bodyPost_ret (results_none rfl _ _ _) rfl ?_
        exact ⟨⟨_, rfl⟩, .inr ⟨_, by rw [← HS.out]; exact HP.out, hJx3⟩⟩

theorem behind_in (n : Nat) (m i : Int) (w : World) :
    CallsIn Fence.wide n Try.prog 33 #[.int .i64 m, .int .i64 i] w fun e w' => e = .returned (.func (.func 36) #[] #[.pointer (some ⟨w.heap.size, 0, none⟩), .pointer (some ⟨w.heap.size + 1, 0, none⟩)]) ∧ w' = (w.alloc (.cells #[.int .i64 m] 3)).alloc (.cells #[.int .i64 i] 3) := by
  refine callsIn_of_wp Try.func33 rfl trivial ?_ rfl
  simp only [Try.ntmps33, List.size_toArray, List.length_cons, List.length_nil, Nat.reduceAdd, Nat.reduceSub, Array.replicate_succ, Array.replicate_zero, List.push_toArray, List.append_toArray, List.nil_append, List.cons_append]
  gi_wp2
  go_ret
  exact ⟨rfl, rfl⟩

theorem behind_stops (n : Nat) (hn : 1 ≤ n) (B1 B2 : Nat) (m i : Int) (hm0 : 1 ≤ m) (hm1 : m ≤ 64) (hi0 : 0 ≤ i) (hi1 : i < m) (w : World) (hb1 : Boxed w B1 3 (.int .i64 m)) (hb2 : Boxed w B2 3 (.int .i64 i)) :
    SeqStopsK Fence.wide n Try.prog 36 #[.pointer (some ⟨B1, 0, none⟩), .pointer (some ⟨B2, 0, none⟩)] (fun y : Int => #[Value.int .i64 y]) (Keeps2 B1 3 (.int .i64 m) B2 3 (.int .i64 i)) (fun ys => ys = behind m i) (fun pre => pre <+: behind m i) (behind m i).length w := fun l J Jx W hW _ _ hY h0 =>
  behind1_in n hn l B1 B2 m i hm0 hm1 hi0 hi1 J Jx hY W (boxed_below hW hb1.lt hb1) (boxed_below hW hb2.lt hb2) h0
theorem keeps2_t {B : Nat} {t : TypeId} {v : Value} {B' : Nat} {t' : TypeId} {v' : Value} {A C D : World} (h : Keeps2 B t v B' t' v' A C) (k : Keeps2 B t v B' t' v' C D) : Keeps2 B t v B' t' v' A D := ⟨fun b => k.1 (h.1 b), fun b => k.2 (h.2 b)⟩
theorem keeps2_b {B : Nat} {t : TypeId} {v : Value} {B' : Nat} {t' : TypeId} {v' : Value} {w : World} (W : World) (l : Nat) (o o' : Obj) (_ : w.heap.size ≤ l) (h : W.heap[l]? = some o) (hc : o.isCells = false) (_ : o.isWalk = false) : Keeps2 B t v B' t' v' W (W.putObj l o') :=
  ⟨fun b => boxed_put b l o o' h hc, fun b => boxed_put b l o o' h hc⟩
end Go.Proofs.Ytgbenfdffhcjiaa.Ring
