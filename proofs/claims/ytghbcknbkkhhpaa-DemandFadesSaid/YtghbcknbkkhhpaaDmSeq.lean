/-
  maps.Keys of the estimates' map hands back what gives its keys, each once, in some order, to any loop that leaves maps and their iterators alone; of no map, none.
-/
import Derived.Test.YtghbcknbkkhhpaaDmNote
import Derived.RangeFuncNested
import Derived.RangeFuncBound
import Derived.RangeFuncCalls
import Derived.RangeFuncLeaves
import Derived.Shelf.Abstract
import Derived.Shelf.RegionOpen
import Derived.Sort.MapsRangeIn
import Derived.WalkKit
import Derived.OwnWalkIn
import Derived.TacticsInMore
import Derived.LoopNIn
import Derived.LoopIn
namespace Go.Proofs.Ytghbcknbkkhhpaa.Demand
open Go.RowKit Go.Maps Go.Shelf
attribute [local go_sem] Oper.semAt_some

/-- What has come. -/
structure Got (L : List Nt) (left : Lit → Bool) (ss : List Int) : Prop where
  once : ss.Nodup
  mem : ∀ x, x ∈ ss ↔ (of L x ≠ 0 ∧ left (kl x) = false)
theorem Got.start {D : DataW Unit} {L : List Nt} (hi : Is D L) : Got L (Maps.has D) [] := by
  refine ⟨.nil, fun x => ⟨fun h => (by cases h), fun ⟨h, h0⟩ => ?_⟩⟩
  rw [hi.has] at h0
  exact absurd h (of_decide_eq_false h0)
theorem Got.perm {L : List Nt} {left : Lit → Bool} {ss : List Int} (h : Got L left ss) (hl : ∀ k, left k = false) : ss.Perm (keys L) :=
  (List.perm_ext_iff_of_nodup h.once (nodup_rise (keys_rise L))).2 fun x => by rw [h.mem x, hl, keys_mem]; simp
theorem came {D : DataW Unit} {L : List Nt} (hi : Is D L) {x : Int} {y : DataW Unit} (hat : ∀ zd, D.atKey (kl x) zd = y) : of L x ≠ 0 := by
  have h1 := has_true_of_atKey hat
  rw [hi.has] at h1
  exact of_decide_eq_true h1
theorem Got.step {L : List Nt} {left : Lit → Bool} {ss : List Int} (h : Got L left ss) {x : Int} (hlk : left (kl x) = true) (hy : of L x ≠ 0) : Got L (fun z => left z && !z.sameKey (kl x)) (ss ++ [x]) := by
  have hnew : x ∉ ss := fun hm => by
    have := ((h.mem x).1 hm).2
    rw [hlk] at this
    cases this
  refine ⟨List.nodup_append.2 ⟨h.once, by simp, fun a ha b hb => by simp at hb; subst hb; exact fun e => hnew (e ▸ ha)⟩, fun v => ?_⟩
  rw [List.mem_append, h.mem v, List.mem_singleton, kl_same]
  constructor
  · rintro (⟨h1, h2⟩ | rfl)
    · exact ⟨h1, by simp [h2]⟩
    · exact ⟨hy, by simp⟩
  · rintro ⟨h1, h2⟩
    by_cases e : v = x
    · exact .inr e
    · left
      refine ⟨h1, ?_⟩
      have : (v == x) = false := by simpa using e
      rw [this] at h2
      simpa using h2

set_option maxRecDepth 100000 in
set_option maxHeartbeats 1000000 in
theorem keys_in (n : Nat) (hn : 1 ≤ n) (l Bm b nn : Nat) (D : DataW Unit) (L : List Nt) (hi : Is D L) (J Jx : List Int → World → Prop)
    (hY : ∀ pre x W, J pre W → pre.length < (keys L).length → YieldAt Fence.wide (n - 1) Try.prog l #[.int .i64 x] W fun e W' =>
      (e = .returned (.bool true) ∧ J (pre ++ [x]) W' ∧ KeepsWalks W W') ∨ (e = .returned (.bool false) ∧ Jx (pre ++ [x]) W'))
    (W : World) (hJ : AbidesFrom W.heap.size J) (hm : W.cell? ⟨Bm, 0, none⟩ = some (.map (some b))) (hown : W.ownsMap Try.prog 3 rdi b nn D) (h0 : J [] W) :
    CallsIn Fence.wide n Try.prog 26 #[.func (.yield l) #[] #[], .pointer (some ⟨Bm, 0, none⟩)] W fun e W' => (∃ v, e = .returned v) ∧
      ((∃ xs, xs.Perm (keys L) ∧ J xs W') ∨ (∃ pre, True ∧ Jx pre W')) := by
  refine callsIn_of_wp Try.func26 rfl trivial ?_ rfl
  simp only [Try.ntmps26, List.size_toArray, List.length_cons, List.length_nil, Nat.reduceAdd, Nat.reduceSub, Array.replicate_succ, Array.replicate_zero, List.push_toArray, List.append_toArray, List.nil_append, List.cons_append]
  gi_wp2_with (first
    | (gi_at_range; refine wpListIn_range_own _ rfl _ 40 rfl 3 3 int_key Try.underlying40 rdi b nn _ rfl hown ?_; intro w0 hrg0 hg0 hs0)
    | gi_in)
  go_frame
  gi_loopw [7] (fun _ wr => ∃ (left : Lit → Bool) (cnt : Nat) (ss : List Int), wr.ranges Try.prog 3 rdi b W.heap.size nn D left cnt ∧ ss.length + cnt ≤ (keys L).length ∧ Got L left ss ∧ J ss wr)
    (fun _ wr => wr.rangeLeft b W.heap.size)
  case atStart =>
    exact ⟨_, _, [], hrg0, by simp [hi.size], Got.start hi, hJ [] W w0 none h0 hg0 (fun r e => by cases e)⟩
  case round =>
    obtain ⟨left, cnt, ss, hrg, hcs, hC, hJs⟩ := hrel
    gi_wp2_with (first
      | (gi_at_next; refine wpListIn_next_ranges _ rfl _ rfl 3 int_key rdi (Value.int .i64) (Value.int .i64) (fun key kl h => by obtain ⟨x, rfl, -⟩ := Maps.keyOf_int_inv Try.underlying3 h; exact ⟨x, rfl⟩) (fun v y h => by obtain ⟨x, rfl, -⟩ := rdi_inv h; exact ⟨x, rfl⟩) b W.heap.size nn _ _ _ rfl hrg ?_ ?_)
      | gi_in)
    · intro hc0 hl0
      gi_wp2
      go_end0
      exact ⟨⟨_, rfl⟩, .inl ⟨ss, hC.perm hl0, hJs⟩⟩
    · intro x y k1 yd yp w2 cnt2 hkey hlk hv hat hrg2 hlt hg2 hs2 hen
      obtain ⟨x', ex, rfl, -⟩ := Maps.keyOf_int_inv Try.underlying3 hkey
      obtain rfl : x = x' := by simpa using ex
      have hJ2 : J ss w2 := hJ ss wr w2 (some W.heap.size) hJs hg2 (fun r e => by cases e; exact ⟨Nat.le_refl _, hrg.iter_walk⟩)
      have hC2 := hC.step hlk (came hi hat)
      obtain ⟨fn, tmps, assign, body, hy, hR⟩ := hY ss x _ hJ2 (by omega)
      have hrg3 := Lib.hid hrg2
      clear hs2 hv
      gi_wp2
      refine hR.mono ?_
      rintro e W3 (⟨rfl, hJ4, hk4⟩ | ⟨rfl, hJx4⟩)
      · gi_wp2
        have hrg4 := hrg3.out.of_walks hk4
        go_roundw
        case rel => exact ⟨_, cnt2, ss ++ [x], hrg4, by simp; omega, hC2, hJ4⟩
        case measure => rw [hrg4.left_eq, hrg.left_eq]; exact hlt
      · gi_wp2
        refine bodyPost_ret (results_none rfl _ _ _) rfl ?_
        exact ⟨⟨_, rfl⟩, .inr ⟨ss ++ [x], trivial, hJx4⟩⟩
set_option maxRecDepth 100000 in
set_option maxHeartbeats 1000000 in
theorem keys_nil (n : Nat) (l Bm : Nat) (J : List Int → World → Prop) (W : World) (hJ : AbidesFrom W.heap.size J) (hm : W.cell? ⟨Bm, 0, none⟩ = some (.map none)) (h0 : J [] W) :
    CallsIn Fence.wide n Try.prog 26 #[.func (.yield l) #[] #[], .pointer (some ⟨Bm, 0, none⟩)] W fun e W' => (∃ v, e = .returned v) ∧ J [] W' := by
  refine callsIn_of_wp Try.func26 rfl trivial ?_ rfl
  simp only [Try.ntmps26, List.size_toArray, List.length_cons, List.length_nil, Nat.reduceAdd, Nat.reduceSub, Array.replicate_succ, Array.replicate_zero, List.push_toArray, List.append_toArray, List.nil_append, List.cons_append]
  have hrg := run_range_nilMap (P := Try.prog) W 40 _ _ Try.underlying40
  have hnx : ∀ ty, (Instr.next (.pointer (some ⟨W.heap.size, 0, none⟩)) false ty).run Try.prog (W.alloc (.mapIter none 0 #[] 0)) = _ := fun ty => run_next_nilMap _ ty 0 0 #[]
  gi_wp2
  refine wpIn_loop_rounds 1 ?_
  rw [roundsIn_succ]
  gi_wp2
  go_end0
  exact ⟨⟨_, rfl⟩, hJ [] W _ none h0 (World.grownBy_alloc W _ none) (fun r e => by cases e)⟩
theorem keys_stops (n : Nat) (hn : 1 ≤ n) {B Bm : Nat} {w : World} {m : Option Nat} {L : List Nt} (h : Mw B w m L) (hm : w.cell? ⟨Bm, 0, none⟩ = some (.map m)) (hlt : Bm < w.heap.size) :
    SeqStopsK Fence.wide n Try.prog 26 #[.pointer (some ⟨Bm, 0, none⟩)] (fun x : Int => #[.int .i64 x]) KeepsWalks (fun xs => xs.Perm (keys L)) (fun _ => True) (keys L).length w := fun l J Jx W hW hJ _ hY h0 => by
  have hm' := (hW.cell (p := ⟨Bm, 0, none⟩) hlt).trans hm
  rcases h.below hW with ⟨rfl, hk⟩ | ⟨b, D, rfl, -, ho, hi⟩
  · refine (keys_nil n l Bm J W hJ hm' h0).mono ?_
    rintro e W' ⟨hv, hJ'⟩
    exact ⟨hv, .inl ⟨[], by rw [hk], hJ'⟩⟩
  · exact keys_in n hn l Bm b _ D L hi J Jx hY W hJ hm' ho h0
theorem keys_call (n : Nat) (m : Option Nat) (w : World) :
    CallsIn Fence.wide n Try.prog 22 #[.map m] w fun e w' => e = .returned (.func (.func 26) #[] #[.pointer (some ⟨w.heap.size, 0, none⟩)]) ∧ w' = w.alloc (.cells #[.map m] 40) := by
  refine callsIn_of_wp Try.func22 rfl trivial ?_ rfl
  simp only [Try.ntmps22, List.size_toArray, List.length_cons, List.length_nil, Nat.reduceAdd, Nat.reduceSub, Array.replicate_succ, Array.replicate_zero, List.push_toArray, List.append_toArray, List.nil_append, List.cons_append]
  gi_wp2
  go_ret
  exact ⟨rfl, rfl⟩
end Go.Proofs.Ytghbcknbkkhhpaa.Demand
