/-
  maps.Values of a map of leases hands back what gives its leases, each once, in some order, to any loop that leaves maps and their iterators alone; of no map, none.
-/
import Derived.Test.YtlipepbemofihaaLsDrop
import Derived.RangeFuncNested
import Derived.RangeFuncBound
import Derived.RangeFuncCalls
import Derived.RangeFuncLeaves
import Derived.Shelf.Abstract
import Derived.Shelf.RegionOpen
import Derived.Sort.MapsRangeIn
import Derived.WalkKit
import Derived.OwnWalkIn
import Derived.TacticsInMore
import Derived.LoopNIn
import Derived.LoopIn
namespace Go.Proofs.Ytlipepbemofihaa.Lease
open Go.RowKit Go.Maps Go.Shelf
attribute [local go_sem] Oper.semAt_some

theorem rise_one {l : List Lz} (h : Rise l) {x y : Lz} (hx : x ∈ l) (hy : y ∈ l) (e : x.key = y.key) : x = y := by
  induction l with
  | nil => simp at hx
  | cons a l ih =>
    obtain ⟨h1, h2⟩ := List.pairwise_cons.1 h
    rcases List.mem_cons.1 hx with ex | hx'
    · rcases List.mem_cons.1 hy with ey | hy'
      · rw [ex, ey]
      · have := h1 _ hy'
        rw [← ex] at this
        omega
    · rcases List.mem_cons.1 hy with ey | hy'
      · have := h1 _ hx'
        rw [← ey] at this
        omega
      · exact ih h2 hx' hy'
theorem rise_nodup {l : List Lz} (h : Rise l) : l.Nodup := h.imp fun {a b} hab e => by rw [e] at hab; omega
/-- What has come. -/
structure Got (L : List Lz) (left : Lit → Bool) (ss : List Lz) : Prop where
  once : ss.Nodup
  mem : ∀ x, x ∈ ss ↔ (x ∈ L ∧ left (kl x.key) = false)
theorem Got.start {D : DataW Unit} {L : List Lz} (hi : Is D L) : Got L (Maps.has D) [] := by
  refine ⟨.nil, fun x => ⟨fun h => (by cases h), fun ⟨h, h0⟩ => ?_⟩⟩
  rw [hi.has] at h0
  have h1 := of_decide_eq_false h0
  exact absurd rfl (place_none (l := L) (k := x.key) (by omega) x h)
theorem Got.perm {L : List Lz} {left : Lit → Bool} {ss : List Lz} (h : Got L left ss) (hr : Rise L) (hl : ∀ k, left k = false) : ss.Perm L :=
  (List.perm_ext_iff_of_nodup h.once (rise_nodup hr)).2 fun x => by rw [h.mem x, hl]; simp
theorem came {D : DataW Unit} {L : List Lz} (hi : Is D L) (hr : Rise L) {x : Int} {y : Lz} (hat : ∀ zd, D.atKey (kl x) zd = dat y) : y ∈ L ∧ y.key = x := by
  have h1 := has_true_of_atKey hat
  rw [hi.has] at h1
  have hp := of_decide_eq_true h1
  have h2 := hat (dat z)
  rw [hi.at hr] at h2
  have h3 := dat_inj h2
  unfold found at h3
  rw [if_pos hp] at h3
  obtain ⟨-, hk, hm⟩ := place_some hp
  exact ⟨h3 ▸ hm, h3 ▸ hk⟩
theorem Got.step {L : List Lz} {left : Lit → Bool} {ss : List Lz} (h : Got L left ss) (hr : Rise L) {x : Int} {y : Lz} (hlk : left (kl x) = true) (hy : y ∈ L ∧ y.key = x) : Got L (fun z => left z && !z.sameKey (kl x)) (ss ++ [y]) := by
  obtain ⟨hy, hk⟩ := hy
  have hnew : y ∉ ss := fun hm => by
    have := ((h.mem y).1 hm).2
    rw [hk, hlk] at this
    cases this
  refine ⟨List.nodup_append.2 ⟨h.once, by simp, fun a ha b hb => by simp at hb; subst hb; exact fun e => hnew (e ▸ ha)⟩, fun v => ?_⟩
  rw [List.mem_append, h.mem v, List.mem_singleton, kl_same]
  constructor
  · rintro (⟨h1, h2⟩ | rfl)
    · exact ⟨h1, by simp [h2]⟩
    · exact ⟨hy, by simp [hk]⟩
  · rintro ⟨h1, h2⟩
    by_cases e : v.key = x
    · exact .inr (rise_one hr h1 hy (by rw [e, hk]))
    · left
      refine ⟨h1, ?_⟩
      have : (v.key == x) = false := by simpa using e
      rw [this] at h2
      simpa using h2

set_option maxRecDepth 100000 in
set_option maxHeartbeats 1000000 in
theorem values_in (n : Nat) (hn : 1 ≤ n) (l Bm b nn : Nat) (D : DataW Unit) (L : List Lz) (hi : Is D L) (hr : Rise L) (J Jx : List Lz → World → Prop)
    (hY : ∀ pre x W, J pre W → pre.length < L.length → YieldAt Fence.wide (n - 1) Try.prog l #[val x] W fun e W' =>
      (e = .returned (.bool true) ∧ J (pre ++ [x]) W' ∧ KeepsWalks W W') ∨ (e = .returned (.bool false) ∧ Jx (pre ++ [x]) W'))
    (W : World) (hJ : AbidesFrom W.heap.size J) (hm : W.cell? ⟨Bm, 0, none⟩ = some (.map (some b))) (hown : W.ownsMap Try.prog 3 rdz b nn D) (h0 : J [] W) :
    CallsIn Fence.wide n Try.prog 34 #[.func (.yield l) #[] #[], .pointer (some ⟨Bm, 0, none⟩)] W fun e W' => (∃ v, e = .returned v) ∧
      ((∃ xs, xs.Perm L ∧ J xs W') ∨ (∃ pre, True ∧ Jx pre W')) := by
  refine callsIn_of_wp Try.func34 rfl trivial ?_ rfl
  simp only [Try.ntmps34, List.size_toArray, List.length_cons, List.length_nil, Nat.reduceAdd, Nat.reduceSub, Array.replicate_succ, Array.replicate_zero, List.push_toArray, List.append_toArray, List.nil_append, List.cons_append]
  gi_wp2_with (first
    | (gi_at_range; refine wpListIn_range_own _ rfl _ 48 rfl 3 33 int_key Try.underlying48 rdz b nn _ rfl hown ?_; intro w0 hrg0 hg0 hs0)
    | gi_in)
  go_frame
  gi_loopw [7] (fun _ wr => ∃ (left : Lit → Bool) (cnt : Nat) (ss : List Lz), wr.ranges Try.prog 3 rdz b W.heap.size nn D left cnt ∧ ss.length + cnt ≤ L.length ∧ Got L left ss ∧ J ss wr)
    (fun _ wr => wr.rangeLeft b W.heap.size)
  case atStart =>
    exact ⟨_, _, [], hrg0, by simp [hi.size], Got.start hi, hJ [] W w0 none h0 hg0 (fun r e => by cases e)⟩
  case round =>
    obtain ⟨left, cnt, ss, hrg, hcs, hC, hJs⟩ := hrel
    gi_wp2_with (first
      | (gi_at_next; refine wpListIn_next_ranges _ rfl _ rfl 3 int_key rdz (Value.int .i64) val (fun key kl h => by obtain ⟨x, rfl, -⟩ := Maps.keyOf_int_inv Try.underlying3 h; exact ⟨x, rfl⟩) (fun v y h => by obtain ⟨x, rfl, -⟩ := rdz_inv h; exact ⟨x, rfl⟩) b W.heap.size nn _ _ _ rfl hrg ?_ ?_)
      | gi_in)
    · intro hc0 hl0
      gi_wp2
      go_end0
      exact ⟨⟨_, rfl⟩, .inl ⟨ss, hC.perm hr hl0, hJs⟩⟩
    · intro x y k1 yd yp w2 cnt2 hkey hlk hv hat hrg2 hlt hg2 hs2 hen
      simp only [rdz_val, Option.some.injEq, Prod.mk.injEq] at hv
      obtain ⟨rfl, rfl⟩ := hv
      obtain ⟨x', ex, rfl, -⟩ := Maps.keyOf_int_inv Try.underlying3 hkey
      obtain rfl : x = x' := by simpa using ex
      have hJ2 : J ss w2 := hJ ss wr w2 (some W.heap.size) hJs hg2 (fun r e => by cases e; exact ⟨Nat.le_refl _, hrg.iter_walk⟩)
      have hJ3 : J ss (w2.alloc (.cells #[.int .i64 y.key, .int .i64 y.gen, .int .i64 y.amount, .int .i64 y.spent, .int .i64 y.til] 33)) := hJ ss w2 _ none hJ2 (World.grownBy_alloc _ _ _) (fun r e => by cases e)
      have hrg3 := Lib.hid (hrg2.alloc (.cells #[.int .i64 y.key, .int .i64 y.gen, .int .i64 y.amount, .int .i64 y.spent, .int .i64 y.til] 33))
      have hC2 := hC.step hr hlk (came hi hr hat)
      obtain ⟨fn, tmps, assign, body, hy, hR⟩ := hY ss y _ hJ3 (by omega)
      simp only [val] at hen hy hR ⊢
      clear hs2
      gi_wp2
      refine hR.mono ?_
      rintro e W3 (⟨rfl, hJ4, hk4⟩ | ⟨rfl, hJx4⟩)
      · gi_wp2
        have hrg4 := hrg3.out.of_walks hk4
        go_roundw
        case rel => exact ⟨_, cnt2, ss ++ [y], hrg4, by simp; omega, hC2, hJ4⟩
        case measure => rw [hrg4.left_eq, hrg.left_eq]; exact hlt
      · gi_wp2
        refine bodyPost_ret (results_none rfl _ _ _) rfl ?_
        exact ⟨⟨_, rfl⟩, .inr ⟨ss ++ [y], trivial, hJx4⟩⟩
set_option maxRecDepth 100000 in
set_option maxHeartbeats 1000000 in
theorem values_nil (n : Nat) (l Bm : Nat) (J : List Lz → World → Prop) (W : World) (hJ : AbidesFrom W.heap.size J) (hm : W.cell? ⟨Bm, 0, none⟩ = some (.map none)) (h0 : J [] W) :
    CallsIn Fence.wide n Try.prog 34 #[.func (.yield l) #[] #[], .pointer (some ⟨Bm, 0, none⟩)] W fun e W' => (∃ v, e = .returned v) ∧ J [] W' := by
  refine callsIn_of_wp Try.func34 rfl trivial ?_ rfl
  simp only [Try.ntmps34, List.size_toArray, List.length_cons, List.length_nil, Nat.reduceAdd, Nat.reduceSub, Array.replicate_succ, Array.replicate_zero, List.push_toArray, List.append_toArray, List.nil_append, List.cons_append]
  have hrg := run_range_nilMap (P := Try.prog) W 48 _ _ Try.underlying48
  have hnx : ∀ ty, (Instr.next (.pointer (some ⟨W.heap.size, 0, none⟩)) false ty).run Try.prog (W.alloc (.mapIter none 0 #[] 0)) = _ := fun ty => run_next_nilMap _ ty 0 0 #[]
  gi_wp2
  refine wpIn_loop_rounds 1 ?_
  rw [roundsIn_succ]
  gi_wp2
  go_end0
  exact ⟨⟨_, rfl⟩, hJ [] W _ none h0 (World.grownBy_alloc W _ none) (fun r e => by cases e)⟩
theorem values_stops (n : Nat) (hn : 1 ≤ n) {B Bm : Nat} {w : World} {m : Option Nat} {L : List Lz} (h : Mw B w m L) (hr : Rise L) (hm : w.cell? ⟨Bm, 0, none⟩ = some (.map m)) (hlt : Bm < w.heap.size) :
    SeqStopsK Fence.wide n Try.prog 34 #[.pointer (some ⟨Bm, 0, none⟩)] (fun x : Lz => #[val x]) KeepsWalks (fun xs => xs.Perm L) (fun _ => True) L.length w := fun l J Jx W hW hJ _ hY h0 => by
  have hm' := (hW.cell (p := ⟨Bm, 0, none⟩) hlt).trans hm
  rcases h.below hW with ⟨rfl, rfl⟩ | ⟨b, D, rfl, -, ho, hi⟩
  · refine (values_nil n l Bm J W hJ hm' h0).mono ?_
    rintro e W' ⟨hv, hJ'⟩
    exact ⟨hv, .inl ⟨[], .nil, hJ'⟩⟩
  · exact values_in n hn l Bm b _ D L hi hr J Jx hY W hJ hm' ho h0
theorem values_call (n : Nat) (m : Option Nat) (w : World) :
    CallsIn Fence.wide n Try.prog 23 #[.map m] w fun e w' => e = .returned (.func (.func 34) #[] #[.pointer (some ⟨w.heap.size, 0, none⟩)]) ∧ w' = w.alloc (.cells #[.map m] 48) := by
  refine callsIn_of_wp Try.func23 rfl trivial ?_ rfl
  simp only [Try.ntmps23, List.size_toArray, List.length_cons, List.length_nil, Nat.reduceAdd, Nat.reduceSub, Array.replicate_succ, Array.replicate_zero, List.push_toArray, List.append_toArray, List.nil_append, List.cons_append]
  gi_wp2
  go_ret
  exact ⟨rfl, rfl⟩
end Go.Proofs.Ytlipepbemofihaa.Lease
