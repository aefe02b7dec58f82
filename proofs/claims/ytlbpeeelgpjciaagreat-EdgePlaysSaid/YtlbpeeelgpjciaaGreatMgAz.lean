/-
  The program's Put, of any queue of up to 16 items, and of none; any item.
  slices.Sort and slices.Compact of numbers that a call owns: each number once, rising; the program's Keys.
  The program's First and Sum, of any queue of up to 16 items, and of none; Of, Expire of none.
  The program's queue does what is asked of it.
-/
import Derived.Deep.AppendLies
import Derived.Deep.RegionLaw
import Derived.Sort.OwnSortedInts
import Derived.Lib.OwnBridge
import Derived.Test.YtlbpeeelgpjciaaGreatMgAv
import Derived.Test.YtlbpeeelgpjciaaGreatMgAy
import Derived.Test.YtlbpeeelgpjciaaGreatMgAs
namespace Go.Proofs.YtlbpeeelgpjciaaGreat.Queue
open Go.RowKit
open _root_.Go.Proofs.YtlbpeeelgpjciaaGreat.Codec (lt_of_heap frozen_of heap_set below_new own_below)
open _root_.Go.Proofs.YtlbpeeelgpjciaaGreat.Kit (Enc Lies Own At Kept Laid Off cell_on lt_heap take_snoc below_drewN box5 ints own_keep own_lt cells)
open _root_.Go.Proofs.YtlbpeeelgpjciaaGreat.Ledger (spot spot_at spot_none spot_cases)

theorem infoQ : (Tryz.prog.info? 77).map (fun i => (i.zero, i.size, i.bytes)) = some (some (.agg #[.int .i64 0, .int .i64 0, .int .i64 0, .int .i64 0, .int .i64 0]), 5, 40) := by kernel_rfl
theorem Pqy.pushed {F : Nat → Prop} {B q g cap : Nat} {u w5 : World} {room : Int} {l : List It} {y : Value} (h : Pqy F B u q room l y) (hB : B ≤ u.heap.size) (x : It)
    (hg : ((u.alloc (.cells #[.int .i64 x.id, .int .i64 x.key, .int .i64 x.cost, .int .i64 x.cls, .int .i64 x.til] 77)).drew).grownBy w5 y.ownBlock) (ho : w5.ownsRow B 77 5 (.slice (some ⟨g, 0, none⟩) (l.length + 1) cap) (l.length + 1) (cells item l ++ [.int .i64 x.id, .int .i64 x.key, .int .i64 x.cost, .int .i64 x.cls, .int .i64 x.til]))
    (hat : y.ownBlock = some g ∨ g = (u.alloc (.cells #[.int .i64 x.id, .int .i64 x.key, .int .i64 x.cost, .int .i64 x.cls, .int .i64 x.til] 77)).drew.heap.size) :
    w5.frozen? ⟨q, 1, none⟩ = false ∧ w5.cell? ⟨q, 1, none⟩ = some y ∧ Hid (Moved Pq F B u q room (l ++ [x]) (w5.setCell ⟨q, 1, none⟩ (.slice (some ⟨g, 0, none⟩) (l.length + 1) cap))) := by
  have hb := (lay u (.cells #[.int .i64 x.id, .int .i64 x.key, .int .i64 x.cost, .int .i64 x.cls, .int .i64 x.til] 77)).drew
  have R : Own item 77 B w5 (.slice (some ⟨g, 0, none⟩) (l.length + 1) cap) (l ++ [x]) := by
    unfold Own
    rw [Kit.cells_snoc, List.length_append]
    exact ho
  obtain ⟨f, c, D⟩ := (h.below hb).turn (Nat.le_trans hB hb.size) hg R (fun k e => by
    simp only [Value.ownBlock, Option.some.injEq] at e
    subst e
    rcases hat with hat | hat
    · exact .inl hat
    · exact .inr (Nat.le_of_eq hat.symm))
  exact ⟨f, c, Lib.hid (D.out.lift hB hb)⟩
set_option maxRecDepth 100000 in
set_option maxHeartbeats 2000000 in
theorem nput_any (x : It) (w : World) : Calls Tryz.prog 102 #[.pointer none, val x] w fun e w' => e = .returned (.int .i64 1) ∧ Below w.heap.size w w' := by
  simp only [val]
  go_enter Tryz.func102, Tryz.ntmps102
  go_wp2
  go_ret
  exact ⟨rfl, lay _ _⟩
set_option maxRecDepth 100000 in
set_option maxHeartbeats 4000000 in
theorem put_wrong {F : Nat → Prop} {B q : Nat} {w : World} {room : Int} {l : List It} (h : Pq F B w q room l) (hB : B ≤ w.heap.size) (x : It) (hx : wrong x) :
    Calls Tryz.prog 102 #[.pointer (some ⟨q, 0, none⟩), val x] w fun e w' => e = .returned (.int .i64 1) ∧ Moved Pq F B w q room l w' := by
  obtain ⟨y, hy⟩ := h
  have HS := Lib.hid (fun u (hu : Below w.heap.size w u) => hy.same hB hu)
  have HB := Lib.hid (lay w (.cells #[.int .i64 x.id, .int .i64 x.key, .int .i64 x.cost, .int .i64 x.cls, .int .i64 x.til] 77))
  obtain ⟨b0, b1, b2, b3, b4⟩ := box5 (heap_alloc_new w (.cells #[.int .i64 x.id, .int .i64 x.key, .int .i64 x.cost, .int .i64 x.cls, .int .i64 x.til] 77))
  have hr := right_any x (w.alloc (.cells #[.int .i64 x.id, .int .i64 x.key, .int .i64 x.cost, .int .i64 x.cls, .int .i64 x.til] 77))
  rw [show decide (¬ wrong x) = false by simpa using hx] at hr
  clear hy hx
  obtain ⟨xi, xk, xc, xs, xt⟩ := x
  simp only [val] at *
  go_enter Tryz.func102, Tryz.ntmps102
  go_wp2_with (go_at_call 139; (with_reducible refine hr.mono ?_); rintro e u1 ⟨rfl, hb⟩; have HB1 := Lib.hid (HB.out.trans (hb.mono HB.out.size)); clear hb hr)
  go_ret
  exact ⟨rfl, HS.out _ HB1.out⟩
set_option maxRecDepth 100000 in
set_option maxHeartbeats 4000000 in
theorem put_right {F : Nat → Prop} {B q : Nat} {w : World} {room : Int} {l : List It} (h : Pq F B w q room l) (hB : B ≤ w.heap.size) (hl : l.length ≤ 16) (x : It) (hx : ¬ wrong x) :
    Calls Tryz.prog 102 #[.pointer (some ⟨q, 0, none⟩), val x] w fun e w' => e = .returned (.int .i64 (put room l x).2) ∧ Moved Pq F B w q room (put room l x).1 w' := by
  obtain ⟨y, hy⟩ := h
  have hput : put room l x = if 0 ≤ place l x.id then (l, 5) else if room ≤ l.length then (l, 3) else (l ++ [x], 0) := by unfold put; rw [if_neg hx]
  rw [hput]
  have HY := Lib.hid hy
  have hb1 := lay w (.cells #[.int .i64 x.id, .int .i64 x.key, .int .i64 x.cost, .int .i64 x.cls, .int .i64 x.til] 77)
  have HB := Lib.hid hb1
  have K := Lib.hid (heap_alloc_new w (.cells #[.int .i64 x.id, .int .i64 x.key, .int .i64 x.cost, .int .i64 x.cls, .int .i64 x.til] 77))
  obtain ⟨b0, b1, b2, b3, b4⟩ := box5 K.out
  have hr := right_any x (w.alloc (.cells #[.int .i64 x.id, .int .i64 x.key, .int .i64 x.cost, .int .i64 x.cls, .int .i64 x.til] 77))
  rw [show decide (¬ wrong x) = true by simpa using hx] at hr
  have hn := Lib.hid (fun u => named_any x.id u)
  have HC := Lib.hid (fun (u : World) (c : Nat) (p : Option Addr) (d : Nat) (hp : Lies item u p l) (hc : u.cell? ⟨c, 0, none⟩ = some (.int .i64 x.id)) => contains_any ent_named (gives_named c x.id) (d := d) hp (by omega) hc)
  rw [show spot (isId x.id) l = place l x.id from rfl] at HC
  have HS := Lib.hid (fun u (hu : Below w.heap.size w u) => hy.same hB hu)
  clear hy hx hput hb1
  generalize hP : place l x.id = P at *
  clear hP
  obtain ⟨xi, xk, xc, xs, xt⟩ := x
  simp only [val] at *
  by_cases hp : 0 ≤ P
  · rw [if_pos hp]
    go_enter Tryz.func102, Tryz.ntmps102
    go_wp2_with (go_at_call 139; (with_reducible refine hr.mono ?_); rintro e u0 ⟨rfl, hb⟩; have HB1 := Lib.hid (HB.out.trans (hb.mono HB.out.size)); have K1 := Lib.hid ((hb.block _ (lt_heap K.out)).trans K.out); clear b0 b1 b2 b3 b4 hb hr)
    have HD1 := Lib.hid (HB1.out.drew)
    obtain ⟨p, d, -, c1, hl1, -, -⟩ := (HY.out.below HD1.out).cell
    have HL1 := Lib.hid hl1
    have KD := Lib.hid (show u0.drew.heap[w.heap.size]? = _ from K1.out)
    obtain ⟨b0, -⟩ := box5 KD.out
    clear hl1
    go_region_held3 (fun u => u.cell? ⟨q, 1, none⟩ = some (.slice p l.length d) ∧ u.cell? ⟨w.heap.size, 0, none⟩ = some (.int .i64 xi)) (first | assumption | exact ⟨c1, b0⟩) (first
      | (go_at_call 118; (with_reducible refine (hn.out _).mono ?_); rintro e u2 ⟨rfl, hc, hb⟩; have HB2 := Lib.hid (HD1.out.trans (hb.mono HD1.out.size)); have HL2 := Lib.hid (HL1.out.below hb); have HC2 := Lib.hid (show u2.cell? ⟨u0.heap.size, 0, none⟩ = some (.int .i64 xi) from hc); have K2 := Lib.hid ((hb.block _ (lt_heap KD.out)).trans KD.out); have s2 := And.intro (cell_on c1 hb) (cell_on b0 hb); clear hb hc)
      | (go_at_call 136; (with_reducible refine (HC.out _ _ _ _ HL2.out HC2.out).mono ?_); rintro e u3 ⟨rfl, hb⟩; have HB3 := Lib.hid (HB2.out.trans (hb.mono HB2.out.size)); have K3 := Lib.hid ((hb.block _ (lt_heap K2.out)).trans K2.out); have s3 := And.intro (cell_on s2.1 hb) (cell_on s2.2 hb); clear hb HC))
    go_wp2
    go_ret
    exact ⟨rfl, HS.out _ HB3.out⟩
  · rw [if_neg hp]
    have hp' : P < 0 := by omega
    by_cases hroom : room ≤ l.length
    · rw [if_pos hroom]
      go_enter Tryz.func102, Tryz.ntmps102
      go_wp2_with (go_at_call 139; (with_reducible refine hr.mono ?_); rintro e u0 ⟨rfl, hb⟩; have HB1 := Lib.hid (HB.out.trans (hb.mono HB.out.size)); have K1 := Lib.hid ((hb.block _ (lt_heap K.out)).trans K.out); clear b0 b1 b2 b3 b4 hb hr)
      have HD1 := Lib.hid (HB1.out.drew)
      obtain ⟨p, d, -, c1, hl1, -, -⟩ := (HY.out.below HD1.out).cell
      have HL1 := Lib.hid hl1
      have KD := Lib.hid (show u0.drew.heap[w.heap.size]? = _ from K1.out)
      obtain ⟨b0, -⟩ := box5 KD.out
      clear hl1
      go_region_held3 (fun u => u.cell? ⟨q, 1, none⟩ = some (.slice p l.length d) ∧ u.cell? ⟨w.heap.size, 0, none⟩ = some (.int .i64 xi)) (first | assumption | exact ⟨c1, b0⟩) (first
        | (go_at_call 118; (with_reducible refine (hn.out _).mono ?_); rintro e u2 ⟨rfl, hc, hb⟩; have HB2 := Lib.hid (HD1.out.trans (hb.mono HD1.out.size)); have HL2 := Lib.hid (HL1.out.below hb); have HC2 := Lib.hid (show u2.cell? ⟨u0.heap.size, 0, none⟩ = some (.int .i64 xi) from hc); have K2 := Lib.hid ((hb.block _ (lt_heap KD.out)).trans KD.out); have s2 := And.intro (cell_on c1 hb) (cell_on b0 hb); clear hb hc)
        | (go_at_call 136; (with_reducible refine (HC.out _ _ _ _ HL2.out HC2.out).mono ?_); rintro e u3 ⟨rfl, hb⟩; have HB3 := Lib.hid (HB2.out.trans (hb.mono HB2.out.size)); have K3 := Lib.hid ((hb.block _ (lt_heap K2.out)).trans K2.out); have s3 := And.intro (cell_on s2.1 hb) (cell_on s2.2 hb); clear hb HC))
      obtain ⟨p4, d4, -, c4, -, -, c0⟩ := (HY.out.below HB3.out).cell
      go_wp2
      go_quiet (fail)
      go_wp2
      go_ret
      exact ⟨rfl, HS.out _ (HB3.out.trans ((below_drewN _ _).mono HB3.out.size))⟩
    · rw [if_neg hroom]
      go_enter Tryz.func102, Tryz.ntmps102
      go_wp2_with (go_at_call 139; (with_reducible refine hr.mono ?_); rintro e u0 ⟨rfl, hb⟩; have HB1 := Lib.hid (HB.out.trans (hb.mono HB.out.size)); have K1 := Lib.hid ((hb.block _ (lt_heap K.out)).trans K.out); clear b0 b1 b2 b3 b4 hb hr)
      have HD1 := Lib.hid (HB1.out.drew)
      obtain ⟨p, d, -, c1, hl1, -, -⟩ := (HY.out.below HD1.out).cell
      have HL1 := Lib.hid hl1
      have KD := Lib.hid (show u0.drew.heap[w.heap.size]? = _ from K1.out)
      obtain ⟨b0, -⟩ := box5 KD.out
      clear hl1
      go_region_held3 (fun u => u.cell? ⟨q, 1, none⟩ = some (.slice p l.length d) ∧ u.cell? ⟨w.heap.size, 0, none⟩ = some (.int .i64 xi)) (first | assumption | exact ⟨c1, b0⟩) (first
        | (go_at_call 118; (with_reducible refine (hn.out _).mono ?_); rintro e u2 ⟨rfl, hc, hb⟩; have HB2 := Lib.hid (HD1.out.trans (hb.mono HD1.out.size)); have HL2 := Lib.hid (HL1.out.below hb); have HC2 := Lib.hid (show u2.cell? ⟨u0.heap.size, 0, none⟩ = some (.int .i64 xi) from hc); have K2 := Lib.hid ((hb.block _ (lt_heap KD.out)).trans KD.out); have s2 := And.intro (cell_on c1 hb) (cell_on b0 hb); clear hb hc)
        | (go_at_call 136; (with_reducible refine (HC.out _ _ _ _ HL2.out HC2.out).mono ?_); rintro e u3 ⟨rfl, hb⟩; have HB3 := Lib.hid (HB2.out.trans (hb.mono HB2.out.size)); have K3 := Lib.hid ((hb.block _ (lt_heap K2.out)).trans K2.out); have s3 := And.intro (cell_on s2.1 hb) (cell_on s2.2 hb); clear hb HC))
      obtain ⟨p4, d4, -, c4, -, -, c0⟩ := (HY.out.below HB3.out).cell
      go_wp2
      go_quiet (fail)
      have HB4 := Lib.hid (HB3.out.trans ((below_drewN u3 nq).mono HB3.out.size))
      have K4 := Lib.hid (((below_drewN u3 nq).block _ (lt_heap K3.out)).trans K3.out)
      clear b0 c1 c0 c4 s2 s3
      generalize u3.drewN nq = u4 at *
      obtain ⟨p5, d5, rfl, c1, -, -, -⟩ := (HY.out.below HB4.out).cell
      obtain ⟨b0, b1, b2, b3, b4⟩ := box5 K4.out
      have hq4 := (HY.out.below HB4.out).lt
      have HP4 := Lib.hid (HY.out.below HB4.out)
      obtain ⟨i0, hi, hz0, hz1, hz2⟩ := info_parts infoQ
      have HDW := Lib.hid ((lay u4 (.cells #[.int .i64 xi, .int .i64 xk, .int .i64 xc, .int .i64 xs, .int .i64 xt] 77)).drew)
      have HOD := Lib.hid (own_below HP4.out.own HDW.out)
      have HBU := Lib.hid (Nat.le_trans hB HB4.out.size)
      go_wp2
      go_region_law (refine step_append_lies _ rfl (.tmp 37) (.tmp 39) 49 rfl B 77 i0 (.agg #[.int .i64 0, .int .i64 0, .int .i64 0, .int .i64 0, .int .i64 0]) 5 40 Tryz.underlying49 hi hz0 hz1 hz2 rfl (by decide) (.slice p5 l.length d5) l.length (cells item l) rfl HOD.out ⟨u4.heap.size, 0, none⟩ 1 1 [.int .i64 xi, .int .i64 xk, .int .i64 xc, .int .i64 xs, .int .i64 xt] rfl rfl (World.news_of_block (heap_alloc_new _ _)) (by intro u hu; simp at hu; rcases hu with rfl | rfl | rfl | rfl | rfl <;> rfl) (by decide) (by unfold maxLen; omega) (by omega) (Nat.le_trans HBU.out HDW.out.size) _ rfl ?_; intro g cap w5 ho hg hat hlt; obtain ⟨f0, c3, D⟩ := HP4.out.pushed HBU.out ⟨xi, xk, xc, xs, xt⟩ hg ho hat)
      all_goals
        go_wp2
        go_ret
        exact ⟨rfl, D.out.lift hB HB4.out⟩
theorem pput_any {F : Nat → Prop} {B q : Nat} {w : World} {room : Int} {l : List It} (h : Pq F B w q room l) (hB : B ≤ w.heap.size) (hl : l.length ≤ 16) (x : It) :
    Calls Tryz.prog 102 #[.pointer (some ⟨q, 0, none⟩), val x] w fun e w' => e = .returned (.int .i64 (put room l x).2) ∧ Moved Pq F B w q room (put room l x).1 w' := by
  by_cases hx : wrong x
  · rw [show put room l x = (l, 1) by unfold put; rw [if_pos hx]]
    exact put_wrong h hB x hx
  · exact put_right h hB hl x hx
end Go.Proofs.YtlbpeeelgpjciaaGreat.Queue

namespace Go.Proofs.YtlbpeeelgpjciaaGreat.Queue
open Go.RowKit Go.Shelf Go.Sort
open _root_.Go.Proofs.YtlbpeeelgpjciaaGreat.Codec (lt_of_heap frozen_of heap_set below_new own_below)
open _root_.Go.Proofs.YtlbpeeelgpjciaaGreat.Kit (Enc Lies Own At Kept Laid Off cell_on lt_heap take_snoc below_drewN box5 ints own_keep own_lt cells)

/-! The plain side. -/
/-- Two lists that rise, of the same numbers, are one. -/
theorem rise_eq : ∀ {a b : List Int}, a.Pairwise (· < ·) → b.Pairwise (· < ·) → (∀ x, x ∈ a ↔ x ∈ b) → a = b
  | [], [], _, _, _ => rfl
  | [], y :: b, _, _, h => by have := (h y).2 (by simp); simp at this
  | x :: a, [], _, _, h => by have := (h x).1 (by simp); simp at this
  | x :: a, y :: b, ha, hb, h => by
    obtain ⟨a1, a2⟩ := List.pairwise_cons.1 ha
    obtain ⟨b1, b2⟩ := List.pairwise_cons.1 hb
    have e : x = y := by
      have h1 := (h x).1 (by simp)
      have h2 := (h y).2 (by simp)
      rcases List.mem_cons.1 h1 with h1 | h1
      · exact h1
      · rcases List.mem_cons.1 h2 with h2 | h2
        · exact h2.symm
        · have := b1 x h1
          have := a1 y h2
          omega
    subst e
    refine congrArg (x :: ·) (rise_eq a2 b2 fun w => ⟨fun hw => ?_, fun hw => ?_⟩)
    · rcases List.mem_cons.1 ((h w).1 (by simp [hw])) with e | e
      · have := a1 w hw; omega
      · exact e
    · rcases List.mem_cons.1 ((h w).2 (by simp [hw])) with e | e
      · have := b1 w hw; omega
      · exact e
theorem compact_spec {zs : List Int} (h : zs.Pairwise (· ≤ ·)) : ∀ m, m ≤ zs.length → (Lib.compactUpTo zs.toArray m).Pairwise (· < ·) ∧ ∀ x, x ∈ Lib.compactUpTo zs.toArray m ↔ x ∈ zs.take m
  | 0, _ => by simp [Lib.compactUpTo]
  | m + 1, hm => by
    obtain ⟨i1, i2⟩ := compact_spec h m (by omega)
    have hd : ∀ j, j < zs.length → zs.toArray[j]! = zs.getD j 0 := fun j hj => by simp [List.getD, hj]
    have ht : zs.take (m + 1) = zs.take m ++ [zs.getD m 0] := take_snoc 0 (by omega)
    rw [Lib.compactUpTo_succ, ht]
    have hle : ∀ x ∈ zs.take m, x ≤ zs.getD m 0 := fun x hx => by
      obtain ⟨j, hj, rfl⟩ := List.getElem_of_mem hx
      rw [List.length_take] at hj
      rw [List.getElem_take, show zs.getD m 0 = zs[m]'(by omega) by simp [List.getD, show m < zs.length by omega]]
      exact (List.pairwise_iff_getElem.1 h) j m (by omega) (by omega) (by omega)
    by_cases hk : Lib.keeps zs.toArray m = true
    · rw [if_pos hk, hd m (by omega)]
      have hlt : ∀ x ∈ zs.take m, x < zs.getD m 0 := fun x hx => by
        by_cases h0 : m = 0
        · subst h0; simp at hx
        · simp only [Lib.keeps, decide_eq_true_eq] at hk
          have hne := hk.resolve_left h0
          rw [hd m (by omega), hd (m - 1) (by omega)] at hne
          obtain ⟨j, hj, rfl⟩ := List.getElem_of_mem hx
          rw [List.length_take] at hj
          rw [List.getElem_take]
          have e1 : zs.getD (m - 1) 0 = zs[m - 1]'(by omega) := by simp [List.getD, show m - 1 < zs.length by omega]
          have e2 : zs.getD m 0 = zs[m]'(by omega) := by simp [List.getD, show m < zs.length by omega]
          rw [e1, e2] at hne
          rw [e2]
          have h1 := (List.pairwise_iff_getElem.1 h) (m - 1) m (by omega) (by omega) (by omega)
          by_cases e : j = m - 1
          · subst e; omega
          · have h2 := (List.pairwise_iff_getElem.1 h) j (m - 1) (by omega) (by omega) (by omega)
            omega
      refine ⟨?_, fun x => by simp [i2]⟩
      rw [List.pairwise_append]
      exact ⟨i1, by simp, fun a ha b hb => by rw [List.mem_singleton.1 hb]; exact hlt a ((i2 a).1 ha)⟩
    · rw [if_neg hk, List.append_nil]
      refine ⟨i1, fun x => ?_⟩
      rw [i2, List.mem_append, List.mem_singleton]
      refine ⟨.inl, fun hx => hx.elim id fun e => ?_⟩
      simp only [Lib.keeps, decide_eq_true_eq, not_or, ne_eq, Decidable.not_not] at hk
      rw [hd m (by omega), hd (m - 1) (by omega)] at hk
      rw [e, hk.2, List.mem_take_iff_getElem]
      exact ⟨m - 1, by omega, by simp [List.getD, show m - 1 < zs.length by omega]⟩
theorem kfold_spec (k : Int) : ∀ (n : Nat) (l : List Int), l.length = n → l.Pairwise (· < ·) → kfold k l = if ∃ a ∈ l, k ≤ a then (l.filter (fun x => decide (x < k)) ++ [k] ++ l.filter (fun x => decide (k < x)), true) else (l, false)
  | 0, l, hn, _ => by
    obtain rfl := List.eq_nil_of_length_eq_zero hn
    simp [kfold]
  | n + 1, l, hn, h => by
    obtain ⟨m, a, rfl⟩ : ∃ m a, l = m ++ [a] := ⟨l.dropLast, l.getLast (by intro e; subst e; simp at hn), (List.dropLast_concat_getLast _).symm⟩
    rw [List.pairwise_append] at h
    obtain ⟨h1, -, h3⟩ := h
    have h3 : ∀ x ∈ m, x < a := fun x hx => h3 x hx a (by simp)
    rw [kfold_snoc, kfold_spec k n m (by simpa using hn) h1]
    by_cases hex : ∃ a ∈ m, k ≤ a
    · obtain ⟨b, hb, hkb⟩ := hex
      have := h3 b hb
      rw [if_pos ⟨b, hb, hkb⟩, if_pos ⟨a, by simp, by omega⟩]
      unfold kstep
      simp only [Bool.true_eq_false, false_and, if_false]
      rw [if_neg (by omega)]
      simp [show ¬ a < k by omega, show k < a by omega]
    · rw [if_neg hex]
      have hall : ∀ x ∈ m, x < k := fun x hx => by
        by_cases hc : k ≤ x
        · exact absurd ⟨x, hx, hc⟩ hex
        · omega
      have f1 : m.filter (fun x => decide (x < k)) = m := List.filter_eq_self.2 fun x hx => by simpa using hall x hx
      have f2 : m.filter (fun x => decide (k < x)) = [] := List.filter_eq_nil_iff.2 fun x hx => by have := hall x hx; simp; omega
      by_cases hka : k ≤ a
      · rw [if_pos (show ∃ x ∈ m ++ [a], k ≤ x from ⟨a, by simp, hka⟩)]
        by_cases e : a = k
        · subst e
          have e1 : kstep a (m, false) a = (m ++ [a], true) := by unfold kstep; simp
          rw [e1]
          simp [f1, f2]
        · have e1 : kstep k (m, false) a = (m ++ [k] ++ [a], true) := by unfold kstep; simp [hka, e]
          rw [e1]
          simp [f1, f2, show ¬ a < k by omega, show k < a by omega]
      · have e1 : kstep k (m, false) a = (m ++ [a], false) := by unfold kstep; simp [hka, show ¬ a = k by omega]
        rw [e1, if_neg]
        rintro ⟨x, hx, hc⟩
        rcases List.mem_append.1 hx with hx | hx
        · exact hex ⟨x, hx, hc⟩
        · rw [List.mem_singleton.1 hx] at hc
          exact hka hc
theorem kput_spec (k : Int) {l : List Int} (h : l.Pairwise (· < ·)) : kput k l = l.filter (fun x => decide (x < k)) ++ [k] ++ l.filter (fun x => decide (k < x)) := by
  unfold kput
  rw [kfold_spec k _ l rfl h]
  by_cases hex : ∃ a ∈ l, k ≤ a
  · rw [if_pos hex]; rfl
  · rw [if_neg hex]
    have hall : ∀ x ∈ l, x < k := fun x hx => by
      by_cases hc : k ≤ x
      · exact absurd ⟨x, hx, hc⟩ hex
      · omega
    have f1 : l.filter (fun x => decide (x < k)) = l := List.filter_eq_self.2 fun x hx => by simpa using hall x hx
    have f2 : l.filter (fun x => decide (k < x)) = [] := List.filter_eq_nil_iff.2 fun x hx => by have := hall x hx; simp; omega
    rw [f1, f2, List.append_nil]
    rfl
theorem keys_spec : ∀ (n : Nat) (l : List It), l.length = n → (keys l).Pairwise (· < ·) ∧ ∀ k, k ∈ keys l ↔ k ∈ l.map It.key
  | 0, l, hn => by
    obtain rfl := List.eq_nil_of_length_eq_zero hn
    simp [keys]
  | n + 1, l, hn => by
    obtain ⟨m, a, rfl⟩ : ∃ m a, l = m ++ [a] := ⟨l.dropLast, l.getLast (by intro e; subst e; simp at hn), (List.dropLast_concat_getLast _).symm⟩
    obtain ⟨i1, i2⟩ := keys_spec n m (by simpa using hn)
    rw [keys_snoc, kput_spec _ i1]
    refine ⟨?_, fun k => ?_⟩
    · rw [List.append_assoc, List.pairwise_append]
      refine ⟨i1.filter _, ?_, fun x hx y hy => ?_⟩
      · rw [List.singleton_append, List.pairwise_cons]
        exact ⟨fun y hy => by simpa using (List.mem_filter.1 hy).2, i1.filter _⟩
      · have h1 : x < a.key := by simpa using (List.mem_filter.1 hx).2
        rcases List.mem_append.1 hy with hy | hy
        · rw [List.mem_singleton.1 hy]; exact h1
        · have h2 : a.key < y := by simpa using (List.mem_filter.1 hy).2
          omega
    · simp only [List.mem_append, List.mem_filter, List.mem_singleton, List.map_append, List.map_cons, List.map_nil, i2, decide_eq_true_eq]
      constructor
      · rintro ((h | h) | h)
        · exact .inl h.1
        · exact .inr h
        · exact .inl h.1
      · rintro (h | h)
        · rcases Int.lt_trichotomy k a.key with e | e | e
          · exact .inl (.inl ⟨h, e⟩)
          · exact .inl (.inr e)
          · exact .inr ⟨h, e⟩
        · exact .inl (.inr h)
/-- What Sort and Compact leave of all keys. -/
theorem keys_sorted (l : List It) : Lib.compact ((l.map It.key).mergeSort fun x y => decide (x ≤ y)) = keys l := by
  have hp := List.mergeSort_perm (l.map It.key) (fun x y => decide (x ≤ y))
  have hs : ((l.map It.key).mergeSort fun x y => decide (x ≤ y)).Pairwise (· ≤ ·) := by
    have := List.pairwise_mergeSort (le := fun x y : Int => decide (x ≤ y)) (fun a b c h1 h2 => by simp at *; omega) (fun a b => by simp; omega) (l.map It.key)
    exact this.imp fun h => by simpa using h
  generalize ((l.map It.key).mergeSort fun x y => decide (x ≤ y)) = zs at *
  obtain ⟨c1, c2⟩ := compact_spec hs zs.length (Nat.le_refl _)
  obtain ⟨k1, k2⟩ := keys_spec _ l rfl
  exact rise_eq c1 k1 fun x => by
    rw [k2, ← hp.mem_iff]
    have := c2 x
    rw [List.take_length] at this
    exact this
theorem compact_len (zs : List Int) : (Lib.compact zs).length ≤ zs.length := by
  unfold Lib.compact Lib.compactUpTo
  rw [List.length_map]
  exact Nat.le_trans (List.length_filter_le _ _) (by simp)
/-! The walk. -/
theorem cells_ints (zs : List Int) : cells ints zs = zs.map (Value.int .i64) := by
  induction zs with
  | nil => rfl
  | cons x zs ih => rw [Kit.cells_cons, ih]; rfl
theorem own_ints {B : Nat} {u : World} {v : Value} {zs : List Int} : Own ints 3 B u v zs ↔ u.ownsRow B 3 1 v zs.length (zs.map (Value.int .i64)) := by
  unfold Own
  rw [cells_ints]
  exact Iff.rfl
theorem sort_ints {B : Nat} {u : World} {v : Value} {zs : List Int} (ho : Own ints 3 B u v zs) (hB : B ≤ u.heap.size) (hl : zs.length ≤ 1000) :
    Calls Tryz.prog 52 #[v] u fun e u' => e = .returned (.tuple #[]) ∧ Own ints 3 B u' v (zs.mergeSort fun x y => decide (x ≤ y)) ∧ Below B u u' := by
  have hl2 : (zs.mergeSort fun x y => decide (x ≤ y)).length = zs.length := List.length_mergeSort _
  have hown' := own_ints.1 ho
  rcases hown'.2 with ⟨rfl, h0⟩ | ⟨g, cap, cur, rfl, hbase, hblk, h1, h2, h3, h4⟩
  · have hz := List.eq_nil_of_length_eq_zero h0
    subst hz
    refine (Tryz.slices_Sort_int_none none 0 u).mono ?_
    rintro e u' ⟨rfl, rfl⟩
    exact ⟨rfl, by simpa using ho, Below.refl _ _⟩
  · obtain ⟨g', cap', e, _, hlt, _, _, _, hH⟩ := Lib.holds_of_ownsRow (enc := Value.int .i64) hown' (by simp)
    cases e
    refine (Tryz.slices_Sort_int g 0 cap zs u hH hlt (by omega)).mono ?_
    rintro e u' ⟨rfl, n, os, rfl⟩
    refine ⟨rfl, own_ints.2 ?_, (Below.refl B u).grown (grownBy_sortedI _) hB (fun j hj => by cases hj; exact hbase)⟩
    have := ownsRow_sortedI (n := n) (os := os) hl2 hbase hblk h1 h2 h3
    rw [hl2]
    exact this
theorem compact_ints {B : Nat} {u : World} {v : Value} {zs : List Int} (ho : Own ints 3 B u v zs) (hB : B ≤ u.heap.size) (hl : zs.length ≤ 1000) :
    Calls Tryz.prog 53 #[v] u fun e u' => ∃ p c, e = .returned (.slice p (Lib.compact zs).length c) ∧ (Lies ints u' p (Lib.compact zs) ∧ (p = none → c = 0)) ∧ Below B u u' := by
  have hown' := own_ints.1 ho
  have hlen := compact_len zs
  rcases hown'.2 with ⟨rfl, h0⟩ | ⟨g, cap, cur, rfl, hbase, hblk, h1, h2, h3, h4⟩
  · have hz := List.eq_nil_of_length_eq_zero h0
    subst hz
    refine (Tryz.slices_Compact_int_empty none 0 u).mono ?_
    rintro e u' ⟨rfl, rfl⟩
    exact ⟨none, 0, rfl, ⟨.inl rfl, fun _ => rfl⟩, Below.refl _ _⟩
  · obtain ⟨g', cap', e, _, hlt, _, _, _, hH⟩ := Lib.holds_of_ownsRow (enc := Value.int .i64) hown' (by simp)
    cases e
    refine (Tryz.slices_Compact_int g 0 cap zs u hH (by omega) h1).mono ?_
    rintro e u' ⟨rfl, n, rfl⟩
    have hsz : (Lib.compact zs ++ List.replicate (zs.length - (Lib.compact zs).length) 0).toArray.size = zs.toArray.size := by simp; omega
    have hH2 := holds_putRow (Value.int .i64) (Sort.ahead u n) g 0 zs.toArray _ (holds_ahead (Value.int .i64) u n g 0 zs.toArray hH) hsz
    refine ⟨_, _, rfl, ⟨.inr ⟨g, 0, rfl, fun j hj k w hw => ?_⟩, fun e => nomatch e⟩, (Below.refl B u).grown (row := some g) ?_ hB (fun j hj => by cases hj; exact hbase)⟩
    · match k, hw with
      | 0, hw =>
        simp only [ints, List.getElem?_cons_zero, Option.some.injEq] at hw
        subst hw
        have := (hH2 j (by rw [hsz]; simp; omega)).1
        rw [show 0 + j * ints.n + 0 = 0 + j by rw [show ints.n = 1 from rfl]; omega, this]
        congr 2
        have hj2 : j < (Lib.compact zs ++ List.replicate (zs.length - (Lib.compact zs).length) 0).length := by simp; omega
        rw [getElem!_pos _ j (by simpa using hj2)]
        simp [List.getD, hj, List.getElem_append_left hj]
    · have := grownBy_sortedI (w := u) (g := g) (n := n) (os := #[]) (Lib.compact zs ++ List.replicate (zs.length - (Lib.compact zs).length) 0).toArray
      rwa [grow_empty] at this
set_option maxRecDepth 100000 in
set_option maxHeartbeats 4000000 in
theorem pkeys_any {F : Nat → Prop} {B q : Nat} {w : World} {room : Int} {l : List It} (h : Pq F B w q room l) (hl : l.length ≤ 16) :
    Calls Tryz.prog 50 #[.pointer (some ⟨q, 0, none⟩)] w fun e w' => ∃ p c, e = .returned (.slice p (keys l).length c) ∧ (Lies ints w' p (keys l) ∧ (p = none → c = 0)) ∧ Below w.heap.size w w' := by
  have ha := pall_any h hl
  have hk := keys_sorted l
  have hml : (l.map It.key).length = l.length := List.length_map _
  have HM := Lib.hid (show l.map It.key = (l.take l.length).map It.key by rw [List.take_length])
  generalize l.map It.key = ks at hk hml HM
  have HSO := Lib.hid (fun (u : World) (v : Value) (ho : Own ints 3 w.heap.size u v ks) (hu : w.heap.size ≤ u.heap.size) => sort_ints ho hu (by omega))
  have hsl : (ks.mergeSort fun x y => decide (x ≤ y)).length = l.length := by rw [List.length_mergeSort]; exact hml
  generalize (ks.mergeSort fun x y => decide (x ≤ y)) = zs at *
  have HCO := Lib.hid (fun (u : World) (v : Value) (ho : Own ints 3 w.heap.size u v zs) (hu : w.heap.size ≤ u.heap.size) => compact_ints ho hu (by omega))
  rw [hk] at HCO
  generalize keys l = R at *
  clear h hk hml hsl
  go_enter Tryz.func50, Tryz.ntmps50
  go_wp2_with (first
    | (go_at_call 38; (with_reducible refine ha.mono ?_); rintro e u1 ⟨y1, rfl, ho, hb⟩; obtain ⟨p1, d1, rfl, hl1, -⟩ := own_slice ho; have HL1 := Lib.hid hl1; have HB1 := Lib.hid hb; clear ho hb hl1 ha))
  go_loopw [3, 9] (fun y k wr => ∃ (j : Nat) (p : Option Addr) (c : Nat), j ≤ l.length ∧ k = .int .i64 (j : Int) ∧ y = .slice p j c ∧ Hid (Own ints 3 u1.heap.size wr y ((l.take j).map It.key)) ∧ Hid (Below u1.heap.size u1 wr)) (fun _ k _ => l.length - (intOf k).toNat)
  case atStart => exact ⟨0, none, 0, by omega, rfl, rfl, Lib.hid (Own.none _ _ _ _), Lib.hid (Below.refl _ _)⟩
  case round =>
    obtain ⟨j, p, c, hj, rfl, rfl, HO, HB⟩ := hrel
    by_cases hlt : j < l.length
    · have hlt' : (j : Int) < (l.length : Int) := by omega
      obtain ⟨b, o, rfl, ha⟩ := lies_at (HL1.out.below HB.out) hlt
      obtain ⟨k0, k1, k2, k3, k4⟩ := at5 ha
      have HE := Lib.hid (show (l.take (j + 1)).map It.key = (l.take j).map It.key ++ [(l.getD j z).key] by rw [take_snoc z hlt]; simp)
      have HN := Lib.hid (show ((l.take j).map It.key).length = j by simp; omega)
      generalize (l.take j).map It.key = L at *
      generalize l.getD j z = x at *
      have HX := Lib.hid (fun (o' : Obj) => (lay wr (.cells #[.int .i64 x.id, .int .i64 x.key, .int .i64 x.cost, .int .i64 x.cls, .int .i64 x.til] 77)).alloc (lay wr (.cells #[.int .i64 x.id, .int .i64 x.key, .int .i64 x.cost, .int .i64 x.cls, .int .i64 x.til] 77)).size o')
      have HG := Lib.hid (fun (o o' : Obj) => show ((wr.alloc o).alloc o').heap[wr.heap.size + 1]? = some o' from by have := heap_alloc_new (wr.alloc o) o'; simpa using this)
      obtain ⟨xi, xk, xc, xs, xt⟩ := x
      simp only at k0 k1 k2 k3 k4 HE HX
      clear ha HL1 HM
      go_wp2_with (at_builtin; refine Kit.push laidI rfl _ _ rfl u1 wr (.slice p j c) rfl L j HN.out HO.out HB.out (HX.out _) (wr.heap.size + 1) xk rfl (HG.out _ _) (by omega) ?_; intro p4 c4 w4 R4 B4)
      go_roundw
      case rel => exact ⟨j + 1, p4, c4, by omega, by go_num, rfl, by rw [HE.out]; exact R4, Lib.hid B4⟩
      case measure => simp only [intOf]; omega
    · have hlt' : ¬ (j : Int) < (l.length : Int) := by omega
      obtain rfl : j = l.length := by omega
      rw [← HM.out] at HO
      have HBW := Lib.hid (HB1.out.trans (HB.out.mono HB1.out.size))
      have HOW := Lib.hid (Own.lower HO.out HB1.out.size)
      clear HL1 HM
      go_wp2_with (first
        | (go_at_call 52; (with_reducible refine (HSO.out _ _ HOW.out HBW.out.size).mono ?_); rintro e u3 ⟨rfl, ho, hb⟩; have HB3 := Lib.hid (HBW.out.trans hb); have HO3 := Lib.hid ho; clear hb ho HSO)
        | (go_at_call 53; (with_reducible refine (HCO.out _ _ HO3.out HB3.out.size).mono ?_); rintro e u4 ⟨p4, d4, rfl, hl4, hb⟩; have HB4 := Lib.hid (HB3.out.trans hb); have HL4 := Lib.hid hl4; clear hb hl4 HCO))
      go_ret
      exact ⟨_, _, rfl, HL4.out, HB4.out⟩
set_option maxRecDepth 100000 in
set_option maxHeartbeats 4000000 in
theorem nkeys_any (w : World) : Calls Tryz.prog 50 #[.pointer none] w fun e w' => ∃ p c, e = .returned (.slice p 0 c) ∧ Below w.heap.size w w' := by
  have ha := nall_any w
  have hs := fun u => Tryz.slices_Sort_int_none none 0 u
  have hc := fun u => Tryz.slices_Compact_int_empty none 0 u
  go_enter Tryz.func50, Tryz.ntmps50
  go_wp2_with (go_at_call 38; (with_reducible refine ha.mono ?_); rintro e u1 ⟨rfl, hb⟩; have HB1 := Lib.hid hb; clear hb ha)
  refine wp_loop_rounds 1 ?_
  rw [rounds_succ]
  go_wp2_with (first
    | (go_at_call 52; (with_reducible refine (hs _).mono ?_); rintro e u3 ⟨rfl, rfl⟩)
    | (go_at_call 53; (with_reducible refine (hc _).mono ?_); rintro e u4 ⟨rfl, rfl⟩))
  go_ret
  exact ⟨_, _, rfl, HB1.out⟩
end Go.Proofs.YtlbpeeelgpjciaaGreat.Queue

namespace Go.Proofs.YtlbpeeelgpjciaaGreat.Queue
open Go.RowKit
open _root_.Go.Proofs.YtlbpeeelgpjciaaGreat.Codec (lt_of_heap frozen_of heap_set below_new own_below)
open _root_.Go.Proofs.YtlbpeeelgpjciaaGreat.Kit (Enc Lies Own At Kept Laid Off cell_on lt_heap take_snoc below_drewN box5 ints own_keep own_lt cells)

set_option maxRecDepth 100000 in
set_option maxHeartbeats 2000000 in
/-- First, of whatever Of tells. -/
theorem first_core (v : Value) (key : Int) (w : World) (R : List It)
    (ho : ∀ u, Below w.heap.size w u → Calls Tryz.prog 57 #[v, .int .i64 key] u fun e w' => ∃ p c, e = .returned (.slice p R.length c) ∧ Lies item w' p R ∧ Below u.heap.size u w') :
    Calls Tryz.prog 99 #[v, .int .i64 key] w fun e w' => e = .returned (.tuple #[val (head R).1, .bool (head R).2]) ∧ Below w.heap.size w w' := by
  have HZ := Lib.hid (lay w (.cells #[.int .i64 0, .int .i64 0, .int .i64 0, .int .i64 0, .int .i64 0] 77))
  have KZ := Lib.hid (heap_alloc_new w (.cells #[.int .i64 0, .int .i64 0, .int .i64 0, .int .i64 0, .int .i64 0] 77))
  have ho2 := ho _ HZ.out
  have HH := Lib.hid (fun (u : World) (p : Option Addr) (d : Nat) (hp : Lies item u p R) => head_any (d := d) hp)
  generalize head R = hd at *
  obtain ⟨⟨xi, xk, xc, xs, xt⟩, ok⟩ := hd
  simp only [val] at *
  clear ho
  go_enter Tryz.func99, Tryz.ntmps99
  go_wp2_with (first
    | (go_at_call 57; (with_reducible refine ho2.mono ?_); rintro e u2 ⟨p2, d2, rfl, hl2, hb⟩; have HB2 := Lib.hid (HZ.out.trans (hb.mono HZ.out.size)); have HL2 := Lib.hid hl2; have HK2 := Lib.hid ((hb.block _ (lt_heap KZ.out)).trans KZ.out); clear hl2 hb ho2)
    | (go_at_call 117; (with_reducible refine (HH.out _ _ _ HL2.out).mono ?_); rintro e u3 ⟨rfl, hb⟩; have HK3 := Lib.hid ((hb.block _ (lt_heap HK2.out)).trans HK2.out); have HB3 := Lib.hid (HB2.out.trans (hb.mono HB2.out.size)); obtain ⟨b0, b1, b2, b3, b4⟩ := box5 HK3.out; obtain ⟨f0, f1, f2, f3, f4⟩ := Kit.frozen5 HK3.out; clear hb HH))
  rw [show ((((u3.setCell ⟨w.heap.size, 0, none⟩ (.int .i64 xi)).setCell ⟨w.heap.size, 1, none⟩ (.int .i64 xk)).setCell ⟨w.heap.size, 2, none⟩ (.int .i64 xc)).setCell ⟨w.heap.size, 3, none⟩ (.int .i64 xs)).setCell ⟨w.heap.size, 4, none⟩ (.int .i64 xt) = set5 u3 w.heap.size ⟨xi, xk, xc, xs, xt⟩ from rfl]
  obtain ⟨e0, e1, e2, e3, e4⟩ := box5 (set5_block HK3.out ⟨xi, xk, xc, xs, xt⟩)
  have HE := Lib.hid (set5_below HB3.out (Nat.le_refl _) ⟨xi, xk, xc, xs, xt⟩)
  generalize set5 u3 w.heap.size ⟨xi, xk, xc, xs, xt⟩ = u4 at *
  refine bodyPost_ret (v := .tuple #[val ⟨xi, xk, xc, xs, xt⟩, .bool ok]) (by simp [results, Tryz.results99, go_sem, val, e0, e1, e2, e3, e4]) rfl ⟨rfl, HE.out⟩
set_option maxRecDepth 100000 in
set_option maxHeartbeats 2000000 in
/-- Sum, of whatever Of tells. -/
theorem sum_core (v : Value) (key : Int) (w : World) (R : List It) (hR : R.length ≤ 1000)
    (ho : Calls Tryz.prog 57 #[v, .int .i64 key] w fun e w' => ∃ p c, e = .returned (.slice p R.length c) ∧ Lies item w' p R ∧ Below w.heap.size w w') :
    Calls Tryz.prog 110 #[v, .int .i64 key] w fun e w' => e = .returned (.int .i64 (sums R)) ∧ Below w.heap.size w w' := by
  have HS := Lib.hid (fun (j : Nat) (hj : j < R.length) => sums_at hj)
  have H0 := Lib.hid (show sums [] = 0 from rfl)
  have HF := Lib.hid (show sums R = sums (R.take R.length) by rw [List.take_length])
  generalize hq : sums R = S at *
  clear hq
  generalize sums = SU at *
  have ca := _root_.Go.Proofs.YtlbpeeelgpjciaaGreat.Sat.add2
  go_enter Tryz.func110, Tryz.ntmps110
  go_wp2_with (go_at_call 57; (with_reducible refine ho.mono ?_); rintro e u1 ⟨p1, d1, rfl, hl1, hb⟩; have HB1 := Lib.hid hb; have HL1 := Lib.hid hl1; clear hl1 hb ho)
  go_loopw [5, 12] (fun s i wr => ∃ j : Nat, j ≤ R.length ∧ i = .int .i64 (j : Int) ∧ s = .int .i64 (SU (R.take j)) ∧ Hid (Below u1.heap.size u1 wr)) (fun _ i _ => R.length - (intOf i).toNat)
  case atStart => exact ⟨0, by omega, rfl, by rw [List.take_zero, H0.out], Lib.hid (Below.refl _ _)⟩
  case round =>
    obtain ⟨j, hj, rfl, rfl, HB⟩ := hrel
    by_cases hlt : j < R.length
    · obtain ⟨b, o, rfl, ha⟩ := lies_at (HL1.out.below HB.out) hlt
      obtain ⟨k0, k1, k2, k3, k4⟩ := at5 ha
      have hlt' : (j : Int) < (R.length : Int) := by omega
      have HE := Lib.hid (HS.out j hlt)
      generalize R.getD j z = x at *
      generalize SU (R.take j) = s0 at *
      have hc := ca s0 x.cost (wr.alloc (.cells #[.int .i64 x.id, .int .i64 x.key, .int .i64 x.cost, .int .i64 x.cls, .int .i64 x.til] 77)) (wr.heap.size + 1) (by simp)
      have HX := Lib.hid (fun (o' : Obj) => (lay wr (.cells #[.int .i64 x.id, .int .i64 x.key, .int .i64 x.cost, .int .i64 x.cls, .int .i64 x.til] 77)).alloc (lay wr (.cells #[.int .i64 x.id, .int .i64 x.key, .int .i64 x.cost, .int .i64 x.cls, .int .i64 x.til] 77)).size o')
      obtain ⟨xi, xk, xc, xs, xt⟩ := x
      simp only at k0 k1 k2 k3 k4 HE hc HX
      clear ha HS ca HL1
      go_wp2_with (go_at_call 101; (with_reducible refine hc.mono ?_); rintro e w2 ⟨rfl, rfl⟩; clear hc)
      go_roundw
      case rel => exact ⟨j + 1, by omega, by go_num, by rw [HE.out], Lib.hid (HB.out.trans ((HX.out _).mono HB.out.size))⟩
      case measure => simp only [intOf]; omega
    · have hlt' : ¬ (j : Int) < (R.length : Int) := by omega
      obtain rfl : j = R.length := by omega
      have HE := Lib.hid HF.out.symm
      generalize SU (R.take R.length) = s0 at *
      clear HS ca HL1 HF
      go_wp2
      go_ret
      exact ⟨by simp; exact HE.out, HB1.out.trans (HB.out.mono HB1.out.size)⟩
theorem nof_any (key : Int) (w : World) : Calls Tryz.prog 57 #[.pointer none, .int .i64 key] w fun e w' => ∃ p c, e = .returned (.slice p 0 c) ∧ Below w.heap.size w w' := by
  have HB := Lib.hid (lay w (.cells #[.int .i64 key] 3))
  have ha := nall_any (w.alloc (.cells #[.int .i64 key] 3))
  have hcell := cell_of_row _ w.heap.size 0 _ _ (0, 0) (heap_alloc_new w (.cells #[.int .i64 key] 3))
  have HPK := Lib.hid (fun (u : World) (hu : Below (w.alloc (.cells #[.int .i64 key] 3)).heap.size (w.alloc (.cells #[.int .i64 key] 3)) u) => picked_any ent_of (gives_of w.heap.size key) (l := []) (p := none) (d := 0) (.inl rfl) (by simp) (cell_on hcell hu))
  simp only [List.length_nil, List.filter_nil] at HPK
  have HSO := Lib.hid (fun (u : World) (y : Value) (ho : Own item 77 w.heap.size u y []) (hu : w.heap.size ≤ u.heap.size) => sort_own ho hu (by simp))
  clear hcell
  go_enter Tryz.func57, Tryz.ntmps57
  go_wp2_with (first
    | (go_at_call 38; (with_reducible refine ha.mono ?_); rintro e u1 ⟨rfl, hb⟩; have HB1 := Lib.hid hb; clear hb ha)
    | (go_at_call 113; (with_reducible refine (HPK.out _ HB1.out).mono ?_); rintro e u2 ⟨y2, rfl, ho, hb⟩; have HB2 := Lib.hid (HB.out.trans ((HB1.out.trans (hb.mono HB1.out.size)).mono HB.out.size)); have HO2 := Lib.hid (Own.lower ho (Nat.le_trans HB.out.size HB1.out.size)); clear ho hb HPK)
    | (go_at_call 115; (with_reducible refine (HSO.out _ _ HO2.out HB2.out.size).mono ?_); rintro e u3 ⟨rfl, ⟨p3, d3, rfl, -⟩, hb⟩; have HB3 := Lib.hid (HB2.out.trans hb); clear hb HSO))
  go_ret
  exact ⟨_, _, rfl, HB3.out⟩
end Go.Proofs.YtlbpeeelgpjciaaGreat.Queue

namespace Go.Proofs.YtlbpeeelgpjciaaGreat.Queue
open Go.RowKit
open _root_.Go.Proofs.YtlbpeeelgpjciaaGreat.Kit (Enc Lies Own At Kept Laid Off cell_on lt_heap take_snoc below_drewN box5 ints own_keep own_lt cells)

theorem way12 : Way12 Pq where
  below := fun ⟨y, hy⟩ hb => ⟨y, hy.below hb⟩
  kept := fun ⟨y, hy⟩ hk _ => ⟨y, hy.kept hk⟩
  sub := fun ⟨y, hy⟩ hg => ⟨y, hy.sub hg⟩
  grow := fun ⟨y, hy⟩ hb => ⟨y, hy.grow hb⟩
  new := fun room w h0 h1 => new_ok room w h0 h1
  newno := fun room w h => new_no room w h
  put := fun h hB _ hl x _ => pput_any h hB hl x
  take := fun h hB hg hl id _ => ptake_any h hB hg hl id
  expire := fun h hB _ hl now _ => pexpire_any h hB hl now
  first := fun h hg hl key _ => first_core _ key _ _ fun _ hu => pof_any (by obtain ⟨y, hy⟩ := h; exact ⟨y, hy.below hu⟩) hg hl key
  of := fun h hg hl key _ => pof_any h hg hl key
  keys := fun h _ hl => (pkeys_any h hl).mono fun _ _ ⟨p, c, he, hli, hb⟩ => ⟨p, c, he, hli.1, hb⟩
  sum := fun {_ _ _ _ _ l} h hg hl key _ => sum_core _ key _ (of l key) (Nat.le_trans (of_len l key) (by omega)) (pof_any h hg hl key)
  all := fun h _ hl => (pall_any h hl).mono fun e w' ⟨y, he, ho, hb⟩ => by
    obtain ⟨p, c, rfl, hli, -⟩ := own_slice ho
    exact ⟨p, c, he, hli, hb⟩
  nput := nput_any
  ntake := ntake_any
  nexpire := nexpire_any
  nfirst := fun key w => first_core _ key w [] fun u _ => (nof_any key u).mono fun e w' ⟨p, c, he, hb⟩ => ⟨p, c, he, .inl rfl, hb⟩
  nof := nof_any
  nkeys := nkeys_any
  nsum := fun key w => sum_core _ key w [] (by simp) ((nof_any key w).mono fun e w' ⟨p, c, he, hb⟩ => ⟨p, c, he, .inl rfl, hb⟩)
  nall := fun w => (nall_any w).mono fun e w' ⟨he, hb⟩ => ⟨_, _, he, hb⟩
end Go.Proofs.YtlbpeeelgpjciaaGreat.Queue
