/-
  The program's Put, of any queue of up to 16 items, and of none; any item.
-/
import Derived.Deep.AppendLies
import Derived.Deep.RegionLaw
import Derived.Test.YtbgdlokegibkmaaGreatMmAl
namespace Go.Proofs.YtbgdlokegibkmaaGreat.Queue
open Go.RowKit
open _root_.Go.Proofs.YtbgdlokegibkmaaGreat.Codec (lt_of_heap frozen_of heap_set own_below)
open _root_.Go.Proofs.YtbgdlokegibkmaaGreat.Kit (Enc Lies Own At Kept Laid Off cell_on lt_heap take_snoc below_drewN box5 ints own_keep own_lt cells)
open _root_.Go.Proofs.YtbgdlokegibkmaaGreat.Ledger (spot spot_at spot_none spot_cases)
theorem infoQ : (Tryz.prog.info? 136).map (fun i => (i.zero, i.size, i.bytes)) = some (some (.agg #[.int .i64 0, .int .i64 0, .int .i64 0, .int .i64 0, .int .i64 0]), 5, 40) := by kernel_rfl
theorem Pqy.pushed {F : Nat → Prop} {B q g cap : Nat} {u w5 : World} {room : Int} {l : List It} {y : Value} (h : Pqy F B u q room l y) (hB : B ≤ u.heap.size) (x : It)
    (hg : ((u.alloc (.cells #[.int .i64 x.id, .int .i64 x.key, .int .i64 x.cost, .int .i64 x.cls, .int .i64 x.til] 136)).drew).grownBy w5 y.ownBlock) (ho : w5.ownsRow B 136 5 (.slice (some ⟨g, 0, none⟩) (l.length + 1) cap) (l.length + 1) (cells item l ++ [.int .i64 x.id, .int .i64 x.key, .int .i64 x.cost, .int .i64 x.cls, .int .i64 x.til]))
    (hat : y.ownBlock = some g ∨ g = (u.alloc (.cells #[.int .i64 x.id, .int .i64 x.key, .int .i64 x.cost, .int .i64 x.cls, .int .i64 x.til] 136)).drew.heap.size) :
    w5.frozen? ⟨q, 1, none⟩ = false ∧ w5.cell? ⟨q, 1, none⟩ = some y ∧ Hid (Moved Pq F B u q room (l ++ [x]) (w5.setCell ⟨q, 1, none⟩ (.slice (some ⟨g, 0, none⟩) (l.length + 1) cap))) := by
  have hb := (lay u (.cells #[.int .i64 x.id, .int .i64 x.key, .int .i64 x.cost, .int .i64 x.cls, .int .i64 x.til] 136)).drew
  have R : Own item 136 B w5 (.slice (some ⟨g, 0, none⟩) (l.length + 1) cap) (l ++ [x]) := by
    unfold Own
    rw [Kit.cells_snoc, List.length_append]
    exact ho
  obtain ⟨f, c, D⟩ := (h.below hb).turn (Nat.le_trans hB hb.size) hg R (fun k e => by
    simp only [Value.ownBlock, Option.some.injEq] at e
    subst e
    rcases hat with hat | hat
    · exact .inl hat
    · exact .inr (Nat.le_of_eq hat.symm))
  exact ⟨f, c, Lib.hid (D.out.lift hB hb)⟩
set_option maxRecDepth 100000 in
set_option maxHeartbeats 2000000 in
theorem nput_any (x : It) (w : World) : Calls Tryz.prog 89 #[.pointer none, val x] w fun e w' => e = .returned (.int .i64 1) ∧ Below w.heap.size w w' := by
  simp only [val]
  go_enter Tryz.func89, Tryz.ntmps89
  go_wp2
  go_ret
  exact ⟨rfl, lay _ _⟩
set_option maxRecDepth 100000 in
set_option maxHeartbeats 4000000 in
theorem put_wrong {F : Nat → Prop} {B q : Nat} {w : World} {room : Int} {l : List It} (h : Pq F B w q room l) (hB : B ≤ w.heap.size) (x : It) (hx : wrong x) :
    Calls Tryz.prog 89 #[.pointer (some ⟨q, 0, none⟩), val x] w fun e w' => e = .returned (.int .i64 1) ∧ Moved Pq F B w q room l w' := by
  obtain ⟨y, hy⟩ := h
  have HS := Lib.hid (fun u (hu : Below w.heap.size w u) => hy.same hB hu)
  have HB := Lib.hid (lay w (.cells #[.int .i64 x.id, .int .i64 x.key, .int .i64 x.cost, .int .i64 x.cls, .int .i64 x.til] 136))
  obtain ⟨b0, b1, b2, b3, b4⟩ := box5 (heap_alloc_new w (.cells #[.int .i64 x.id, .int .i64 x.key, .int .i64 x.cost, .int .i64 x.cls, .int .i64 x.til] 136))
  have hr := right_any x (w.alloc (.cells #[.int .i64 x.id, .int .i64 x.key, .int .i64 x.cost, .int .i64 x.cls, .int .i64 x.til] 136))
  rw [show decide (¬ wrong x) = false by simpa using hx] at hr
  clear hy hx
  obtain ⟨xi, xk, xc, xs, xt⟩ := x
  simp only [val] at *
  go_enter Tryz.func89, Tryz.ntmps89
  go_wp2_with (go_at_call 140; (with_reducible refine hr.mono ?_); rintro e u1 ⟨rfl, hb⟩; have HB1 := Lib.hid (HB.out.trans (hb.mono HB.out.size)); clear hb hr)
  go_ret
  exact ⟨rfl, HS.out _ HB1.out⟩
set_option maxRecDepth 100000 in
set_option maxHeartbeats 4000000 in
theorem put_right {F : Nat → Prop} {B q : Nat} {w : World} {room : Int} {l : List It} (h : Pq F B w q room l) (hB : B ≤ w.heap.size) (hl : l.length ≤ 16) (x : It) (hx : ¬ wrong x) :
    Calls Tryz.prog 89 #[.pointer (some ⟨q, 0, none⟩), val x] w fun e w' => e = .returned (.int .i64 (put room l x).2) ∧ Moved Pq F B w q room (put room l x).1 w' := by
  obtain ⟨y, hy⟩ := h
  have hput : put room l x = if 0 ≤ place l x.id then (l, 5) else if room ≤ l.length then (l, 3) else (l ++ [x], 0) := by unfold put; rw [if_neg hx]
  rw [hput]
  have HY := Lib.hid hy
  have hb1 := lay w (.cells #[.int .i64 x.id, .int .i64 x.key, .int .i64 x.cost, .int .i64 x.cls, .int .i64 x.til] 136)
  have HB := Lib.hid hb1
  have K := Lib.hid (heap_alloc_new w (.cells #[.int .i64 x.id, .int .i64 x.key, .int .i64 x.cost, .int .i64 x.cls, .int .i64 x.til] 136))
  obtain ⟨b0, b1, b2, b3, b4⟩ := box5 K.out
  have hr := right_any x (w.alloc (.cells #[.int .i64 x.id, .int .i64 x.key, .int .i64 x.cost, .int .i64 x.cls, .int .i64 x.til] 136))
  rw [show decide (¬ wrong x) = true by simpa using hx] at hr
  have hn := Lib.hid (fun u => named_any x.id u)
  have HC := Lib.hid (fun (u : World) (c : Nat) (p : Option Addr) (d : Nat) (hp : Lies item u p l) (hc : u.cell? ⟨c, 0, none⟩ = some (.int .i64 x.id)) => contains_any ent_named (gives_named c x.id) (d := d) hp (by omega) hc)
  rw [show spot (isId x.id) l = place l x.id from rfl] at HC
  have HS := Lib.hid (fun u (hu : Below w.heap.size w u) => hy.same hB hu)
  clear hy hx hput hb1
  generalize hP : place l x.id = P at *
  clear hP
  obtain ⟨xi, xk, xc, xs, xt⟩ := x
  simp only [val] at *
  by_cases hp : 0 ≤ P
  · rw [if_pos hp]
    go_enter Tryz.func89, Tryz.ntmps89
    go_wp2_with (go_at_call 140; (with_reducible refine hr.mono ?_); rintro e u0 ⟨rfl, hb⟩; have HB1 := Lib.hid (HB.out.trans (hb.mono HB.out.size)); have K1 := Lib.hid ((hb.block _ (lt_heap K.out)).trans K.out); clear b0 b1 b2 b3 b4 hb hr)
    have HD1 := Lib.hid (HB1.out.drew)
    obtain ⟨p, d, -, c1, hl1, -, -⟩ := (HY.out.below HD1.out).cell
    have HL1 := Lib.hid hl1
    have KD := Lib.hid (show u0.drew.heap[w.heap.size]? = _ from K1.out)
    obtain ⟨b0, -⟩ := box5 KD.out
    clear hl1
    go_region_held3 (fun u => u.cell? ⟨q, 1, none⟩ = some (.slice p l.length d) ∧ u.cell? ⟨w.heap.size, 0, none⟩ = some (.int .i64 xi)) (first | assumption | exact ⟨c1, b0⟩) (first
      | (go_at_call 141; (with_reducible refine (hn.out _).mono ?_); rintro e u2 ⟨rfl, hc, hb⟩; have HB2 := Lib.hid (HD1.out.trans (hb.mono HD1.out.size)); have HL2 := Lib.hid (HL1.out.below hb); have HC2 := Lib.hid (show u2.cell? ⟨u0.heap.size, 0, none⟩ = some (.int .i64 xi) from hc); have K2 := Lib.hid ((hb.block _ (lt_heap KD.out)).trans KD.out); have s2 := And.intro (cell_on c1 hb) (cell_on b0 hb); clear hb hc)
      | (go_at_call 135; (with_reducible refine (HC.out _ _ _ _ HL2.out HC2.out).mono ?_); rintro e u3 ⟨rfl, hb⟩; have HB3 := Lib.hid (HB2.out.trans (hb.mono HB2.out.size)); have K3 := Lib.hid ((hb.block _ (lt_heap K2.out)).trans K2.out); have s3 := And.intro (cell_on s2.1 hb) (cell_on s2.2 hb); clear hb HC))
    go_wp2
    go_ret
    exact ⟨rfl, HS.out _ HB3.out⟩
  · rw [if_neg hp]
    have hp' : P < 0 := by omega
    by_cases hroom : room ≤ l.length
    · rw [if_pos hroom]
      go_enter Tryz.func89, Tryz.ntmps89
      go_wp2_with (go_at_call 140; (with_reducible refine hr.mono ?_); rintro e u0 ⟨rfl, hb⟩; have HB1 := Lib.hid (HB.out.trans (hb.mono HB.out.size)); have K1 := Lib.hid ((hb.block _ (lt_heap K.out)).trans K.out); clear b0 b1 b2 b3 b4 hb hr)
      have HD1 := Lib.hid (HB1.out.drew)
      obtain ⟨p, d, -, c1, hl1, -, -⟩ := (HY.out.below HD1.out).cell
      have HL1 := Lib.hid hl1
      have KD := Lib.hid (show u0.drew.heap[w.heap.size]? = _ from K1.out)
      obtain ⟨b0, -⟩ := box5 KD.out
      clear hl1
      go_region_held3 (fun u => u.cell? ⟨q, 1, none⟩ = some (.slice p l.length d) ∧ u.cell? ⟨w.heap.size, 0, none⟩ = some (.int .i64 xi)) (first | assumption | exact ⟨c1, b0⟩) (first
        | (go_at_call 141; (with_reducible refine (hn.out _).mono ?_); rintro e u2 ⟨rfl, hc, hb⟩; have HB2 := Lib.hid (HD1.out.trans (hb.mono HD1.out.size)); have HL2 := Lib.hid (HL1.out.below hb); have HC2 := Lib.hid (show u2.cell? ⟨u0.heap.size, 0, none⟩ = some (.int .i64 xi) from hc); have K2 := Lib.hid ((hb.block _ (lt_heap KD.out)).trans KD.out); have s2 := And.intro (cell_on c1 hb) (cell_on b0 hb); clear hb hc)
        | (go_at_call 135; (with_reducible refine (HC.out _ _ _ _ HL2.out HC2.out).mono ?_); rintro e u3 ⟨rfl, hb⟩; have HB3 := Lib.hid (HB2.out.trans (hb.mono HB2.out.size)); have K3 := Lib.hid ((hb.block _ (lt_heap K2.out)).trans K2.out); have s3 := And.intro (cell_on s2.1 hb) (cell_on s2.2 hb); clear hb HC))
      obtain ⟨p4, d4, -, c4, -, -, c0⟩ := (HY.out.below HB3.out).cell
      go_wp2
      go_quiet (fail)
      go_wp2
      go_ret
      exact ⟨rfl, HS.out _ (HB3.out.trans ((below_drewN _ _).mono HB3.out.size))⟩
    · rw [if_neg hroom]
      go_enter Tryz.func89, Tryz.ntmps89
      go_wp2_with (go_at_call 140; (with_reducible refine hr.mono ?_); rintro e u0 ⟨rfl, hb⟩; have HB1 := Lib.hid (HB.out.trans (hb.mono HB.out.size)); have K1 := Lib.hid ((hb.block _ (lt_heap K.out)).trans K.out); clear b0 b1 b2 b3 b4 hb hr)
      have HD1 := Lib.hid (HB1.out.drew)
      obtain ⟨p, d, -, c1, hl1, -, -⟩ := (HY.out.below HD1.out).cell
      have HL1 := Lib.hid hl1
      have KD := Lib.hid (show u0.drew.heap[w.heap.size]? = _ from K1.out)
      obtain ⟨b0, -⟩ := box5 KD.out
      clear hl1
      go_region_held3 (fun u => u.cell? ⟨q, 1, none⟩ = some (.slice p l.length d) ∧ u.cell? ⟨w.heap.size, 0, none⟩ = some (.int .i64 xi)) (first | assumption | exact ⟨c1, b0⟩) (first
        | (go_at_call 141; (with_reducible refine (hn.out _).mono ?_); rintro e u2 ⟨rfl, hc, hb⟩; have HB2 := Lib.hid (HD1.out.trans (hb.mono HD1.out.size)); have HL2 := Lib.hid (HL1.out.below hb); have HC2 := Lib.hid (show u2.cell? ⟨u0.heap.size, 0, none⟩ = some (.int .i64 xi) from hc); have K2 := Lib.hid ((hb.block _ (lt_heap KD.out)).trans KD.out); have s2 := And.intro (cell_on c1 hb) (cell_on b0 hb); clear hb hc)
        | (go_at_call 135; (with_reducible refine (HC.out _ _ _ _ HL2.out HC2.out).mono ?_); rintro e u3 ⟨rfl, hb⟩; have HB3 := Lib.hid (HB2.out.trans (hb.mono HB2.out.size)); have K3 := Lib.hid ((hb.block _ (lt_heap K2.out)).trans K2.out); have s3 := And.intro (cell_on s2.1 hb) (cell_on s2.2 hb); clear hb HC))
      obtain ⟨p4, d4, -, c4, -, -, c0⟩ := (HY.out.below HB3.out).cell
      go_wp2
      go_quiet (fail)
      have HB4 := Lib.hid (HB3.out.trans ((below_drewN u3 nq).mono HB3.out.size))
      have K4 := Lib.hid (((below_drewN u3 nq).block _ (lt_heap K3.out)).trans K3.out)
      clear b0 c1 c0 c4 s2 s3
      generalize u3.drewN nq = u4 at *
      obtain ⟨p5, d5, rfl, c1, -, -, -⟩ := (HY.out.below HB4.out).cell
      obtain ⟨b0, b1, b2, b3, b4⟩ := box5 K4.out
      have hq4 := (HY.out.below HB4.out).lt
      have HP4 := Lib.hid (HY.out.below HB4.out)
      obtain ⟨i0, hi, hz0, hz1, hz2⟩ := info_parts infoQ
      have HDW := Lib.hid ((lay u4 (.cells #[.int .i64 xi, .int .i64 xk, .int .i64 xc, .int .i64 xs, .int .i64 xt] 136)).drew)
      have HOD := Lib.hid (own_below HP4.out.own HDW.out)
      have HBU := Lib.hid (Nat.le_trans hB HB4.out.size)
      go_wp2
      go_region_law (refine step_append_lies _ rfl (.tmp 37) (.tmp 39) 69 rfl B 136 i0 (.agg #[.int .i64 0, .int .i64 0, .int .i64 0, .int .i64 0, .int .i64 0]) 5 40 Tryz.underlying69 hi hz0 hz1 hz2 rfl (by decide) (.slice p5 l.length d5) l.length (cells item l) rfl HOD.out ⟨u4.heap.size, 0, none⟩ 1 1 [.int .i64 xi, .int .i64 xk, .int .i64 xc, .int .i64 xs, .int .i64 xt] rfl rfl (World.news_of_block (heap_alloc_new _ _)) (by intro u hu; simp at hu; rcases hu with rfl | rfl | rfl | rfl | rfl <;> rfl) (by decide) (by unfold maxLen; omega) (by omega) (Nat.le_trans HBU.out HDW.out.size) _ rfl ?_; intro g cap w5 ho hg hat hlt; obtain ⟨f0, c3, D⟩ := HP4.out.pushed HBU.out ⟨xi, xk, xc, xs, xt⟩ hg ho hat)
      all_goals
        go_wp2
        go_ret
        exact ⟨rfl, D.out.lift hB HB4.out⟩
theorem pput_any {F : Nat → Prop} {B q : Nat} {w : World} {room : Int} {l : List It} (h : Pq F B w q room l) (hB : B ≤ w.heap.size) (hl : l.length ≤ 16) (x : It) :
    Calls Tryz.prog 89 #[.pointer (some ⟨q, 0, none⟩), val x] w fun e w' => e = .returned (.int .i64 (put room l x).2) ∧ Moved Pq F B w q room (put room l x).1 w' := by
  by_cases hx : wrong x
  · rw [show put room l x = (l, 1) by unfold put; rw [if_pos hx]]
    exact put_wrong h hB x hx
  · exact put_right h hB hl x hx
end Go.Proofs.YtbgdlokegibkmaaGreat.Queue
