/-
  The document's Put, of any queue of up to 1000 items.
-/
import Derived.Test.YtdcclmellabnlaaQueueAt
namespace Go.Proofs.Ytdcclmellabnlaa.Queue
open Go.RowKit
open _root_.Go.Proofs.Ytdcclmellabnlaa.Codec (lt_of_heap frozen_of heap_set below_new)
open _root_.Go.Proofs.Ytdcclmellabnlaa.Kit (Enc Lies Own At Kept Laid cell_on lt_heap take_snoc below_drewN box5)

/-- Four ways that an item may not be. -/
theorem wrong_cases {x : It} (h : wrong x) : x.cost < 1 ∨ ¬ x.cost < 1 ∧ (x.cls < 0 ∨ ¬ x.cls < 0 ∧ (2 < x.cls ∨ ¬ 2 < x.cls ∧ x.til < 0)) := by
  unfold wrong at h
  omega
theorem not_wrong {x : It} (h : ¬ wrong x) : ¬ x.cost < 1 ∧ ¬ x.cls < 0 ∧ ¬ 2 < x.cls ∧ ¬ x.til < 0 := by
  unfold wrong at h
  omega
set_option maxRecDepth 100000 in
set_option maxHeartbeats 4000000 in
theorem rput_no {B v : Nat} {room : Int} {l : List It} {w : World} (h : Qu B w v room l) (hB : B ≤ w.heap.size) (x : It) (hx : wrong x) :
    Calls Try.prog 26 #[.pointer (some ⟨v, 0, none⟩), val x] w fun e w' => e = .returned (.int .i64 1) ∧ Step B w v room l w' := by
  have HS := Lib.hid (fun u (hu : Below w.heap.size w u) => Step.same h hB hu)
  obtain ⟨b0, b1, b2, b3, b4⟩ := box5 (heap_alloc_new w (.cells #[.int .i64 x.id, .int .i64 x.key, .int .i64 x.cost, .int .i64 x.cls, .int .i64 x.til] 49))
  have HB := Lib.hid ((Below.refl w.heap.size w).alloc (Nat.le_refl _) (.cells #[.int .i64 x.id, .int .i64 x.key, .int .i64 x.cost, .int .i64 x.cls, .int .i64 x.til] 49))
  have hc := wrong_cases hx
  obtain ⟨xi, xk, xc, xs, xt⟩ := x
  simp only at hc b0 b1 b2 b3 b4 HB
  clear h hx
  simp only [val]
  rcases hc with h1 | ⟨h1, h2 | ⟨h2, h3 | ⟨h3, h4⟩⟩⟩
  all_goals
    go_enter Try.func26, Try.ntmps26
    go_wp2
    go_ret
    exact ⟨rfl, HS.out _ HB.out⟩

set_option maxRecDepth 100000 in
set_option maxHeartbeats 4000000 in
theorem rput_twice {B v : Nat} {room : Int} {l : List It} {w : World} (h : Qu B w v room l) (hB : B ≤ w.heap.size) (hl : l.length ≤ 1000) (x : It) (hx : ¬ wrong x) (hp : 0 ≤ place l x.id) :
    Calls Try.prog 26 #[.pointer (some ⟨v, 0, none⟩), val x] w fun e w' => e = .returned (.int .i64 5) ∧ Step B w v room l w' := by
  have HS := Lib.hid (fun u (hu : Below w.heap.size w u) => Step.same h hB hu)
  obtain ⟨b0, b1, b2, b3, b4⟩ := box5 (heap_alloc_new w (.cells #[.int .i64 x.id, .int .i64 x.key, .int .i64 x.cost, .int .i64 x.cls, .int .i64 x.til] 49))
  have HB := Lib.hid ((Below.refl w.heap.size w).alloc (Nat.le_refl _) (.cells #[.int .i64 x.id, .int .i64 x.key, .int .i64 x.cost, .int .i64 x.cls, .int .i64 x.til] 49))
  have HA := rat_any (h.below HB.out) hl x.id
  obtain ⟨h1, h2, h3, h4⟩ := not_wrong hx
  generalize place l x.id = P at *
  obtain ⟨xi, xk, xc, xs, xt⟩ := x
  simp only at h1 h2 h3 h4 b0 b1 b2 b3 b4 HB HA
  clear h hx
  simp only [val]
  go_enter Try.func26, Try.ntmps26
  go_wp2_with (go_at_call 43; (with_reducible refine HA.mono ?_); rintro e w1 ⟨rfl, hb⟩; have HB1 := Lib.hid (HB.out.trans (hb.mono HB.out.size)); clear hb HA)
  go_ret
  exact ⟨rfl, HS.out _ HB1.out⟩

set_option maxRecDepth 100000 in
set_option maxHeartbeats 4000000 in
theorem rput_full {B v : Nat} {room : Int} {l : List It} {w : World} (h : Qu B w v room l) (hB : B ≤ w.heap.size) (hl : l.length ≤ 1000) (x : It) (hx : ¬ wrong x) (hp : ¬ 0 ≤ place l x.id) (hr : room ≤ l.length) :
    Calls Try.prog 26 #[.pointer (some ⟨v, 0, none⟩), val x] w fun e w' => e = .returned (.int .i64 3) ∧ Step B w v room l w' := by
  have HV := Lib.hid h
  have HS := Lib.hid (fun u (hu : Below w.heap.size w u) => Step.same h hB hu)
  obtain ⟨b0, b1, b2, b3, b4⟩ := box5 (heap_alloc_new w (.cells #[.int .i64 x.id, .int .i64 x.key, .int .i64 x.cost, .int .i64 x.cls, .int .i64 x.til] 49))
  have HB := Lib.hid ((Below.refl w.heap.size w).alloc (Nat.le_refl _) (.cells #[.int .i64 x.id, .int .i64 x.key, .int .i64 x.cost, .int .i64 x.cls, .int .i64 x.til] 49))
  have HA := rat_any (h.below HB.out) hl x.id
  obtain ⟨h1, h2, h3, h4⟩ := not_wrong hx
  generalize place l x.id = P at *
  obtain ⟨xi, xk, xc, xs, xt⟩ := x
  simp only at h1 h2 h3 h4 b0 b1 b2 b3 b4 HB HA
  clear h hx
  simp only [val]
  go_enter Try.func26, Try.ntmps26
  go_wp2_with (go_at_call 43; (with_reducible refine HA.mono ?_); rintro e w1 ⟨rfl, hb⟩; have HB1 := Lib.hid (HB.out.trans (hb.mono HB.out.size)); clear hb HA; obtain ⟨p, c, c1, -, -, c0⟩ := (HV.out.below HB1.out).cell)
  go_quiet (fail)
  go_wp2
  go_ret
  exact ⟨rfl, HS.out _ (HB1.out.trans ((below_drewN _ _).mono HB1.out.size))⟩

set_option maxRecDepth 100000 in
set_option maxHeartbeats 4000000 in
theorem rput_ok {B v : Nat} {room : Int} {l : List It} {w : World} (h : Qu B w v room l) (hB : B ≤ w.heap.size) (hl : l.length ≤ 1000) (x : It) (hx : ¬ wrong x) (hp : ¬ 0 ≤ place l x.id) (hr : ¬ room ≤ l.length) :
    Calls Try.prog 26 #[.pointer (some ⟨v, 0, none⟩), val x] w fun e w' => e = .returned (.int .i64 0) ∧ Step B w v room (l ++ [x]) w' := by
  have HV := Lib.hid h
  have HBB := Lib.hid hB
  have K := heap_alloc_new w (.cells #[.int .i64 x.id, .int .i64 x.key, .int .i64 x.cost, .int .i64 x.cls, .int .i64 x.til] 49)
  obtain ⟨b0, b1, b2, b3, b4⟩ := box5 K
  have HK := Lib.hid K
  have HB := Lib.hid ((Below.refl w.heap.size w).alloc (Nat.le_refl _) (.cells #[.int .i64 x.id, .int .i64 x.key, .int .i64 x.cost, .int .i64 x.cls, .int .i64 x.til] 49))
  have HA := rat_any (h.below HB.out) hl x.id
  obtain ⟨h1, h2, h3, h4⟩ := not_wrong hx
  generalize place l x.id = P at *
  obtain ⟨xi, xk, xc, xs, xt⟩ := x
  simp only at h1 h2 h3 h4 b0 b1 b2 b3 b4 HB HA HK
  clear h hx K
  simp only [val]
  go_enter Try.func26, Try.ntmps26
  go_wp2_with (go_at_call 43; (with_reducible refine HA.mono ?_); rintro e w1 ⟨rfl, hb⟩; have HB1 := Lib.hid (HB.out.trans (hb.mono HB.out.size)); have HK1 := Lib.hid ((hb.block _ (lt_of_heap HK.out)).trans HK.out); clear hb HA HK b0 b1 b2 b3 b4; obtain ⟨p, c, c1, lx, cn, c0⟩ := (HV.out.below HB1.out).cell; have LX := Lib.hid lx; have CN := Lib.hid cn; obtain ⟨b0, b1, b2, b3, b4⟩ := box5 HK1.out; clear lx cn)
  go_quiet (fail)
  have HB2 := Lib.hid (HB1.out.trans ((below_drewN w1 nq).mono HB1.out.size))
  have HK2 := Lib.hid (((below_drewN w1 nq).block _ (lt_of_heap HK1.out)).trans HK1.out)
  clear b0 b1 b2 b3 b4 c0 c1 LX CN HK1 HB1
  generalize w1.drewN nq = w2 at *
  have hv2 := (HV.out.below HB2.out).lt
  obtain ⟨p2, d2, c1, lx, cn, -⟩ := (HV.out.below HB2.out).cell
  have LX := Lib.hid (lx.below ((Below.refl _ _).alloc (Nat.le_refl _) (.cells #[] 49)))
  have CN := Lib.hid cn
  have HA2 := Lib.hid ((Below.refl w2.heap.size w2).alloc (Nat.le_refl _) (.cells #[] 49))
  have OM := Lib.hid (Kit.own_made (E := item) (T := 49) w2 w2.heap.size (Nat.le_refl _))
  clear lx cn
  have HS2 := Lib.hid (Step.same HV.out HBB.out HB2.out)
  go_wp2_with (first
    | (at_builtin; refine Kit.pushes laidR rfl _ _ rfl w2 _ _ rfl [] 0 rfl OM.out HA2.out (Below.refl _ _) l l.length d2 p2 rfl rfl LX.out CN.out (by omega) ?_; intro p4 c4 w4 R4 B4; clear c1; obtain ⟨b0, b1, b2, b3, b4⟩ := box5 ((B4.block _ (lt_of_heap HK2.out)).trans HK2.out); have R5 := Lib.hid (show Own item 49 w2.heap.size w4 (.slice p4 l.length c4) l from by (have := R4.out; rw [Nat.zero_add] at this; exact this)); have B5 := Lib.hid B4; clear R4 B4 OM LX CN)
    | (at_builtin; refine Kit.push laidR rfl _ _ rfl w2 w4 (.slice p4 l.length c4) rfl l l.length rfl R5.out B5.out ((Below.refl _ _).alloc (Nat.le_refl _) _) w4.heap.size ⟨xi, xk, xc, xs, xt⟩ rfl (heap_alloc_new _ _) (by omega) ?_; intro p6 c6 w6 R6 B6; obtain ⟨f0, ⟨u0, k0⟩, D⟩ := (HV.out.below HB2.out).store (Nat.le_trans HBB.out HB2.out.size) B6 R6.out; clear b0 b1 b2 b3 b4))
  go_ret
  exact ⟨rfl, HS2.out.trans D.out⟩
theorem rput_any {B v : Nat} {room : Int} {l : List It} {w : World} (h : Qu B w v room l) (hB : B ≤ w.heap.size) (hl : l.length ≤ 1000) (x : It) :
    Calls Try.prog 26 #[.pointer (some ⟨v, 0, none⟩), val x] w fun e w' => e = .returned (.int .i64 (put room l x).2) ∧ Step B w v room (put room l x).1 w' := by
  unfold put
  split
  · rename_i hx
    exact rput_no h hB x hx
  · rename_i hx
    split
    · rename_i hp
      exact rput_twice h hB hl x hx hp
    · rename_i hp
      split
      · rename_i hr
        exact rput_full h hB hl x hx hp hr
      · rename_i hr
        exact rput_ok h hB hl x hx hp hr
end Go.Proofs.Ytdcclmellabnlaa.Queue
