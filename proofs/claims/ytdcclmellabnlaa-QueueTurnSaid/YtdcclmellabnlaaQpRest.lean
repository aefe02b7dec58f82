/-
  The program's First and Sum, of any queue of up to 16 items, and of none; Of, Expire of none.
-/
import Derived.Test.YtdcclmellabnlaaQpSort
import Derived.Test.YtdcclmellabnlaaSatWalks
namespace Go.Proofs.Ytdcclmellabnlaa.Queue
open Go.RowKit
open _root_.Go.Proofs.Ytdcclmellabnlaa.Codec (lt_of_heap frozen_of heap_set below_new own_below)
open _root_.Go.Proofs.Ytdcclmellabnlaa.Kit (Enc Lies Own At Kept Laid Off cell_on lt_heap take_snoc below_drewN box5 ints own_keep own_lt cells)

set_option maxRecDepth 100000 in
set_option maxHeartbeats 2000000 in
/-- First, of whatever Of tells. -/
theorem first_core (v : Value) (key : Int) (w : World) (R : List It)
    (ho : ∀ u, Below w.heap.size w u → Calls Try.prog 12 #[v, .int .i64 key] u fun e w' => ∃ p c, e = .returned (.slice p R.length c) ∧ Lies item w' p R ∧ Below u.heap.size u w') :
    Calls Try.prog 17 #[v, .int .i64 key] w fun e w' => e = .returned (.tuple #[val (head R).1, .bool (head R).2]) ∧ Below w.heap.size w w' := by
  have HZ := Lib.hid (lay w (.cells #[.int .i64 0, .int .i64 0, .int .i64 0, .int .i64 0, .int .i64 0] 35))
  have KZ := Lib.hid (heap_alloc_new w (.cells #[.int .i64 0, .int .i64 0, .int .i64 0, .int .i64 0, .int .i64 0] 35))
  have ho2 := ho _ HZ.out
  have HH := Lib.hid (fun (u : World) (p : Option Addr) (d : Nat) (hp : Lies item u p R) => head_any (d := d) hp)
  generalize head R = hd at *
  obtain ⟨⟨xi, xk, xc, xs, xt⟩, ok⟩ := hd
  simp only [val] at *
  clear ho
  go_enter Try.func17, Try.ntmps17
  go_wp2_with (first
    | (go_at_call 12; (with_reducible refine ho2.mono ?_); rintro e u2 ⟨p2, d2, rfl, hl2, hb⟩; have HB2 := Lib.hid (HZ.out.trans (hb.mono HZ.out.size)); have HL2 := Lib.hid hl2; have HK2 := Lib.hid ((hb.block _ (lt_heap KZ.out)).trans KZ.out); clear hl2 hb ho2)
    | (go_at_call 35; (with_reducible refine (HH.out _ _ _ HL2.out).mono ?_); rintro e u3 ⟨rfl, hb⟩; have HK3 := Lib.hid ((hb.block _ (lt_heap HK2.out)).trans HK2.out); have HB3 := Lib.hid (HB2.out.trans (hb.mono HB2.out.size)); obtain ⟨b0, b1, b2, b3, b4⟩ := box5 HK3.out; obtain ⟨f0, f1, f2, f3, f4⟩ := Kit.frozen5 HK3.out; clear hb HH))
  rw [show ((((u3.setCell ⟨w.heap.size, 0, none⟩ (.int .i64 xi)).setCell ⟨w.heap.size, 1, none⟩ (.int .i64 xk)).setCell ⟨w.heap.size, 2, none⟩ (.int .i64 xc)).setCell ⟨w.heap.size, 3, none⟩ (.int .i64 xs)).setCell ⟨w.heap.size, 4, none⟩ (.int .i64 xt) = set5 u3 w.heap.size ⟨xi, xk, xc, xs, xt⟩ from rfl]
  obtain ⟨e0, e1, e2, e3, e4⟩ := box5 (set5_block HK3.out ⟨xi, xk, xc, xs, xt⟩)
  have HE := Lib.hid (set5_below HB3.out (Nat.le_refl _) ⟨xi, xk, xc, xs, xt⟩)
  generalize set5 u3 w.heap.size ⟨xi, xk, xc, xs, xt⟩ = u4 at *
  refine bodyPost_ret (v := .tuple #[val ⟨xi, xk, xc, xs, xt⟩, .bool ok]) (by simp [results, Try.results17, go_sem, val, e0, e1, e2, e3, e4]) rfl ⟨rfl, HE.out⟩
set_option maxRecDepth 100000 in
set_option maxHeartbeats 2000000 in
/-- Sum, of whatever Of tells. -/
theorem sum_core (v : Value) (key : Int) (w : World) (R : List It) (hR : R.length ≤ 1000)
    (ho : Calls Try.prog 12 #[v, .int .i64 key] w fun e w' => ∃ p c, e = .returned (.slice p R.length c) ∧ Lies item w' p R ∧ Below w.heap.size w w') :
    Calls Try.prog 18 #[v, .int .i64 key] w fun e w' => e = .returned (.int .i64 (sums R)) ∧ Below w.heap.size w w' := by
  have HS := Lib.hid (fun (j : Nat) (hj : j < R.length) => sums_at hj)
  have H0 := Lib.hid (show sums [] = 0 from rfl)
  have HF := Lib.hid (show sums R = sums (R.take R.length) by rw [List.take_length])
  generalize hq : sums R = S at *
  clear hq
  generalize sums = SU at *
  have ca := _root_.Go.Proofs.Ytdcclmellabnlaa.Sat.add2
  go_enter Try.func18, Try.ntmps18
  go_wp2_with (go_at_call 12; (with_reducible refine ho.mono ?_); rintro e u1 ⟨p1, d1, rfl, hl1, hb⟩; have HB1 := Lib.hid hb; have HL1 := Lib.hid hl1; clear hl1 hb ho)
  go_loopw [5, 12] (fun s i wr => ∃ j : Nat, j ≤ R.length ∧ i = .int .i64 (j : Int) ∧ s = .int .i64 (SU (R.take j)) ∧ Hid (Below u1.heap.size u1 wr)) (fun _ i _ => R.length - (intOf i).toNat)
  case atStart => exact ⟨0, by omega, rfl, by rw [List.take_zero, H0.out], Lib.hid (Below.refl _ _)⟩
  case round =>
    obtain ⟨j, hj, rfl, rfl, HB⟩ := hrel
    by_cases hlt : j < R.length
    · obtain ⟨b, o, rfl, ha⟩ := lies_at (HL1.out.below HB.out) hlt
      obtain ⟨k0, k1, k2, k3, k4⟩ := at5 ha
      have hlt' : (j : Int) < (R.length : Int) := by omega
      have HE := Lib.hid (HS.out j hlt)
      generalize R.getD j z = x at *
      generalize SU (R.take j) = s0 at *
      have hc := ca s0 x.cost (wr.alloc (.cells #[.int .i64 x.id, .int .i64 x.key, .int .i64 x.cost, .int .i64 x.cls, .int .i64 x.til] 35)) (wr.heap.size + 1) (by simp)
      have HX := Lib.hid (fun (o' : Obj) => (lay wr (.cells #[.int .i64 x.id, .int .i64 x.key, .int .i64 x.cost, .int .i64 x.cls, .int .i64 x.til] 35)).alloc (lay wr (.cells #[.int .i64 x.id, .int .i64 x.key, .int .i64 x.cost, .int .i64 x.cls, .int .i64 x.til] 35)).size o')
      obtain ⟨xi, xk, xc, xs, xt⟩ := x
      simp only at k0 k1 k2 k3 k4 HE hc HX
      clear ha HS ca HL1
      go_wp2_with (go_at_call 36; (with_reducible refine hc.mono ?_); rintro e w2 ⟨rfl, rfl⟩; clear hc)
      go_roundw
      case rel => exact ⟨j + 1, by omega, by go_num, by rw [HE.out], Lib.hid (HB.out.trans ((HX.out _).mono HB.out.size))⟩
      case measure => simp only [intOf]; omega
    · have hlt' : ¬ (j : Int) < (R.length : Int) := by omega
      obtain rfl : j = R.length := by omega
      have HE := Lib.hid HF.out.symm
      generalize SU (R.take R.length) = s0 at *
      clear HS ca HL1 HF
      go_wp2
      go_ret
      exact ⟨by simp; exact HE.out, HB1.out.trans (HB.out.mono HB1.out.size)⟩
theorem nof_any (key : Int) (w : World) : Calls Try.prog 12 #[.pointer none, .int .i64 key] w fun e w' => ∃ p c, e = .returned (.slice p 0 c) ∧ Below w.heap.size w w' := by
  have HB := Lib.hid (lay w (.cells #[.int .i64 key] 3))
  have ha := nall_any (w.alloc (.cells #[.int .i64 key] 3))
  have hcell := cell_of_row _ w.heap.size 0 _ _ (0, 0) (heap_alloc_new w (.cells #[.int .i64 key] 3))
  have HPK := Lib.hid (fun (u : World) (hu : Below (w.alloc (.cells #[.int .i64 key] 3)).heap.size (w.alloc (.cells #[.int .i64 key] 3)) u) => picked_any ent_of (gives_of w.heap.size key) (l := []) (p := none) (d := 0) (.inl rfl) (by simp) (cell_on hcell hu))
  simp only [List.length_nil, List.filter_nil] at HPK
  have HSO := Lib.hid (fun (u : World) (y : Value) (ho : Own item 35 w.heap.size u y []) (hu : w.heap.size ≤ u.heap.size) => sort_own ho hu (by simp))
  clear hcell
  go_enter Try.func12, Try.ntmps12
  go_wp2_with (first
    | (go_at_call 11; (with_reducible refine ha.mono ?_); rintro e u1 ⟨rfl, hb⟩; have HB1 := Lib.hid hb; clear hb ha)
    | (go_at_call 28; (with_reducible refine (HPK.out _ HB1.out).mono ?_); rintro e u2 ⟨y2, rfl, ho, hb⟩; have HB2 := Lib.hid (HB.out.trans ((HB1.out.trans (hb.mono HB1.out.size)).mono HB.out.size)); have HO2 := Lib.hid (Own.lower ho (Nat.le_trans HB.out.size HB1.out.size)); clear ho hb HPK)
    | (go_at_call 30; (with_reducible refine (HSO.out _ _ HO2.out HB2.out.size).mono ?_); rintro e u3 ⟨rfl, ⟨p3, d3, rfl, -⟩, hb⟩; have HB3 := Lib.hid (HB2.out.trans hb); clear hb HSO))
  go_ret
  exact ⟨_, _, rfl, HB3.out⟩
end Go.Proofs.Ytdcclmellabnlaa.Queue
