/-
  EdgePlays returns true, whatever the program's edge is, of many acts or rates, and of a configuration that may not be.
-/
import Derived.Test.YtlbpeeelgpjciaaGreatMgAo
namespace Go.Proofs.YtlbpeeelgpjciaaGreat.Edge
open Go.RowKit
open _root_.Go.Proofs.YtlbpeeelgpjciaaGreat.Codec (lt_of_heap frozen_of heap_set below_new)
open _root_.Go.Proofs.YtlbpeeelgpjciaaGreat.Kit (Enc Lies At Kept Laid Off cell_on lt_heap take_snoc below_drewN box5)
open _root_.Go.Proofs.YtlbpeeelgpjciaaGreat.Lease (Lz Num)
open _root_.Go.Proofs.YtlbpeeelgpjciaaGreat.Queue (It)

set_option maxRecDepth 100000 in
set_option maxHeartbeats 4000000 in
theorem plays_many {PW : Pw} (P : Way14 PW) (W : World) (c : Cf) (p : Option Addr) (k : Nat) (p' : Option Addr) (k' n : Nat) (hl : (80 : Int) < (c.zs.length : Int) ∨ (80 : Int) < (n : Int)) :
    Calls Tryz.prog 3 #[c.val p k, .slice p' n k'] W fun e w' => e = .returned (.bool true) ∧ Below W.heap.size W w' := by
  have ca := fun u => alive_way P u
  clear P
  obtain ⟨cn, csk, ctl, cva, clo, che, cke, cqu, zs⟩ := c
  simp only [Cf.val] at *
  have HB := Lib.hid (lay W (.cells #[.int .i64 cn, .int .i64 csk, .int .i64 ctl, .int .i64 cva, .int .i64 clo, .int .i64 che, .int .i64 cke, .int .i64 cqu, .slice p zs.length k] 24))
  generalize zs.length = z at *
  by_cases hz : (80 : Int) < (z : Int)
  · clear hl
    go_enter Tryz.func3, Tryz.ntmps3
    go_wp2_with (go_at_call 5; (with_reducible refine (ca _).mono ?_); rintro e u2 ⟨rfl, hb⟩; have B2 := Lib.hid (HB.out.trans (hb.mono HB.out.size)); clear hb ca)
    go_ret
    exact ⟨rfl, B2.out⟩
  · have hn : (80 : Int) < (n : Int) := hl.resolve_left hz
    clear hl
    go_enter Tryz.func3, Tryz.ntmps3
    go_wp2_with (go_at_call 5; (with_reducible refine (ca _).mono ?_); rintro e u2 ⟨rfl, hb⟩; have B2 := Lib.hid (HB.out.trans (hb.mono HB.out.size)); clear hb ca)
    go_ret
    exact ⟨rfl, B2.out⟩
set_option maxRecDepth 100000 in
set_option maxHeartbeats 4000000 in
theorem plays_no {PW : Pw} (P : Way14 PW) (W : World) (c : Cf) (p : Option Addr) (k : Nat) (p' : Option Addr) (k' n : Nat) (hz : c.zs.length ≤ 80) (hn : n ≤ 80) (hr : RatesB W.heap.size W p c.zs) (hc : CfNum c) (hk : c.check ≠ 0) :
    Calls Tryz.prog 3 #[c.val p k, .slice p' n k'] W fun e w' => e = .returned (.bool true) ∧ Below W.heap.size W w' := by
  have HB := Lib.hid (lay W (.cells #[.int .i64 c.n, .int .i64 c.sk, .int .i64 c.tl, .int .i64 c.va, .int .i64 c.lo, .int .i64 c.he, .int .i64 c.ke, .int .i64 c.qu, .slice p c.zs.length k] 24))
  have HN := Lib.hid (fun u (hu : Below (W.alloc (.cells #[.int .i64 c.n, .int .i64 c.sk, .int .i64 c.tl, .int .i64 c.va, .int .i64 c.lo, .int .i64 c.he, .int .i64 c.ke, .int .i64 c.qu, .slice p c.zs.length k] 24)).heap.size (W.alloc (.cells #[.int .i64 c.n, .int .i64 c.sk, .int .i64 c.tl, .int .i64 c.va, .int .i64 c.lo, .int .i64 c.he, .int .i64 c.ke, .int .i64 c.qu, .slice p c.zs.length k] 24)) u) => (Conf.nine_new W (.int .i64 c.n) (.int .i64 c.sk) (.int .i64 c.tl) (.int .i64 c.va) (.int .i64 c.lo) (.int .i64 c.he) (.int .i64 c.ke) (.int .i64 c.qu) (.slice p c.zs.length k) 24).stays hu)
  have HRB := Lib.hid (fun u (hu : Below W.heap.size W u) => show RatesB u.heap.size u p c.zs from by
    rcases hr with hr | ⟨b, o, e, hlt, hcs⟩
    · exact .inl hr
    · exact .inr ⟨b, o, e, Nat.lt_of_lt_of_le hlt hu.size, fun i hi => ⟨(hu.cell (p := ⟨b, _, none⟩) hlt).trans (hcs i hi).1, (hu.cell (p := ⟨b, _, none⟩) hlt).trans (hcs i hi).2⟩⟩)
  have c0 := fun u (hu : RatesB u.heap.size u p c.zs) => P.newno c p k u hu (by omega) hc hk
  have c1 := fun u (hu : RatesB u.heap.size u p c.zs) => (rnew_any (k := k) (Nat.le_refl _) hu (by omega)).mono (fun x w' (h : _ ∧ (_ ∨ _)) => show x = .returned (.tuple #[.pointer none, .int .i64 c.check]) ∧ Below u.heap.size u w' from ⟨(h.2.resolve_right fun h2 => hk h2.1).2, h.1⟩)
  have d0 := P.ndrop 1
  have d1 := P.nask zr 1
  have d2 := P.ngrant Lease.z 1
  have d3 := P.nwants
  have d4 := P.nexpire 1
  have d5 := P.nrefuse 1 1
  have d6 := P.ncrash
  have d7 := P.nwaiting
  have d8 := P.nleases
  have d9 := fun u => alive_way P u
  have d10 := P.nclose 1 1
  generalize c.check = ck at *
  obtain ⟨cn, csk, ctl, cva, clo, che, cke, cqu, zs⟩ := c
  simp only [Cf.val, rval, zr, Lease.val, Lease.z] at *
  have hz2 : ¬ (80 : Int) < (zs.length : Int) := by omega
  have hn2 : ¬ (80 : Int) < (n : Int) := by omega
  have hck : (ck != ck) = false := by simp
  have hck2 : (ck != 0) = true := by simpa using hk
  have hck3 : (ck == 0) = false := by simpa using hk
  generalize zs.length = z at *
  clear P hr hc hk hz hn
  go_enter Tryz.func3, Tryz.ntmps3
  go_wp2_with (first
    | (go_at_call 6; (with_reducible refine (c0 _ (HRB.out _ HB.out)).mono ?_); rintro e u0 ⟨rfl, hb⟩; have B0 := Lib.hid (HB.out.trans (hb.mono HB.out.size)); obtain ⟨x0, x1, x2, x3, x4, x5, x6, x7, x8⟩ := HN.out _ hb; clear hb c0)
    | (go_at_call 7; (with_reducible refine (c1 _ (HRB.out _ B0.out)).mono ?_); rintro e u1 ⟨rfl, hb⟩; have B1 := Lib.hid (B0.out.trans (hb.mono B0.out.size)); clear hb c1))
  go_loop [9] (fun i => i = .int .i64 0) (fun _ => 0)
  case atStart => exact rfl
  case round =>
    obtain rfl := hrel
    have hor : ((0 : Int) < (n : Int)) ∨ ¬ ((0 : Int) < (n : Int)) := Decidable.em _
    clear x0 x1 x2 x3 x4 x5 x6 x7 x8 HN HRB
    rcases hor with h0 | h0
    all_goals
      go_wp2_with (first
        | (go_at_call 18; (with_reducible refine (d0 _).mono ?_); rintro e u2 ⟨rfl, hb⟩; have B2 := Lib.hid (B1.out.trans (hb.mono B1.out.size)); clear hb d0)
        | (go_at_call 19; (with_reducible refine (d1 _).mono ?_); rintro e u3 ⟨p3, k3, rfl, hb⟩; have B3 := Lib.hid (B2.out.trans (hb.mono B2.out.size)); clear hb d1)
        | (go_at_call 20; (with_reducible refine (d2 _).mono ?_); rintro e u4 ⟨p4, k4, rfl, hb⟩; have B4 := Lib.hid (B3.out.trans (hb.mono B3.out.size)); clear hb d2)
        | (go_at_call 21; (with_reducible refine (d3 _).mono ?_); rintro e u5 ⟨p5, k5, rfl, hb⟩; have B5 := Lib.hid (B4.out.trans (hb.mono B4.out.size)); clear hb d3)
        | (go_at_call 22; (with_reducible refine (d4 _).mono ?_); rintro e u6 ⟨p6, k6, rfl, hb⟩; have B6 := Lib.hid (B5.out.trans (hb.mono B5.out.size)); clear hb d4)
        | (go_at_call 23; (with_reducible refine (d5 _).mono ?_); rintro e u7 ⟨p7, k7, rfl, hb⟩; have B7 := Lib.hid (B6.out.trans (hb.mono B6.out.size)); clear hb d5)
        | (go_at_call 24; (with_reducible refine (d6 _).mono ?_); rintro e u8 ⟨p8, k8, rfl, hb⟩; have B8 := Lib.hid (B7.out.trans (hb.mono B7.out.size)); clear hb d6)
        | (go_at_call 13; (with_reducible refine (d7 _).mono ?_); rintro e u9 ⟨p9, k9, rfl, hb⟩; have B9 := Lib.hid (B8.out.trans (hb.mono B8.out.size)); clear hb d7)
        | (go_at_call 16; (with_reducible refine (d8 _).mono ?_); rintro e u10 ⟨p10, k10, rfl, hb⟩; have B10 := Lib.hid (B9.out.trans (hb.mono B9.out.size)); clear hb d8)
        | (go_at_call 5; (with_reducible refine (d9 _).mono ?_); rintro e u11 ⟨rfl, hb⟩; have B11 := Lib.hid (B10.out.trans (hb.mono B10.out.size)); clear hb d9)
        | (go_at_call 25; (with_reducible refine (d10 _).mono ?_); rintro e u12 ⟨rfl, hb⟩; have B12 := Lib.hid (B11.out.trans (hb.mono B11.out.size)); clear hb d10))
      go_ret
      exact ⟨rfl, B12.out⟩
end Go.Proofs.YtlbpeeelgpjciaaGreat.Edge
