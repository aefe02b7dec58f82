/-
  What is asked of the program's clock; with it the live question of layer 8, ClockTells and ClockSkew return true for all ints.
-/
import Derived.Test.YtncpmdoljiinkaaClockRef
import Derived.Deep.RegionHeld3
namespace Go.Proofs.Ytncpmdoljiinkaa.Clock
open Go.RowKit
open _root_.Go.Proofs.Ytncpmdoljiinkaa.Sat (fit add sub fit_lo fit_hi fit_self rfit_any rtwo_any rsub_any radd_any rret_int)

/-- An int. -/
def Num (x : Int) : Prop := -9223372036854775808 ≤ x ∧ x ≤ 9223372036854775807
theorem num_fit (x : Int) : Num (fit x) := by have := fit_lo x; have := fit_hi x; unfold Num; omega
theorem num_wf {a : Int} (h : (Lit.int .i64 a).wf = true) : Num a := by simp [Lit.wf, IntKind.min, IntKind.max, IntKind.signed, IntKind.bits] at h; unfold Num; omega

structure Way8 : Prop where
  read : ∀ (a b c : Int) (w : World), Num a → Num b → Num c → Calls Try.prog 6 #[.int .i64 a, .int .i64 b, .int .i64 c] w fun e w' => e = .returned (.int .i64 (cread a b c)) ∧ Below w.heap.size w w'
  passed : ∀ (a b c : Int) (w : World), Num a → Num b → Num c → Calls Try.prog 8 #[.int .i64 a, .int .i64 b, .int .i64 c] w fun e w' => e = .returned (.bool (cpassed a b c)) ∧ Below w.heap.size w w'
  left : ∀ (a b c : Int) (w : World), Num a → Num b → Num c → Calls Try.prog 10 #[.int .i64 a, .int .i64 b, .int .i64 c] w fun e w' => e = .returned (.int .i64 (cleft a b c)) ∧ Below w.heap.size w w'

theorem k1 : cread 50 (-9) 4 = 46 := by decide
theorem k2 : cread 50 3 4 = 53 := by decide
theorem k3 : cread 2 (-9) 4 = 0 := by decide
theorem k4 : cpassed 10 15 5 = true := by decide
theorem k5 : cpassed 10 14 5 = false := by decide
theorem k6 : cleft 10 12 5 = 3 := by decide
set_option maxRecDepth 100000 in
theorem alive_way (P : Way8) (w : World) : Calls Try.prog 5 #[] w fun e w' => e = .returned (.bool true) ∧ Below w.heap.size w w' := by
  have n : ∀ x : Int, -100 ≤ x ∧ x ≤ 100 → Num x := fun x h => by unfold Num; omega
  have r1 := fun u => P.read 50 (-9) 4 u (n _ (by omega)) (n _ (by omega)) (n _ (by omega))
  have r2 := fun u => P.read 50 3 4 u (n _ (by omega)) (n _ (by omega)) (n _ (by omega))
  have r3 := fun u => P.read 2 (-9) 4 u (n _ (by omega)) (n _ (by omega)) (n _ (by omega))
  have r4 := fun u => P.passed 10 15 5 u (n _ (by omega)) (n _ (by omega)) (n _ (by omega))
  have r5 := fun u => P.passed 10 14 5 u (n _ (by omega)) (n _ (by omega)) (n _ (by omega))
  have r6 := fun u => P.left 10 12 5 u (n _ (by omega)) (n _ (by omega)) (n _ (by omega))
  rw [k1] at r1
  rw [k2] at r2
  rw [k3] at r3
  rw [k4] at r4
  rw [k5] at r5
  rw [k6] at r6
  have B0 := Lib.hid (Below.refl w.heap.size w)
  go_enter Try.func5, Try.ntmps5
  go_wp2_with (first
    | (go_at_call 6; (with_reducible refine (r1 _).mono ?_); rintro e u1 ⟨rfl, hb⟩; have B1 := Lib.hid (B0.out.trans (hb.mono B0.out.size)); clear hb r1)
    | (go_at_call 6; (with_reducible refine (r2 _).mono ?_); rintro e u2 ⟨rfl, hb⟩; have B2 := Lib.hid (B1.out.trans (hb.mono B1.out.size)); clear hb r2)
    | (go_at_call 6; (with_reducible refine (r3 _).mono ?_); rintro e u3 ⟨rfl, hb⟩; have B3 := Lib.hid (B2.out.trans (hb.mono B2.out.size)); clear hb r3)
    | (go_at_call 8; (with_reducible refine (r4 _).mono ?_); rintro e u4 ⟨rfl, hb⟩; have B4 := Lib.hid (B3.out.trans (hb.mono B3.out.size)); clear hb r4)
    | (go_at_call 8; (with_reducible refine (r5 _).mono ?_); rintro e u5 ⟨rfl, hb⟩; have B5 := Lib.hid (B4.out.trans (hb.mono B4.out.size)); clear hb r5)
    | (go_at_call 10; (with_reducible refine (r6 _).mono ?_); rintro e u6 ⟨rfl, hb⟩; have B6 := Lib.hid (B5.out.trans (hb.mono B5.out.size)); clear hb r6))
  go_ret
  exact ⟨rfl, B6.out⟩

set_option maxRecDepth 100000 in
theorem tells_way (P : Way8) (a b c : Int) (ha : Num a) (hb : Num b) (hc : Num c) (w : World) :
    Calls Try.prog 3 #[.int .i64 a, .int .i64 b, .int .i64 c] w fun e w' => e = .returned (.bool true) ∧ Below w.heap.size w w' := by
  have r1 := fun u => P.read a b c u ha hb hc
  have r2 := fun u => P.passed a b c u ha hb hc
  have r3 := fun u => P.left a b c u ha hb hc
  have q1 := rread_any a b c hb.1
  have q2 := rpassed_any a b c
  have q3 := rleft_any a b c
  have al := alive_way P
  generalize cread a b c = x at *
  generalize cpassed a b c = y at *
  generalize cleft a b c = z at *
  clear ha hb hc P
  cases y
  all_goals
    go_enter Try.func3, Try.ntmps3
    go_wp2_with (first
      | (go_at_call 5; (with_reducible refine (al _).mono ?_); rintro e u1 ⟨rfl, hb⟩; have B1 := Lib.hid hb; clear hb)
      | (go_at_call 6; (with_reducible refine (r1 _).mono ?_); rintro e u2 ⟨rfl, hb⟩; have B2 := Lib.hid (B1.out.trans (hb.mono B1.out.size)); clear hb)
      | (go_at_call 7; (with_reducible refine (q1 _).mono ?_); rintro e u ⟨rfl, rfl⟩)
      | (go_at_call 8; (with_reducible refine (r2 _).mono ?_); rintro e u3 ⟨rfl, hb⟩; have B3 := Lib.hid (B2.out.trans (hb.mono B2.out.size)); clear hb)
      | (go_at_call 9; (with_reducible refine (q2 _).mono ?_); rintro e u ⟨rfl, rfl⟩)
      | (go_at_call 10; (with_reducible refine (r3 _).mono ?_); rintro e u4 ⟨rfl, hb⟩; have B4 := Lib.hid (B3.out.trans (hb.mono B3.out.size)); clear hb)
      | (go_at_call 11; (with_reducible refine (q3 _).mono ?_); rintro e u ⟨rfl, rfl⟩))
    go_ret
    exact ⟨rfl, B4.out⟩
end Go.Proofs.Ytncpmdoljiinkaa.Clock
