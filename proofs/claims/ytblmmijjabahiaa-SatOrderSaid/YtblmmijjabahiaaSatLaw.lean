/-
  For all ints a, b, more the law SatOrder returns true and leaves its arguments as they were. No condition.
-/
import Derived.Test.YtblmmijjabahiaaRows
import Derived.Test.YtblmmijjabahiaaSatWalks
import Derived.WalkKit
import Derived.ProofKit
import Derived.OpenShut
namespace Go.Proofs.Ytblmmijjabahiaa.satOrder
open Go.ChangeShapes Go.WideShapes Go.ChangeAt Go.RowKit Sat

theorem grown_trans {a b c : World} (h1 : Grown a b) (h2 : Grown b c) : Grown a c :=
  ⟨World.keptBut_trans h1.1 h2.1, fun x => (h2.2.1 x).trans (h1.2.1 x), Nat.le_trans h1.2.2 h2.2.2⟩

theorem alive_any (w : World) :
    Calls Try.prog 19 #[] w fun e w' => e = .returned (.bool true) ∧ Grown w w' := by
  have t1 : (add [4611686018427387904, 5, -3] == 4611686018427387904) = true := by decide
  have t2 : (add [2, 3] == 5) = true := by decide
  have t3 : (Sat.sub 2 5 == 0) = true := by decide
  have t4 : (mul 1099511627776 1073741824 == 4611686018427387904) = true := by decide
  have t5 : (mul 6 7 == 42) = true := by decide
  have t6 : (ceil 7 2 == 4) = true := by decide
  have t7 : (clamp 9 1 4 == 4) = true := by decide
  go_enter Try.func19, Try.ntmps19
  go_wp2_with (first
    | (go_at_call 15; (first | (with_reducible refine (add3 _ _ _ _ _ ?hb).mono ?_) | (with_reducible refine (add2 _ _ _ _ ?hb).mono ?_)); (case hb => simp); rintro e w' ⟨rfl, rfl⟩)
    | (go_at_call 17; ((with_reducible refine (sub_any _ _ _).mono ?_)); rintro e w' ⟨rfl, rfl⟩)
    | (go_at_call 16; ((with_reducible refine (mul_any _ _ _).mono ?_)); rintro e w' ⟨rfl, rfl⟩)
    | (go_at_call 18; ((with_reducible refine (ceil_any _ _ _).mono ?_)); rintro e w' ⟨rfl, rfl⟩)
    | (go_at_call 71; ((with_reducible refine (clamp_any _ _ _ _).mono ?_)); rintro e w' ⟨rfl, rfl⟩))
  go_ret
  exact ⟨rfl, by repeat (first | exact Grown.refl _ | apply Grown.drew | apply Grown.alloc)⟩

set_option maxRecDepth 100000 in
set_option maxHeartbeats 1000000 in
theorem walk (a0 : Int) (a1 : Int) (a2 : Int) (w : World) :
    Calls Try.prog 3 #[.int .i64 a0, .int .i64 a1, .int .i64 a2] w fun e w' => e = .returned (.bool true) ∧ Grown w w' := by
  have c1 : (add [a0, a1] != add [a1, a0]) = false := by rw [Sat.add_comm]; simp
  have c2 : (mul a0 a1 != mul a1 a0) = false := by rw [Sat.mul_comm]; simp
  have c3 := law_add a0 a1 a2
  have c4 := law_mul a0 a1 a2
  have x0 := fit_lo a0
  have x1 := fit_hi a0
  have y0 := fit_lo a1
  have s1 := add_hi [a0, a1]
  have b1 := mul_hi (ceil a0 a1) a1
  have u1 := add_hi [fit a0, fit a1]
  have hsub : add [a0, a1] < 4611686018427387904 → (Sat.sub (add [a0, a1]) a0 != fit a1) = false := fun h => by rw [law_sub _ _ h]; simp
  have HS := Lib.hid hsub; clear hsub
  have hend : (fit a1 == 0) = true ∧ (ceil a0 a1 == 4611686018427387904) = true ∨ (fit a1 == 0) = false ∧ 0 < fit a1 ∧ ((mul (ceil a0 a1) a1 == 4611686018427387904) = true ∧ fit a0 ≤ mul (ceil a0 a1) a1 ∧ add [fit a0, fit a1] ≤ mul (ceil a0 a1) a1 ∨ fit a0 ≤ mul (ceil a0 a1) a1 ∧ mul (ceil a0 a1) a1 < add [fit a0, fit a1]) := by
    by_cases hy : fit a1 = 0
    · exact Or.inl ⟨beq_iff_eq.2 hy, beq_iff_eq.2 (law_ceil_zero a0 a1 hy)⟩
    · refine Or.inr ⟨beq_eq_false_iff_ne.2 hy, by omega, ?_⟩
      by_cases hb : mul (ceil a0 a1) a1 = 4611686018427387904
      · exact Or.inl ⟨beq_iff_eq.2 hb, by omega, by omega⟩
      · exact Or.inr (law_ceil a0 a1 (by omega) hb)
  have hs : add [a0, a1] < 4611686018427387904 ∧ (Sat.sub (add [a0, a1]) a0 != fit a1) = false ∨ ¬ add [a0, a1] < 4611686018427387904 := by
    by_cases h : add [a0, a1] < 4611686018427387904
    · exact Or.inl ⟨h, HS.out h⟩
    · exact Or.inr h
  clear HS
  rcases hs with ⟨s2, s3⟩ | s2 <;> rcases hend with ⟨y1, q1⟩ | ⟨y1, y2, ⟨q1, q2, q3⟩ | ⟨q1, q2⟩⟩
  all_goals
    go_enter Try.func3, Try.ntmps3
    go_wp2_with (first
      | (go_at_call 14; ((with_reducible refine (fit_any _ _).mono ?_)); rintro e w' ⟨rfl, rfl⟩)
      | (go_at_call 15; ((with_reducible refine (add2 _ _ _ _ ?hb).mono ?_)); (case hb => simp); rintro e w' ⟨rfl, rfl⟩)
      | (go_at_call 17; ((with_reducible refine (sub_any _ _ _).mono ?_)); rintro e w' ⟨rfl, rfl⟩)
      | (go_at_call 16; ((with_reducible refine (mul_any _ _ _).mono ?_)); rintro e w' ⟨rfl, rfl⟩)
      | (go_at_call 18; ((with_reducible refine (ceil_any _ _ _).mono ?_)); rintro e w' ⟨rfl, rfl⟩)
      | (go_at_call 19; ((with_reducible refine (alive_any _).mono ?_)); rintro e w' ⟨rfl, hg⟩))
    go_ret
    exact ⟨rfl, by repeat (first | exact Grown.refl _ | (with_reducible refine grown_trans ?_ hg) | apply Grown.drew | apply Grown.alloc)⟩

theorem own : ownKnob Try.prog.godebug = none := by kernel_rfl

/-! ### From the walk to the row -/
set_option maxRecDepth 100000 in
theorem lifted (os : Os) (started : os.Started) (H : Type) (enc : TypeId × Value → H) :
    ReturnsInHanded {} Try.checked os 3 .any (Rows.satOrderSpec.pre6 enc Try.prog Try.f3 Rows.satOrderRow.domain false) (Rows.satOrderSpec.post enc Try.prog Try.f3 false true false false) := by
  refine returnsInHanded_of_change (C := Try.checked) own started (by kernel_rfl) Try.func3
    (ChangeSpec.witness6 (enc := enc) (C := Try.checked) false ⟨#[], #[.int .i64 0, .int .i64 0, .int .i64 0], []⟩ 8 (by kernel_rfl) (by kernel_rfl) (by kernel_rfl) (by kernel_rfl)) ?_
  intro W base args ds gs before hval0 hW hcnd _
  have hval : ∀ (j : Nat) t v, Try.f3.params[j]? = some t → args[j]? = some v → Value.okWide Try.prog W .any base t v := hval0
  have hW' := hW
  obtain ⟨p, q, hA0, hV, rfl, hfz, hnd⟩ := hW
  have hA : DataW.TrodAll enc Try.prog W 0 (fun _ => true) true Try.f3.params.toList args.toList ds p := hA0
  rw [Try.params3] at hA hval
  obtain ⟨v0, vs0, d0, ds0, p0, q0, hargs, rfl, rfl, h0, r0⟩ := trodAll_cons hA
  obtain ⟨v1, vs1, d1, ds1, p1, q1, rfl, rfl, rfl, h1, r1⟩ := trodAll_cons r0
  obtain ⟨v2, vs2, d2, ds2, p2, q2, rfl, rfl, rfl, h2, r2⟩ := trodAll_cons r1
  obtain ⟨rfl, rfl, rfl⟩ := trodAll_nil r2
  obtain rfl : args = #[v0, v1, v2] := by cases args; simp_all
  obtain ⟨rfl, rfl⟩ := trodVars_none hV
  obtain ⟨a0, rfl, rfl, rfl, w0⟩ := open_int Try.underlying3 (hval 0 3 v0 rfl rfl) h0
  obtain ⟨a1, rfl, rfl, rfl, w1⟩ := open_int Try.underlying3 (hval 1 3 v1 rfl rfl) h1
  obtain ⟨a2, rfl, rfl, rfl, w2⟩ := open_int Try.underlying3 (hval 2 3 v2 rfl rfl) h2
  clear hA0 hval0
  simp only [List.append_nil] at hW'
  refine (walk a0 a1 a2 W).mono fun e W' ⟨he, hg⟩ => ?_
  subst he
  exact ⟨_, rfl, post_of_same (pa := []) (pv := []) hW' (fun _ _ _ => (trodAll_cons_mk (shut_bool Try.underlying4 _) trodAll_mk0)) (fun sp _ => (trodAll_cons_mk (shut_int Try.underlying3 w0) (trodAll_cons_mk (shut_int Try.underlying3 w1) (trodAll_cons_mk (shut_int Try.underlying3 w2) trodAll_mk0)))) (fun _ _ => rfl) rfl
    (hg.frame _) hg.2.1 (ok_one (by kernel_rfl) rfl (okWide_bool_mk Try.underlying4 _))⟩

theorem over : Rows.satOrderRow.holds Try.pinned (OpenSpec.ofChange Rows.satOrderSpec) :=
  OpenClaim.holds_of_wide 3 Try.f3 rfl rfl rfl rfl rfl rfl rfl ⟨rfl, rfl, rfl, rfl, rfl⟩ rfl rfl rfl rfl rfl (by kernel_rfl) Try.func3 (by kernel_rfl)
    (of_decide_eq_true (by kernel_rfl)) (by unfold Func.isWrapper; first | (rw [if_pos (by decide +kernel)]; kernel_rfl) | (rw [if_neg (by decide +kernel)]; exact ⟨rfl, rfl⟩))
    (fun os started H enc _ => lifted os started H enc)

/-- The given statement. -/
theorem proved : Rows.SatOrderSaid :=
  over
#print axioms proved
end Go.Proofs.Ytblmmijjabahiaa.satOrder
