/-
  For every size, all numbers above and all nodes the law ConfOther returns true and leaves its arguments as they were. No condition.
-/
import Derived.Test.YtblmmijjabahiaaRows
import Derived.Test.YtblmmijjabahiaaConfAlive
import Derived.Test.YtblmmijjabahiaaLawRow
import Derived.Test.YtblmmijjabahiaaRingRow
namespace Go.Proofs.Ytblmmijjabahiaa.confOther
open Go.ChangeShapes Go.WideShapes Go.ChangeAt Go.RowKit Conf

set_option maxRecDepth 100000 in
set_option maxHeartbeats 1000000 in
theorem core (s x0 x1 u0 u1 a e b f : Int) (w : World) (s0 : 0 ≤ s) (s1 : s < 256) (p0 : 0 ≤ u0) (p1 : u0 < 256) (q0 : 0 ≤ u1) (q1 : u1 < 256)
    (cR : ∀ u, Calls Try.prog 55 #[.int .i64 (s % 64 + 1)] u fun e w' => e = .returned (.bool true) ∧ u = w')
    (cN : ∀ u, Calls Try.prog 51 #[.int .i64 (s % 64 + 1), .int .i64 x0, .int .i64 (u0 % (s % 64 + 1))] u fun r w' => r = .returned (.tuple #[.int .i64 a, .int .i64 e]) ∧ u = w')
    (cM : ∀ u, Calls Try.prog 51 #[.int .i64 (s % 64 + 1), .int .i64 x1, .int .i64 (u1 % (s % 64 + 1))] u fun r w' => r = .returned (.tuple #[.int .i64 b, .int .i64 f]) ∧ u = w')
    (cO : e = 0 → ∀ u, Calls Try.prog 53 #[.int .i64 (s % 64 + 1), .int .i64 a] u fun r w' => r = .returned (.int .i64 (u0 % (s % 64 + 1))) ∧ u = w')
    (h : (e = 6 ∧ a = 0) ∨ (e = 0 ∧ x0 < a ∧ s % 64 + 1 ≤ a ∧ ((f = 6) ∨ (f = 0 ∧ (u0 % (s % 64 + 1) == u1 % (s % 64 + 1)) = true) ∨ (f = 0 ∧ (u0 % (s % 64 + 1) == u1 % (s % 64 + 1)) = false ∧ (a == b) = false)))) :
    Calls Try.prog 10 #[.int .u8 s, .agg #[.int .i64 x0, .int .i64 x1], .agg #[.int .u8 u0, .int .u8 u1]] w fun e w' => e = .returned (.bool true) ∧ Below w.heap.size w w' := by
  rcases h with ⟨rfl, rfl⟩ | ⟨rfl, h1, h2, h⟩
  · clear cO
    go_enter Try.func10, Try.ntmps10
    go_wp2_with (first
      | (go_at_call 55; ((with_reducible refine (cR _).mono ?_)); rintro e w' ⟨rfl, rfl⟩)
      | (go_at_call 51; (first | (with_reducible refine (cN _).mono ?_) | (with_reducible refine (cM _).mono ?_)); rintro e w' ⟨rfl, rfl⟩)
      | (go_at_call 39; ((with_reducible refine (Conf.alive_any _).mono ?_)); rintro e w' ⟨rfl, hg⟩))
    go_ret
    exact ⟨rfl, ((below_new _ _).trans ((below_new _ _).mono (by simp))).trans (hg.mono (by simp; omega))⟩
  · have cP := cO rfl
    clear cO
    rcases h with rfl | ⟨rfl, h3⟩ | ⟨rfl, h3, h4⟩
    all_goals
      go_enter Try.func10, Try.ntmps10
      go_wp2_with (first
        | (go_at_call 55; ((with_reducible refine (cR _).mono ?_)); rintro e w' ⟨rfl, rfl⟩)
        | (go_at_call 51; (first | (with_reducible refine (cN _).mono ?_) | (with_reducible refine (cM _).mono ?_)); rintro e w' ⟨rfl, rfl⟩)
        | (go_at_call 53; ((with_reducible refine (cP _).mono ?_)); rintro e w' ⟨rfl, rfl⟩)
        | (go_at_call 39; ((with_reducible refine (Conf.alive_any _).mono ?_)); rintro e w' ⟨rfl, hg⟩))
      go_ret
      exact ⟨by first | rfl | exact Ring.ret_bool (by unfold bne; rw [h4]; rfl), ((below_new _ _).trans ((below_new _ _).mono (by simp))).trans (hg.mono (by simp; omega))⟩

theorem walk (s : Int) (ws : (Lit.int .u8 s).wf = true) (x0 x1 : Int) (_w0 : (Lit.int .i64 x0).wf = true) (_w1 : (Lit.int .i64 x1).wf = true) (u0 u1 : Int) (v0 : (Lit.int .u8 u0).wf = true) (v1 : (Lit.int .u8 u1).wf = true) (w : World) :
    Calls Try.prog 10 #[.int .u8 s, .agg #[.int .i64 x0, .int .i64 x1], .agg #[.int .u8 u0, .int .u8 u1]] w fun e w' => e = .returned (.bool true) ∧ Below w.heap.size w w' := by
  have s0 := Ring.wf_lo8 ws; have s1 := Ring.wf_hi8 ws
  have p0 := Ring.wf_lo8 v0; have p1 := Ring.wf_hi8 v0
  have q0 := Ring.wf_lo8 v1; have q1 := Ring.wf_hi8 v1
  have n1 : 1 ≤ s % 64 + 1 := by omega
  have n2 : s % 64 + 1 ≤ 64 := by omega
  have i0 := Int.emod_nonneg u0 (by omega : s % 64 + 1 ≠ 0)
  have i1 := Int.emod_lt_of_pos u0 (by omega : 0 < s % 64 + 1)
  have k0 := Int.emod_nonneg u1 (by omega : s % 64 + 1 ≠ 0)
  have k1 := Int.emod_lt_of_pos u1 (by omega : 0 < s % 64 + 1)
  have ok : Ring.okRing (s % 64 + 1) = true := within_yes n1 n2
  have hR : ∀ u, Calls Try.prog 55 #[.int .i64 (s % 64 + 1)] u fun e w' => e = .returned (.bool true) ∧ u = w' := fun u => by
    have h := Ring.right_any (s % 64 + 1) u; rwa [ok] at h
  refine core s x0 x1 u0 u1 _ _ _ _ w s0 s1 p0 p1 q0 q1 hR (fun u => next_any _ _ _ u) (fun u => next_any _ _ _ u) ?_ ?_
  all_goals generalize s % 64 + 1 = n at *
  all_goals generalize u0 % n = i at *
  all_goals generalize u1 % n = k at *
  · intro he u
    have h := owner_any n (next n x0 i).1 u
    have hn : next n x0 i = (bal n x0 i, 0) ∧ ¬ 1099511627776 < bal n x0 i := by
      by_cases c1 : 1099511627776 ≤ x0
      · rw [next_far ⟨n1, n2, i0, i1⟩ c1] at he; cases he
      · by_cases c2 : 1099511627776 < bal n x0 i
        · rw [next_over ⟨n1, n2, i0, i1⟩ c1 c2] at he; cases he
        · exact ⟨next_ok ⟨n1, n2, i0, i1⟩ c1 c2, c2⟩
    have ho : owner n (next n x0 i).1 = i := by
      rw [hn.1]
      unfold owner
      rw [if_pos ⟨n1, n2, bal_lo n1 i0, by have := hn.2; omega⟩]
      exact bal_mod i0 i1
    rwa [ho] at h
  · by_cases c1 : 1099511627776 ≤ x0
    · exact .inl (by rw [next_far ⟨n1, n2, i0, i1⟩ c1]; exact ⟨rfl, rfl⟩)
    · by_cases c2 : 1099511627776 < bal n x0 i
      · exact .inl (by rw [next_over ⟨n1, n2, i0, i1⟩ c1 c2]; exact ⟨rfl, rfl⟩)
      · refine .inr ?_
        rw [next_ok ⟨n1, n2, i0, i1⟩ c1 c2]
        refine ⟨rfl, bal_above n1, bal_lo n1 i0, ?_⟩
        by_cases d1 : 1099511627776 ≤ x1
        · exact .inl (by rw [next_far ⟨n1, n2, k0, k1⟩ d1])
        · by_cases d2 : 1099511627776 < bal n x1 k
          · exact .inl (by rw [next_over ⟨n1, n2, k0, k1⟩ d1 d2])
          · rw [next_ok ⟨n1, n2, k0, k1⟩ d1 d2]
            by_cases hik : i = k
            · exact .inr (.inl ⟨rfl, beq_iff_eq.2 hik⟩)
            · refine .inr (.inr ⟨rfl, beq_eq_false_iff_ne.2 hik, beq_eq_false_iff_ne.2 fun hab => hik ?_⟩)
              have h1 := bal_mod (above := x0) i0 i1
              have h2 := bal_mod (above := x1) k0 k1
              rw [← h1, ← h2]
              exact congrArg (· % n) hab

theorem own : ownKnob Try.prog.godebug = none := by kernel_rfl

set_option maxRecDepth 100000 in
theorem lifted (os : Os) (started : os.Started) (H : Type) (enc : TypeId × Value → H) :
    ReturnsInHanded {} Try.checked os 10 .any (Rows.confOtherSpec.pre6 enc Try.prog Try.f10 Rows.confOtherRow.domain false) (Rows.confOtherSpec.post enc Try.prog Try.f10 false true false false) := by
  refine returnsInHanded_of_change (C := Try.checked) own started (by kernel_rfl) Try.func10
    (ChangeSpec.witness6 (enc := enc) (C := Try.checked) false ⟨#[], #[.int .u8 0, .agg #[.int .i64 0, .int .i64 0], .agg #[.int .u8 0, .int .u8 0]], []⟩ 16 (by kernel_rfl) (by kernel_rfl) (by kernel_rfl) (by kernel_rfl)) ?_
  intro W base args ds gs before hval0 hW hcnd _
  have hval : ∀ (j : Nat) t v, Try.f10.params[j]? = some t → args[j]? = some v → Value.okWide Try.prog W .any base t v := hval0
  have hW' := hW
  obtain ⟨p, q, hA0, hV, rfl, hfz, hnd⟩ := hW
  have hA : DataW.TrodAll enc Try.prog W 0 (fun _ => true) true Try.f10.params.toList args.toList ds p := hA0
  rw [Try.params10] at hA hval
  obtain ⟨v0, vs0, d0, ds0, p0, q0, hargs, rfl, rfl, h0, r0⟩ := trodAll_cons hA
  obtain ⟨v1, vs1, d1, ds1, p1, q1, rfl, rfl, rfl, h1, r1⟩ := trodAll_cons r0
  obtain ⟨v2, vs2, d2, ds2, p2, q2, rfl, rfl, rfl, h2, r2⟩ := trodAll_cons r1
  obtain ⟨rfl, rfl, rfl⟩ := trodAll_nil r2
  obtain rfl : args = #[v0, v1, v2] := by cases args; simp_all
  obtain ⟨rfl, rfl⟩ := trodVars_none hV
  obtain ⟨a0, rfl, -, -, w0⟩ := open_int Try.underlying5 (hval 0 5 v0 rfl rfl) h0
  obtain ⟨x1, y1, rfl, w1, z1⟩ := Row.open_two Try.underlying59 Try.underlying3 (by kernel_rfl) (by kernel_rfl) (hval 1 59 v1 rfl rfl) h1
  obtain ⟨x2, y2, rfl, w2, z2⟩ := Row.open_two Try.underlying64 Try.underlying5 (by kernel_rfl) (by kernel_rfl) (hval 2 64 v2 rfl rfl) h2
  clear hA0 hval0
  refine (walk a0 w0 x1 y1 w1 z1 x2 y2 w2 z2 W).mono fun e W' ⟨he, hg⟩ => ?_
  subst he
  exact ⟨_, rfl, Row.law_post hW' rfl rfl rfl rfl (by kernel_rfl) Try.underlying4 (by kernel_rfl) (by kernel_rfl) hg⟩

theorem over : Rows.confOtherRow.holds Try.pinned (OpenSpec.ofChange Rows.confOtherSpec) :=
  OpenClaim.holds_of_wide 10 Try.f10 rfl rfl rfl rfl rfl rfl rfl ⟨rfl, rfl, rfl, rfl, rfl⟩ rfl rfl rfl rfl rfl (by kernel_rfl) Try.func10 (by kernel_rfl)
    (of_decide_eq_true (by kernel_rfl)) (by unfold Func.isWrapper; first | (rw [if_pos (by decide +kernel)]; kernel_rfl) | (rw [if_neg (by decide +kernel)]; exact ⟨rfl, rfl⟩))
    (fun os started H enc _ => lifted os started H enc)

/-- The given statement. -/
theorem proved : Rows.ConfOtherSaid :=
  over
#print axioms proved
end Go.Proofs.Ytblmmijjabahiaa.confOther
