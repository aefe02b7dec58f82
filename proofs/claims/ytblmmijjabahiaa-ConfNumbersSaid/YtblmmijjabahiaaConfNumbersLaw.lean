/-
  For every policy, name, number of nodes, number and node the law ConfNumbers returns true and leaves its arguments as they were. No condition.
-/
import Derived.Test.YtblmmijjabahiaaRows
import Derived.Test.YtblmmijjabahiaaConfAlive
import Derived.Test.YtblmmijjabahiaaLawRow
import Derived.Test.YtblmmijjabahiaaRingRow
import Derived.Deep.RegionHeld3
namespace Go.Proofs.Ytblmmijjabahiaa.confNumbers
open Go.ChangeShapes Go.WideShapes Go.ChangeAt Go.RowKit Conf

set_option maxRecDepth 100000 in
set_option maxHeartbeats 2000000 in
theorem core (p m n a d k e x f o : Int) (w : World)
    (cK : ∀ u, Calls Try.prog 50 #[.int .i64 p, .int .i64 m] u fun r w' => r = .returned (.tuple #[.int .i64 k, .int .i64 e]) ∧ u = w')
    (cN : ∀ u, Calls Try.prog 51 #[.int .i64 n, .int .i64 a, .int .i64 d] u fun r w' => r = .returned (.tuple #[.int .i64 x, .int .i64 f]) ∧ u = w')
    (rN : ∀ u, Calls Try.prog 52 #[.int .i64 n, .int .i64 a, .int .i64 d] u fun r w' => r = .returned (.tuple #[.int .i64 x, .int .i64 f]) ∧ u = w')
    (cO : ∀ u, Calls Try.prog 53 #[.int .i64 n, .int .i64 a] u fun r w' => r = .returned (.int .i64 o) ∧ u = w')
    (rO : ∀ u, Calls Try.prog 54 #[.int .i64 n, .int .i64 a] u fun r w' => r = .returned (.int .i64 o) ∧ u = w')
    (cA : ∀ u : World, (u.cell? ⟨w.heap.size + 1, 0, none⟩ = some (.int .i64 a) ∧ Below w.heap.size w u) → Calls Try.prog 39 #[] u fun r W => r = .returned (.bool true) ∧ (W.cell? ⟨w.heap.size + 1, 0, none⟩ = some (.int .i64 a) ∧ Below w.heap.size w W))
    (h : (0 ≤ p ∧ p < 8 ∧ 0 ≤ m ∧ m ≤ 65535 ∧ e = 0 ∧ k = 65536 * p + m) ∨ ((p < 0 ∨ (0 ≤ p ∧ 8 ≤ p) ∨ (0 ≤ p ∧ p < 8 ∧ m < 0) ∨ (0 ≤ p ∧ p < 8 ∧ 0 ≤ m ∧ 65535 < m)) ∧ e = 1 ∧ k = 0)) :
    Calls Try.prog 9 #[.agg #[.int .i64 p, .int .i64 m], .int .i64 n, .agg #[.int .i64 a, .int .i64 d]] w fun e w' => e = .returned (.bool true) ∧ Below w.heap.size w w' := by
  have hb := ((below_new w (.cells #[.int .i64 p, .int .i64 m] 59)).trans ((below_new _ (.cells #[.int .i64 a, .int .i64 d] 59)).mono (by simp)))
  have hc : ((w.alloc (.cells #[.int .i64 p, .int .i64 m] 59)).alloc (.cells #[.int .i64 a, .int .i64 d] 59)).cell? ⟨w.heap.size + 1, 0, none⟩ = some (.int .i64 a) := by
    have h := World.cell?_alloc_new (w.alloc (.cells #[.int .i64 p, .int .i64 m] 59)) #[.int .i64 a, .int .i64 d] 59 0
    rw [World.size_alloc] at h
    exact h
  have HB := Lib.hid hb; clear hb
  have HC := Lib.hid hc; clear hc
  rcases h with ⟨h1, h2, h3, h4, rfl, rfl⟩ | ⟨h1 | ⟨h1, h2⟩ | ⟨h1, h2, h3⟩ | ⟨h1, h2, h3, h4⟩, rfl, rfl⟩
  all_goals
    go_enter Try.func9, Try.ntmps9
    go_wp2_with (first
      | (go_at_call 50; ((with_reducible refine (cK _).mono ?_)); rintro e w' ⟨rfl, rfl⟩)
      | (go_at_call 51; ((with_reducible refine (cN _).mono ?_)); rintro e w' ⟨rfl, rfl⟩)
      | (go_at_call 52; ((with_reducible refine (rN _).mono ?_)); rintro e w' ⟨rfl, rfl⟩))
    generalize (w.alloc (.cells #[.int .i64 p, .int .i64 m] 59)).alloc (.cells #[.int .i64 a, .int .i64 d] 59) = W at HB HC ⊢
    have hb := HB.out; have hc := HC.out
    go_region_held3 (fun u => u.cell? ⟨w.heap.size + 1, 0, none⟩ = some (.int .i64 a) ∧ Below w.heap.size w u) (first | assumption | exact ⟨hc, hb.drew⟩ | exact ⟨hc, hb⟩) (first
      | (go_at_call 53; ((with_reducible refine (cO _).mono ?_)); rintro e w' ⟨rfl, rfl⟩)
      | (go_at_call 54; ((with_reducible refine (rO _).mono ?_)); rintro e w' ⟨rfl, rfl⟩)
      | (go_at_call 39; ((with_reducible refine (cA _ (by assumption)).mono ?_)); rintro e w' ⟨rfl, hg⟩))
    all_goals (go_wp2; go_ret; exact ⟨rfl, hg.2⟩)

theorem walk (p m : Int) (_w0 : (Lit.int .i64 p).wf = true) (_w1 : (Lit.int .i64 m).wf = true) (n : Int) (_w2 : (Lit.int .i64 n).wf = true) (a d : Int) (w3 : (Lit.int .i64 a).wf = true) (_w4 : (Lit.int .i64 d).wf = true) (w : World) :
    Calls Try.prog 9 #[.agg #[.int .i64 p, .int .i64 m], .int .i64 n, .agg #[.int .i64 a, .int .i64 d]] w fun e w' => e = .returned (.bool true) ∧ Below w.heap.size w w' := by
  refine core p m n a d _ _ _ _ _ w (fun u => key_any p m u) (fun u => next_any n a d u) (fun u => refnext_any n a d u (Ring.wf_loi w3)) (fun u => owner_any n a u) (fun u => refowner_any n a u)
    (fun u hu => (Conf.alive_any u).mono fun e W k => ⟨k.1, cell_stays k.2 hu.1, hu.2.trans (k.2.mono hu.2.size)⟩) ?_
  unfold key
  by_cases h : 0 ≤ p ∧ p ≤ 7 ∧ 0 ≤ m ∧ m ≤ 65535
  · rw [if_pos h]
    exact .inl ⟨h.1, by omega, h.2.2.1, h.2.2.2, rfl, by show p * 65536 + m = 65536 * p + m; omega⟩
  · rw [if_neg h]
    exact .inr ⟨by omega, rfl, rfl⟩

theorem own : ownKnob Try.prog.godebug = none := by kernel_rfl

set_option maxRecDepth 100000 in
theorem lifted (os : Os) (started : os.Started) (H : Type) (enc : TypeId × Value → H) :
    ReturnsInHanded {} Try.checked os 9 .any (Rows.confNumbersSpec.pre6 enc Try.prog Try.f9 Rows.confNumbersRow.domain false) (Rows.confNumbersSpec.post enc Try.prog Try.f9 false true false false) := by
  refine returnsInHanded_of_change (C := Try.checked) own started (by kernel_rfl) Try.func9
    (ChangeSpec.witness6 (enc := enc) (C := Try.checked) false ⟨#[], #[.agg #[.int .i64 0, .int .i64 0], .int .i64 0, .agg #[.int .i64 0, .int .i64 0]], []⟩ 16 (by kernel_rfl) (by kernel_rfl) (by kernel_rfl) (by kernel_rfl)) ?_
  intro W base args ds gs before hval0 hW hcnd _
  have hval : ∀ (j : Nat) t v, Try.f9.params[j]? = some t → args[j]? = some v → Value.okWide Try.prog W .any base t v := hval0
  have hW' := hW
  obtain ⟨p, q, hA0, hV, rfl, hfz, hnd⟩ := hW
  have hA : DataW.TrodAll enc Try.prog W 0 (fun _ => true) true Try.f9.params.toList args.toList ds p := hA0
  rw [Try.params9] at hA hval
  obtain ⟨v0, vs0, d0, ds0, p0, q0, hargs, rfl, rfl, h0, r0⟩ := trodAll_cons hA
  obtain ⟨v1, vs1, d1, ds1, p1, q1, rfl, rfl, rfl, h1, r1⟩ := trodAll_cons r0
  obtain ⟨v2, vs2, d2, ds2, p2, q2, rfl, rfl, rfl, h2, r2⟩ := trodAll_cons r1
  obtain ⟨rfl, rfl, rfl⟩ := trodAll_nil r2
  obtain rfl : args = #[v0, v1, v2] := by cases args; simp_all
  obtain ⟨rfl, rfl⟩ := trodVars_none hV
  obtain ⟨x0, y0, rfl, w0, z0⟩ := Row.open_two Try.underlying59 Try.underlying3 (by kernel_rfl) (by kernel_rfl) (hval 0 59 v0 rfl rfl) h0
  obtain ⟨a1, rfl, -, -, w1⟩ := open_int Try.underlying3 (hval 1 3 v1 rfl rfl) h1
  obtain ⟨x2, y2, rfl, w2, z2⟩ := Row.open_two Try.underlying59 Try.underlying3 (by kernel_rfl) (by kernel_rfl) (hval 2 59 v2 rfl rfl) h2
  clear hA0 hval0
  refine (walk x0 y0 w0 z0 a1 w1 x2 y2 w2 z2 W).mono fun e W' ⟨he, hg⟩ => ?_
  subst he
  exact ⟨_, rfl, Row.law_post hW' rfl rfl rfl rfl (by kernel_rfl) Try.underlying4 (by kernel_rfl) (by kernel_rfl) hg⟩

theorem over : Rows.confNumbersRow.holds Try.pinned (OpenSpec.ofChange Rows.confNumbersSpec) :=
  OpenClaim.holds_of_wide 9 Try.f9 rfl rfl rfl rfl rfl rfl rfl ⟨rfl, rfl, rfl, rfl, rfl⟩ rfl rfl rfl rfl rfl (by kernel_rfl) Try.func9 (by kernel_rfl)
    (of_decide_eq_true (by kernel_rfl)) (by unfold Func.isWrapper; first | (rw [if_pos (by decide +kernel)]; kernel_rfl) | (rw [if_neg (by decide +kernel)]; exact ⟨rfl, rfl⟩))
    (fun os started H enc _ => lifted os started H enc)

/-- The given statement. -/
theorem proved : Rows.ConfNumbersSaid :=
  over
#print axioms proved
end Go.Proofs.Ytblmmijjabahiaa.confNumbers
