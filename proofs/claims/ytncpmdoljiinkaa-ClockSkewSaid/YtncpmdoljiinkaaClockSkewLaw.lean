/-
  ClockSkew: for all ints: readings at any two true times, with any draws, are not farther from these than the skew; if the second one has passed a span since the first one, at least the span, less twice the skew, lies between these times; no condition.
-/
import Derived.Test.YtncpmdoljiinkaaRows
import Derived.Test.YtncpmdoljiinkaaClkProg
import Derived.Test.YtncpmdoljiinkaaClockSkewWay
import Derived.Test.YtncpmdoljiinkaaLawRow
namespace Go.Proofs.Ytncpmdoljiinkaa.clockSkew
open Go.ChangeShapes Go.WideShapes Go.RowKit

theorem walk (t u : Int) (_ : (Lit.int .i64 t).wf = true) (_ : (Lit.int .i64 u).wf = true) (d e : Int) (hd : (Lit.int .i64 d).wf = true) (he : (Lit.int .i64 e).wf = true) (s p : Int) (_ : (Lit.int .i64 s).wf = true) (_ : (Lit.int .i64 p).wf = true) (W : World) :
    Calls Try.prog 4 #[.agg #[.int .i64 t, .int .i64 u], .agg #[.int .i64 d, .int .i64 e], .agg #[.int .i64 s, .int .i64 p]] W fun e w' => e = .returned (.bool true) ∧ Below W.heap.size W w' :=
  Clock.skew_way Clock.way8 t u d e s p (Clock.num_wf hd) (Clock.num_wf he) W

theorem own : ownKnob Try.prog.godebug = none := by kernel_rfl

set_option maxRecDepth 100000 in
theorem lifted (os : Os) (started : os.Started) (H : Type) (enc : TypeId × Value → H) :
    ReturnsInHanded {} Try.checked os 4 .any (Rows.clockSkewSpec.pre6 enc Try.prog Try.f4 Rows.clockSkewRow.domain false) (Rows.clockSkewSpec.post enc Try.prog Try.f4 false true false false) := by
  refine returnsInHanded_of_change (C := Try.checked) own started (by kernel_rfl) Try.func4
    (ChangeSpec.witness6 (enc := enc) (C := Try.checked) false ⟨#[], #[.agg #[.int .i64 0, .int .i64 0], .agg #[.int .i64 0, .int .i64 0], .agg #[.int .i64 0, .int .i64 0]], []⟩ 16 (by kernel_rfl) (by kernel_rfl) (by kernel_rfl) (by kernel_rfl)) ?_
  intro W base args ds gs before hval0 hW hcnd _
  have hval : ∀ (j : Nat) t v, Try.f4.params[j]? = some t → args[j]? = some v → Value.okWide Try.prog W .any base t v := hval0
  have hW' := hW
  obtain ⟨p, q, hA0, hV, rfl, hfz, hnd⟩ := hW
  have hA : DataW.TrodAll enc Try.prog W 0 (fun _ => true) true Try.f4.params.toList args.toList ds p := hA0
  rw [Try.params4] at hA hval
  obtain ⟨v0, vs0, d0, ds0, p0, q0, hargs, rfl, rfl, h0, r0⟩ := trodAll_cons hA
  obtain ⟨v1, vs1, d1, ds1, p1, q1, rfl, rfl, rfl, h1, r1⟩ := trodAll_cons r0
  obtain ⟨v2, vs2, d2, ds2, p2, q2, rfl, rfl, rfl, h2, r2⟩ := trodAll_cons r1
  obtain ⟨rfl, rfl, rfl⟩ := trodAll_nil r2
  obtain rfl : args = #[v0, v1, v2] := by cases args; simp_all
  obtain ⟨rfl, rfl⟩ := trodVars_none hV
  obtain ⟨x0, y0, rfl, w0, z0⟩ := Row.open_two Try.underlying25 Try.underlying3 (by kernel_rfl) (by kernel_rfl) (hval 0 25 v0 rfl rfl) h0
  obtain ⟨x1, y1, rfl, w1, z1⟩ := Row.open_two Try.underlying25 Try.underlying3 (by kernel_rfl) (by kernel_rfl) (hval 1 25 v1 rfl rfl) h1
  obtain ⟨x2, y2, rfl, w2, z2⟩ := Row.open_two Try.underlying25 Try.underlying3 (by kernel_rfl) (by kernel_rfl) (hval 2 25 v2 rfl rfl) h2
  clear hA0 hval0
  refine (walk x0 y0 w0 z0 x1 y1 w1 z1 x2 y2 w2 z2 W).mono fun e W' ⟨he, hg⟩ => ?_
  subst he
  exact ⟨_, rfl, Row.law_post hW' rfl rfl rfl rfl (by kernel_rfl) Try.underlying4 (by kernel_rfl) (by kernel_rfl) hg⟩

theorem over : Rows.clockSkewRow.holds Try.pinned (OpenSpec.ofChange Rows.clockSkewSpec) :=
  OpenClaim.holds_of_wide 4 Try.f4 rfl rfl rfl rfl rfl rfl rfl ⟨rfl, rfl, rfl, rfl, rfl⟩ rfl rfl rfl rfl rfl (by kernel_rfl) Try.func4 (by kernel_rfl)
    (of_decide_eq_true (by kernel_rfl)) (by unfold Func.isWrapper; first | (rw [if_pos (by decide +kernel)]; kernel_rfl) | (rw [if_neg (by decide +kernel)]; exact ⟨rfl, rfl⟩))
    (fun os started H enc _ => lifted os started H enc)

/-- The given statement. -/
theorem proved : Rows.ClockSkewSaid :=
  over
#print axioms proved
end Go.Proofs.Ytncpmdoljiinkaa.clockSkew
