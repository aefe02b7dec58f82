/-
  TokenMajority: a token that is valid at a reading, for a span, has stamps of a majority of its nodes that are not earlier than the reading less the span; of any majority of its nodes, one has such a stamp.
-/
import Derived.Test.YtagedggmfihhjaaRows
import Derived.Test.YtagedggmfihhjaaTokMajWay
import Derived.Test.YtagedggmfihhjaaTokOpen
import Derived.Test.YtagedggmfihhjaaTokProg
namespace Go.Proofs.Ytagedggmfihhjaa.tokenMajority
open Go.ChangeShapes Go.WideShapes Go.RowKit
open _root_.Go.Proofs.Ytagedggmfihhjaa.Token

theorem walk (p : Option Addr) (c : Nat) (l : List Int) {W : World} (hl : (l.length : Int) ≤ 9223372036854775807) (hi : Codec.Ints W p l) (x y : Int) (_ : (Lit.int .i64 x).wf = true) (_ : (Lit.int .i64 y).wf = true) (a : Int) (wa : (Lit.int .u64 a).wf = true) (_ : World) :
    Calls Try.prog 4 #[.slice p l.length c, .agg #[.int .i64 x, .int .i64 y], .int .u64 a] W fun e w' => e = .returned (.bool true) ∧ Below W.heap.size W w' := by
  have hb : 0 ≤ a ∧ a < 18446744073709551616 := by simp [Lit.wf, IntKind.min, IntKind.max, IntKind.signed, IntKind.bits] at wa; omega
  exact majority_way way10 l p c x y a W hb.1 hb.2 hi hl

theorem own : ownKnob Try.prog.godebug = none := by kernel_rfl

set_option maxRecDepth 100000 in
theorem lifted (os : Os) (started : os.Started) (H : Type) (enc : TypeId × Value → H) :
    ReturnsInHanded {} Try.checked os 4 .any (Rows.tokenMajoritySpec.pre6 enc Try.prog Try.f4 Rows.tokenMajorityRow.domain false) (Rows.tokenMajoritySpec.post enc Try.prog Try.f4 false true false false) := by
  refine returnsInHanded_of_change (C := Try.checked) own started (by kernel_rfl) Try.func4
    (ChangeSpec.witness6 (enc := enc) (C := Try.checked) false ⟨#[], #[.slice none 0 0, .agg #[.int .i64 0, .int .i64 0], .int .u64 0], []⟩ 16 (by kernel_rfl) (by kernel_rfl) (by kernel_rfl) (by kernel_rfl)) ?_
  intro W base args ds gs before hval0 hW hcnd _
  have hval : ∀ (j : Nat) t v, Try.f4.params[j]? = some t → args[j]? = some v → Value.okWide Try.prog W .any base t v := hval0
  have hW' := hW
  obtain ⟨p, q, hA0, hV, rfl, hfz, hnd⟩ := hW
  have hA : DataW.TrodAll enc Try.prog W 0 (fun _ => true) true Try.f4.params.toList args.toList ds p := hA0
  rw [Try.params4] at hA hval
  obtain ⟨v0, vs0, d0, ds0, p0, q0, hargs, rfl, rfl, h0, r0⟩ := trodAll_cons hA
  obtain ⟨v1, vs1, d1, ds1, p1, q1, rfl, rfl, rfl, h1, r1⟩ := trodAll_cons r0
  obtain ⟨v2, vs2, d2, ds2, p2, q2, rfl, rfl, rfl, h2, r2⟩ := trodAll_cons r1
  obtain ⟨rfl, rfl, rfl⟩ := trodAll_nil r2
  obtain rfl : args = #[v0, v1, v2] := by cases args; simp_all
  obtain ⟨rfl, rfl⟩ := trodVars_none hV
  obtain ⟨p0', c0, l0, rfl, hl0, hi0⟩ := Token.open_stamps (hval 0 24 v0 rfl rfl) h0
  obtain ⟨x1, y1, rfl, w1, z1⟩ := Row.open_two Try.underlying23 Try.underlying3 (by kernel_rfl) (by kernel_rfl) (hval 1 23 v1 rfl rfl) h1
  obtain ⟨a2, rfl, -, -, w2⟩ := open_int Try.underlying40 (hval 2 40 v2 rfl rfl) h2
  clear hA0 hval0
  refine (walk p0' c0 l0 hl0 hi0 x1 y1 w1 z1 a2 w2 W).mono fun e W' ⟨he, hg⟩ => ?_
  subst he
  exact ⟨_, rfl, Row.law_post hW' rfl rfl rfl rfl (by kernel_rfl) Try.underlying4 (by kernel_rfl) (by kernel_rfl) hg⟩

theorem over : Rows.tokenMajorityRow.holds Try.pinned (OpenSpec.ofChange Rows.tokenMajoritySpec) :=
  OpenClaim.holds_of_wide 4 Try.f4 rfl rfl rfl rfl rfl rfl rfl ⟨rfl, rfl, rfl, rfl, rfl⟩ rfl rfl rfl rfl rfl (by kernel_rfl) Try.func4 (by kernel_rfl)
    (of_decide_eq_true (by kernel_rfl)) (by unfold Func.isWrapper; first | (rw [if_pos (by decide +kernel)]; kernel_rfl) | (rw [if_neg (by decide +kernel)]; exact ⟨rfl, rfl⟩))
    (fun os started H enc _ => lifted os started H enc)

/-- The given statement. -/
theorem proved : Rows.TokenMajoritySaid :=
  over
#print axioms proved
end Go.Proofs.Ytagedggmfihhjaa.tokenMajority
