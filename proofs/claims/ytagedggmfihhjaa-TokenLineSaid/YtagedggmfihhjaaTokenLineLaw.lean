/-
  TokenLine: of any two places just one is newer, unless they are the same; of three, a newer one of a newer one is newer; passing a token on makes a newer one.
-/
import Derived.Test.YtagedggmfihhjaaRows
import Derived.Test.YtagedggmfihhjaaTokLineWay
import Derived.Test.YtagedggmfihhjaaTokOpen
import Derived.Test.YtagedggmfihhjaaTokProg
namespace Go.Proofs.Ytagedggmfihhjaa.tokenLine
open Go.ChangeShapes Go.WideShapes Go.RowKit
open _root_.Go.Proofs.Ytagedggmfihhjaa.Token

theorem walk (x0 x1 y0 y1 z0 z1 : Int) (t : Frame.Tk) (sp p : Option Addr) (cs c : Nat) {W : World} (hs : (t.stamps.length : Int) ≤ 9223372036854775807) (hm : (t.table.rows.length : Int) ≤ 9223372036854775807) (hi : Codec.Ints W sp t.stamps) (hr : Frame.RowsAt W p t.table.rows) (hh : Num t.hop) :
    Calls Try.prog 5 #[.agg #[.int .i64 x0, .int .i64 x1, .int .i64 y0, .int .i64 y1, .int .i64 z0, .int .i64 z1], tokVal t sp cs p c] W fun e w' => e = .returned (.bool true) ∧ Below W.heap.size W w' :=
  line_way way10 x0 x1 y0 y1 z0 z1 t sp p cs c W hs hm hi hr hh

theorem own : ownKnob Try.prog.godebug = none := by kernel_rfl

set_option maxRecDepth 100000 in
theorem lifted (os : Os) (started : os.Started) (H : Type) (enc : TypeId × Value → H) :
    ReturnsInHanded {} Try.checked os 5 .any (Rows.tokenLineSpec.pre6 enc Try.prog Try.f5 Rows.tokenLineRow.domain false) (Rows.tokenLineSpec.post enc Try.prog Try.f5 false true false false) := by
  refine returnsInHanded_of_change (C := Try.checked) own started (by kernel_rfl) Try.func5
    (ChangeSpec.witness6 (enc := enc) (C := Try.checked) false ⟨#[], #[.agg #[.int .i64 0, .int .i64 0, .int .i64 0, .int .i64 0, .int .i64 0, .int .i64 0], .agg #[.int .i64 0, .int .i64 0, .slice none 0 0, .int .i64 0, .slice none 0 0]], []⟩ 16 (by kernel_rfl) (by kernel_rfl) (by kernel_rfl) (by kernel_rfl)) ?_
  intro W base args ds gs before hval0 hW hcnd _
  have hval : ∀ (j : Nat) t v, Try.f5.params[j]? = some t → args[j]? = some v → Value.okWide Try.prog W .any base t v := hval0
  have hW' := hW
  obtain ⟨p, q, hA0, hV, rfl, hfz, hnd⟩ := hW
  have hA : DataW.TrodAll enc Try.prog W 0 (fun _ => true) true Try.f5.params.toList args.toList ds p := hA0
  rw [Try.params5] at hA hval
  obtain ⟨v0, vs0, d0, ds0, p0, q0, hargs, rfl, rfl, h0, r0⟩ := trodAll_cons hA
  obtain ⟨v1, vs1, d1, ds1, p1, q1, rfl, rfl, rfl, h1, r1⟩ := trodAll_cons r0
  obtain ⟨rfl, rfl, rfl⟩ := trodAll_nil r1
  obtain rfl : args = #[v0, v1] := by cases args; simp_all
  obtain ⟨rfl, rfl⟩ := trodVars_none hV
  obtain ⟨x0, y0, z0, u0, s0, t0, rfl⟩ := Token.open_places (hval 0 48 v0 rfl rfl) h0
  obtain ⟨t1, sp1, p1', cs1, c1, rfl, hs1, hm1, hi1, hr1, hh1⟩ := Token.open_token (hval 1 29 v1 rfl rfl) h1
  clear hA0 hval0
  refine (walk x0 y0 z0 u0 s0 t0 t1 sp1 p1' cs1 c1 hs1 hm1 hi1 hr1 hh1).mono fun e W' ⟨he, hg⟩ => ?_
  subst he
  exact ⟨_, rfl, Row.law_post hW' rfl rfl rfl rfl (by kernel_rfl) Try.underlying4 (by kernel_rfl) (by kernel_rfl) hg⟩

theorem over : Rows.tokenLineRow.holds Try.pinned (OpenSpec.ofChange Rows.tokenLineSpec) :=
  OpenClaim.holds_of_wide 5 Try.f5 rfl rfl rfl rfl rfl rfl rfl ⟨rfl, rfl, rfl, rfl, rfl⟩ rfl rfl rfl rfl rfl (by kernel_rfl) Try.func5 (by kernel_rfl)
    (of_decide_eq_true (by kernel_rfl)) (by unfold Func.isWrapper; first | (rw [if_pos (by decide +kernel)]; kernel_rfl) | (rw [if_neg (by decide +kernel)]; exact ⟨rfl, rfl⟩))
    (fun os started H enc _ => lifted os started H enc)

/-- The given statement. -/
theorem proved : Rows.TokenLineSaid :=
  over
#print axioms proved
end Go.Proofs.Ytagedggmfihhjaa.tokenLine
