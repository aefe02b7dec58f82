/-
  ViewSilent: any hearings of any nodes: who is live at a reading is who was heard last within the span ahead of it, and the view's own node; of more than 100 hearings the live question alone is asked.
-/
import Derived.Test.YtgbenfdffhcjiaaRows
import Derived.Test.YtgbenfdffhcjiaaViewOpen
import Derived.Test.YtgbenfdffhcjiaaViewSilentFew
import Derived.Test.YtgbenfdffhcjiaaVwProg
namespace Go.Proofs.Ytgbenfdffhcjiaa.viewSilent
open Go.ChangeShapes Go.WideShapes Go.RowKit
open _root_.Go.Proofs.Ytgbenfdffhcjiaa.View

theorem walk (size : Int) (hz : (Lit.int .u8 size).wf = true) (p : Option Addr) (c : Nat) (l : List Int) {W : World} (ha : Kit.Lies words W p l) (hn : ∀ x ∈ l, 0 ≤ x ∧ x ≤ 4294967295) (a0 a1 a2 : Int) (h0 : 0 ≤ a0 ∧ a0 ≤ 4294967295) (h1 : 0 ≤ a1 ∧ a1 ≤ 4294967295) (h2 : 0 ≤ a2 ∧ a2 ≤ 4294967295) (_ : World) :
    Calls Try.prog 4 #[.int .u8 size, .slice p l.length c, .agg #[.int .u32 a0, .int .u32 a1, .int .u32 a2]] W fun e w' => e = .returned (.bool true) ∧ Below W.heap.size W w' :=
  silent_any way16 W size (Row.u8_wf hz) p c l ha hn a0 a1 a2 h0 h1 h2

theorem own : ownKnob Try.prog.godebug = none := by kernel_rfl

set_option maxRecDepth 100000 in
theorem lifted (os : Os) (started : os.Started) (H : Type) (enc : TypeId × Value → H) :
    ReturnsInHanded {} Try.checked os 4 .any (Rows.viewSilentSpec.pre6 enc Try.prog Try.f4 Rows.viewSilentRow.domain false) (Rows.viewSilentSpec.post enc Try.prog Try.f4 false true false false) := by
  refine returnsInHanded_of_change (C := Try.checked) own started (by kernel_rfl) Try.func4
    (ChangeSpec.witness6 (enc := enc) (C := Try.checked) false ⟨#[], #[.int .u8 0, .slice none 0 0, .agg #[.int .u32 0, .int .u32 0, .int .u32 0]], []⟩ 16 (by kernel_rfl) (by kernel_rfl) (by kernel_rfl) (by kernel_rfl)) ?_
  intro W base args ds gs before hval0 hW hcnd _
  have hval : ∀ (j : Nat) t v, Try.f4.params[j]? = some t → args[j]? = some v → Value.okWide Try.prog W .any base t v := hval0
  have hW' := hW
  obtain ⟨p, q, hA0, hV, rfl, hfz, hnd⟩ := hW
  have hA : DataW.TrodAll enc Try.prog W 0 (fun _ => true) true Try.f4.params.toList args.toList ds p := hA0
  rw [Try.params4] at hA hval
  obtain ⟨v0, vs0, d0, ds0, p0, q0, hargs, rfl, rfl, h0, r0⟩ := trodAll_cons hA
  obtain ⟨v1, vs1, d1, ds1, p1, q1, rfl, rfl, rfl, h1, r1⟩ := trodAll_cons r0
  obtain ⟨v2, vs2, d2, ds2, p2, q2, rfl, rfl, rfl, h2, r2⟩ := trodAll_cons r1
  obtain ⟨rfl, rfl, rfl⟩ := trodAll_nil r2
  obtain rfl : args = #[v0, v1, v2] := by cases args; simp_all
  obtain ⟨rfl, rfl⟩ := trodVars_none hV
  obtain ⟨a0, rfl, -, -, w0⟩ := open_int Try.underlying5 (hval 0 5 v0 rfl rfl) h0
  obtain ⟨p1', c1, l1, rfl, ha1, hn1⟩ := View.open_words (hval 1 45 v1 rfl rfl) h1
  obtain ⟨x2, y2, z2, rfl, wx2, wy2, wz2⟩ := View.open_three (hval 2 47 v2 rfl rfl) h2
  clear hA0 hval0
  refine (walk a0 w0 p1' c1 l1 ha1 hn1 x2 y2 z2 wx2 wy2 wz2 W).mono fun e W' ⟨he, hg⟩ => ?_
  subst he
  exact ⟨_, rfl, Row.law_post hW' rfl rfl rfl rfl (by kernel_rfl) Try.underlying4 (by kernel_rfl) (by kernel_rfl) hg⟩

theorem over : Rows.viewSilentRow.holds Try.pinned (OpenSpec.ofChange Rows.viewSilentSpec) :=
  OpenClaim.holds_of_wide 4 Try.f4 rfl rfl rfl rfl rfl rfl rfl ⟨rfl, rfl, rfl, rfl, rfl⟩ rfl rfl rfl rfl rfl (by kernel_rfl) Try.func4 (by kernel_rfl)
    (of_decide_eq_true (by kernel_rfl)) (by unfold Func.isWrapper; first | (rw [if_pos (by decide +kernel)]; kernel_rfl) | (rw [if_neg (by decide +kernel)]; exact ⟨rfl, rfl⟩))
    (fun os started H enc _ => lifted os started H enc)

/-- The given statement. -/
theorem proved : Rows.ViewSilentSaid :=
  over
#print axioms proved
end Go.Proofs.Ytgbenfdffhcjiaa.viewSilent
