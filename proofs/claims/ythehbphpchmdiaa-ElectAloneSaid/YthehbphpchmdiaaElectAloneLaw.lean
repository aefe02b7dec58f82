/-
  ElectAlone: any size, any moves: of the program's elections of all nodes no ballot is won twice, each is its winner's, and when it is won a majority has promised it, or a greater one; of more than 120 moves the live question alone is asked.
-/
import Derived.Test.YthehbphpchmdiaaRows
import Derived.Test.YthehbphpchmdiaaElectOpen
import Derived.Test.YthehbphpchmdiaaElectAny
import Derived.Test.YthehbphpchmdiaaElProg
namespace Go.Proofs.Ythehbphpchmdiaa.electAlone
open Go.ChangeShapes Go.WideShapes Go.RowKit
open _root_.Go.Proofs.Ythehbphpchmdiaa.Elect

theorem walk (size : Int) (ws : (Lit.int .u8 size).wf = true) (p : Option Addr) (c : Nat) (l : List Mv) {W : World} (ha : Kit.Lies movesE W p l) (hn : ∀ a ∈ l, MvNum a) (_ : World) :
    Calls Try.prog 4 #[.int .u8 size, .slice p l.length c] W fun e w' => e = .returned (.bool true) ∧ Below W.heap.size W w' :=
  alone_any way17 (fun h hI hf hw kd who what a b d => move_any way17 h hI hf hw kd who what a b d) W size (Row.u8_wf ws) p c l ha hn

theorem own : ownKnob Try.prog.godebug = none := by kernel_rfl

set_option maxRecDepth 100000 in
theorem lifted (os : Os) (started : os.Started) (H : Type) (enc : TypeId × Value → H) :
    ReturnsInHanded {} Try.checked os 4 .any (Rows.electAloneSpec.pre6 enc Try.prog Try.f4 Rows.electAloneRow.domain false) (Rows.electAloneSpec.post enc Try.prog Try.f4 false true false false) := by
  refine returnsInHanded_of_change (C := Try.checked) own started (by kernel_rfl) Try.func4
    (ChangeSpec.witness6 (enc := enc) (C := Try.checked) false ⟨#[], #[.int .u8 0, .slice none 0 0], []⟩ 16 (by kernel_rfl) (by kernel_rfl) (by kernel_rfl) (by kernel_rfl)) ?_
  intro W base args ds gs before hval0 hW hcnd _
  have hval : ∀ (j : Nat) t v, Try.f4.params[j]? = some t → args[j]? = some v → Value.okWide Try.prog W .any base t v := hval0
  have hW' := hW
  obtain ⟨p, q, hA0, hV, rfl, hfz, hnd⟩ := hW
  have hA : DataW.TrodAll enc Try.prog W 0 (fun _ => true) true Try.f4.params.toList args.toList ds p := hA0
  rw [Try.params4] at hA hval
  obtain ⟨v0, vs0, d0, ds0, p0, q0, hargs, rfl, rfl, h0, r0⟩ := trodAll_cons hA
  obtain ⟨v1, vs1, d1, ds1, p1, q1, rfl, rfl, rfl, h1, r1⟩ := trodAll_cons r0
  obtain ⟨rfl, rfl, rfl⟩ := trodAll_nil r1
  obtain rfl : args = #[v0, v1] := by cases args; simp_all
  obtain ⟨rfl, rfl⟩ := trodVars_none hV
  obtain ⟨a0, rfl, -, -, w0⟩ := open_int Try.underlying5 (hval 0 5 v0 rfl rfl) h0
  obtain ⟨p1', c1, l1, rfl, ha1, hn1⟩ := Elect.open_moves (hval 1 46 v1 rfl rfl) h1
  clear hA0 hval0
  refine (walk a0 w0 p1' c1 l1 ha1 hn1 W).mono fun e W' ⟨he, hg⟩ => ?_
  subst he
  exact ⟨_, rfl, Row.law_post hW' rfl rfl rfl rfl (by kernel_rfl) Try.underlying4 (by kernel_rfl) (by kernel_rfl) hg⟩

theorem over : Rows.electAloneRow.holds Try.pinned (OpenSpec.ofChange Rows.electAloneSpec) :=
  OpenClaim.holds_of_wide 4 Try.f4 rfl rfl rfl rfl rfl rfl rfl ⟨rfl, rfl, rfl, rfl, rfl⟩ rfl rfl rfl rfl rfl (by kernel_rfl) Try.func4 (by kernel_rfl)
    (of_decide_eq_true (by kernel_rfl)) (by unfold Func.isWrapper; first | (rw [if_pos (by decide +kernel)]; kernel_rfl) | (rw [if_neg (by decide +kernel)]; exact ⟨rfl, rfl⟩))
    (fun os started H enc _ => lifted os started H enc)

/-- The given statement. -/
theorem proved : Rows.ElectAloneSaid :=
  over
#print axioms proved
end Go.Proofs.Ythehbphpchmdiaa.electAlone
