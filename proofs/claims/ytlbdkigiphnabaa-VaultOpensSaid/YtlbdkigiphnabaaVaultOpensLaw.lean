/-
  VaultOpens: for all bytes: the vault of these bytes: its state, its records, and what is left of the file, are as the document says, or the error, and nothing; of more than 3000 bytes the live question alone is asked.
-/
import Derived.Test.YtlbdkigiphnabaaRows
import Derived.Test.YtlbdkigiphnabaaVpOpen
import Derived.Test.YtlbdkigiphnabaaCodecOpen
namespace Go.Proofs.Ytlbdkigiphnabaa.vaultOpens
open Go.ChangeShapes Go.WideShapes Go.RowKit
open _root_.Go.Proofs.Ytlbdkigiphnabaa.Codec (Cel IsBytes)

theorem walk {W : World} (p : Option Addr) (c : Nat) (zs : List Int) (hn : p = none → zs = [] ∧ c = 0) (_ : (zs.length : Int) ≤ 9223372036854775807) (hw : ∀ n ∈ zs, (Lit.int .u8 n).wf = true) (hz : Cel W p zs) :
    Calls Try.prog 4 #[.slice p zs.length c] W fun e w' => e = .returned (.bool true) ∧ Below W.heap.size W w' := by
  have hy : IsBytes zs := fun x hx => Row.u8_bounds (hw x hx)
  by_cases hl : 3000 < (zs.length : Int)
  · exact Vault.opens_long Vault.way p zs.length c W hl
  · exact Vault.opens_way Vault.way p c zs W (by omega) hn hz hy

theorem own : ownKnob Try.prog.godebug = none := by kernel_rfl

set_option maxRecDepth 100000 in
theorem lifted (os : Os) (started : os.Started) (H : Type) (enc : TypeId × Value → H) :
    ReturnsInHanded {} Try.checked os 4 .any (Rows.vaultOpensSpec.pre6 enc Try.prog Try.f4 Rows.vaultOpensRow.domain false) (Rows.vaultOpensSpec.post enc Try.prog Try.f4 false true false false) := by
  refine returnsInHanded_of_change (C := Try.checked) own started (by kernel_rfl) Try.func4
    (ChangeSpec.witness6 (enc := enc) (C := Try.checked) false ⟨#[], #[.slice none 0 0], []⟩ 16 (by kernel_rfl) (by kernel_rfl) (by kernel_rfl) (by kernel_rfl)) ?_
  intro W base args ds gs before hval0 hW hcnd _
  have hval : ∀ (j : Nat) t v, Try.f4.params[j]? = some t → args[j]? = some v → Value.okWide Try.prog W .any base t v := hval0
  have hW' := hW
  obtain ⟨p, q, hA0, hV, rfl, hfz, hnd⟩ := hW
  have hA : DataW.TrodAll enc Try.prog W 0 (fun _ => true) true Try.f4.params.toList args.toList ds p := hA0
  rw [Try.params4] at hA hval
  obtain ⟨v0, vs0, d0, ds0, p0, q0, hargs, rfl, rfl, h0, r0⟩ := trodAll_cons hA
  obtain ⟨rfl, rfl, rfl⟩ := trodAll_nil r0
  obtain rfl : args = #[v0] := by cases args; simp_all
  obtain ⟨rfl, rfl⟩ := trodVars_none hV
  obtain ⟨p0', c0, zs0, rfl, hn0, hl0, hw0, hz0⟩ := Row.open_nums Try.underlying39 Try.underlying5 (by kernel_rfl) (hval 0 39 v0 rfl rfl) h0
  clear hA0 hval0
  refine (walk p0' c0 zs0 hn0 hl0 hw0 hz0).mono fun e W' ⟨he, hg⟩ => ?_
  subst he
  exact ⟨_, rfl, Row.law_post hW' rfl rfl rfl rfl (by kernel_rfl) Try.underlying4 (by kernel_rfl) (by kernel_rfl) hg⟩

theorem over : Rows.vaultOpensRow.holds Try.pinned (OpenSpec.ofChange Rows.vaultOpensSpec) :=
  OpenClaim.holds_of_wide 4 Try.f4 rfl rfl rfl rfl rfl rfl rfl ⟨rfl, rfl, rfl, rfl, rfl⟩ rfl rfl rfl rfl rfl (by kernel_rfl) Try.func4 (by kernel_rfl)
    (of_decide_eq_true (by kernel_rfl)) (by unfold Func.isWrapper; first | (rw [if_pos (by decide +kernel)]; kernel_rfl) | (rw [if_neg (by decide +kernel)]; exact ⟨rfl, rfl⟩))
    (fun os started H enc _ => lifted os started H enc)

/-- The given statement. -/
theorem proved : Rows.VaultOpensSaid :=
  over
#print axioms proved
end Go.Proofs.Ytlbdkigiphnabaa.vaultOpens
