/-
  RelayPlays: any acts on a relay: what each one tells, and how often frames were sent, is as the document says; of none likewise; of more than 60 acts, or bigger frames, the live question alone is asked.
-/
import Derived.Test.YtkdjhphakopfeaaRows
import Derived.Test.YtkdjhphakopfeaaRelayPlays
import Derived.Test.YtkdjhphakopfeaaRelayOpen
import Derived.Test.YtkdjhphakopfeaaRlProg
namespace Go.Proofs.Ytkdjhphakopfeaa.relayPlays
open Go.ChangeShapes Go.WideShapes Go.RowKit
open _root_.Go.Proofs.Ytkdjhphakopfeaa.Relay

theorem walk (p : Option Addr) (c : Nat) (l : List Ac) (hl : (l.length : Int) ≤ 9223372036854775807) {W : World} (ha : ActsAt W p l) (hn : ∀ a ∈ l, AcNum a) (_ : World) :
    Calls Try.prog 3 #[.slice p l.length c] W fun e w' => e = .returned (.bool true) ∧ Below W.heap.size W w' :=
  plays_any way15 W p c l ha hn hl

theorem own : ownKnob Try.prog.godebug = none := by kernel_rfl

set_option maxRecDepth 100000 in
theorem lifted (os : Os) (started : os.Started) (H : Type) (enc : TypeId × Value → H) :
    ReturnsInHanded {} Try.checked os 3 .any (Rows.relayPlaysSpec.pre6 enc Try.prog Try.f3 Rows.relayPlaysRow.domain false) (Rows.relayPlaysSpec.post enc Try.prog Try.f3 false true false false) := by
  refine returnsInHanded_of_change (C := Try.checked) own started (by kernel_rfl) Try.func3
    (ChangeSpec.witness6 (enc := enc) (C := Try.checked) false ⟨#[], #[.slice none 0 0], []⟩ 16 (by kernel_rfl) (by kernel_rfl) (by kernel_rfl) (by kernel_rfl)) ?_
  intro W base args ds gs before hval0 hW hcnd _
  have hval : ∀ (j : Nat) t v, Try.f3.params[j]? = some t → args[j]? = some v → Value.okWide Try.prog W .any base t v := hval0
  have hW' := hW
  obtain ⟨p, q, hA0, hV, rfl, hfz, hnd⟩ := hW
  have hA : DataW.TrodAll enc Try.prog W 0 (fun _ => true) true Try.f3.params.toList args.toList ds p := hA0
  rw [Try.params3] at hA hval
  obtain ⟨v0, vs0, d0, ds0, p0, q0, hargs, rfl, rfl, h0, r0⟩ := trodAll_cons hA
  obtain ⟨rfl, rfl, rfl⟩ := trodAll_nil r0
  obtain rfl : args = #[v0] := by cases args; simp_all
  obtain ⟨rfl, rfl⟩ := trodVars_none hV
  obtain ⟨p0', c0, l0, rfl, hl0, ha0, hn0⟩ := Relay.open_acts (hval 0 22 v0 rfl rfl) h0
  clear hA0 hval0
  refine (walk p0' c0 l0 hl0 ha0 hn0 W).mono fun e W' ⟨he, hg⟩ => ?_
  subst he
  exact ⟨_, rfl, Row.law_post hW' rfl rfl rfl rfl (by kernel_rfl) Try.underlying4 (by kernel_rfl) (by kernel_rfl) hg⟩

theorem over : Rows.relayPlaysRow.holds Try.pinned (OpenSpec.ofChange Rows.relayPlaysSpec) :=
  OpenClaim.holds_of_wide 3 Try.f3 rfl rfl rfl rfl rfl rfl rfl ⟨rfl, rfl, rfl, rfl, rfl⟩ rfl rfl rfl rfl rfl (by kernel_rfl) Try.func3 (by kernel_rfl)
    (of_decide_eq_true (by kernel_rfl)) (by unfold Func.isWrapper; first | (rw [if_pos (by decide +kernel)]; kernel_rfl) | (rw [if_neg (by decide +kernel)]; exact ⟨rfl, rfl⟩))
    (fun os started H enc _ => lifted os started H enc)

/-- The given statement. -/
theorem proved : Rows.RelayPlaysSaid :=
  over
#print axioms proved
end Go.Proofs.Ytkdjhphakopfeaa.relayPlays
