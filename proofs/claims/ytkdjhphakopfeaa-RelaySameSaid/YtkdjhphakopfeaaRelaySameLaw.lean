/-
  RelaySame: a frame that is held is told unchanged, behind any acts, until an ack answers it, or a newer place drops it; behind that none is held; of more than 60 acts, or bigger frames, the live question alone is asked.
-/
import Derived.Test.YtkdjhphakopfeaaRows
import Derived.Test.YtkdjhphakopfeaaRelaySame
import Derived.Test.YtkdjhphakopfeaaRelayOpen
import Derived.Test.YtkdjhphakopfeaaRlProg
namespace Go.Proofs.Ytkdjhphakopfeaa.relaySame
open Go.ChangeShapes Go.WideShapes Go.RowKit
open _root_.Go.Proofs.Ytkdjhphakopfeaa.Relay
open _root_.Go.Proofs.Ytkdjhphakopfeaa.Frame (Fr Lying frameVal)

theorem walk (f : Fr) (sp fp : Option Addr) (sc fc : Nat) {W : World} (hf : Lying W f sp fp) (_ : sp = none → f.token.stamps = []) (hk : (Lit.int .i64 f.kind).wf = true) (_ : (Lit.int .u64 f.bits).wf = true) (p : Option Addr) (c : Nat) (l : List Ac) (hl : (l.length : Int) ≤ 9223372036854775807) (ha : ActsAt W p l) (hn : ∀ a ∈ l, AcNum a) (_ : World) :
    Calls Try.prog 4 #[frameVal f sp fp sc fc, .slice p l.length c] W fun e w' => e = .returned (.bool true) ∧ Below W.heap.size W w' :=
  same_way way15 W f sp fp sc fc hf hk p c l ha hn hl

theorem own : ownKnob Try.prog.godebug = none := by kernel_rfl

set_option maxRecDepth 100000 in
theorem lifted (os : Os) (started : os.Started) (H : Type) (enc : TypeId × Value → H) :
    ReturnsInHanded {} Try.checked os 4 .any (Rows.relaySameSpec.pre6 enc Try.prog Try.f4 Rows.relaySameRow.domain false) (Rows.relaySameSpec.post enc Try.prog Try.f4 false true false false) := by
  refine returnsInHanded_of_change (C := Try.checked) own started (by kernel_rfl) Try.func4
    (ChangeSpec.witness6 (enc := enc) (C := Try.checked) false ⟨#[], #[.agg #[.int .i64 0, .int .i64 0, .int .i64 0, .int .i64 0, .int .i64 0, .int .u64 0, .int .i64 0, .int .i64 0, .slice none 0 0, .int .i64 0, .slice none 0 0], .slice none 0 0], []⟩ 16 (by kernel_rfl) (by kernel_rfl) (by kernel_rfl) (by kernel_rfl)) ?_
  intro W base args ds gs before hval0 hW hcnd _
  have hval : ∀ (j : Nat) t v, Try.f4.params[j]? = some t → args[j]? = some v → Value.okWide Try.prog W .any base t v := hval0
  have hW' := hW
  obtain ⟨p, q, hA0, hV, rfl, hfz, hnd⟩ := hW
  have hA : DataW.TrodAll enc Try.prog W 0 (fun _ => true) true Try.f4.params.toList args.toList ds p := hA0
  rw [Try.params4] at hA hval
  obtain ⟨v0, vs0, d0, ds0, p0, q0, hargs, rfl, rfl, h0, r0⟩ := trodAll_cons hA
  obtain ⟨v1, vs1, d1, ds1, p1, q1, rfl, rfl, rfl, h1, r1⟩ := trodAll_cons r0
  obtain ⟨rfl, rfl, rfl⟩ := trodAll_nil r1
  obtain rfl : args = #[v0, v1] := by cases args; simp_all
  obtain ⟨rfl, rfl⟩ := trodVars_none hV
  obtain ⟨f0, sp0, p0', cs0, c0, rfl, hl0, hn0, hk0, hx0⟩ := Frame.open_frame (hval 0 41 v0 rfl rfl) h0
  obtain ⟨p1', c1, l1, rfl, hl1, ha1, hn1⟩ := Relay.open_acts (hval 1 22 v1 rfl rfl) h1
  clear hA0 hval0
  refine (walk f0 sp0 p0' cs0 c0 hl0 hn0 hk0 hx0 p1' c1 l1 hl1 ha1 hn1 W).mono fun e W' ⟨he, hg⟩ => ?_
  subst he
  exact ⟨_, rfl, Row.law_post hW' rfl rfl rfl rfl (by kernel_rfl) Try.underlying4 (by kernel_rfl) (by kernel_rfl) hg⟩

theorem over : Rows.relaySameRow.holds Try.pinned (OpenSpec.ofChange Rows.relaySameSpec) :=
  OpenClaim.holds_of_wide 4 Try.f4 rfl rfl rfl rfl rfl rfl rfl ⟨rfl, rfl, rfl, rfl, rfl⟩ rfl rfl rfl rfl rfl (by kernel_rfl) Try.func4 (by kernel_rfl)
    (of_decide_eq_true (by kernel_rfl)) (by unfold Func.isWrapper; first | (rw [if_pos (by decide +kernel)]; kernel_rfl) | (rw [if_neg (by decide +kernel)]; exact ⟨rfl, rfl⟩))
    (fun os started H enc _ => lifted os started H enc)

/-- The given statement. -/
theorem proved : Rows.RelaySameSaid :=
  over
#print axioms proved
end Go.Proofs.Ytkdjhphakopfeaa.relaySame
