/-
  DemandFades: whatever is noted, behind 63 notes of a key of 0, or less, its estimate is 0, and it is not among the keys; such a note halves it; of more than 80 notes, or of a note above 0, the live question alone is asked.
-/
import Derived.Test.YtghbcknbkkhhpaaRows
import Derived.Test.YtghbcknbkkhhpaaDemandFadesWay
import Derived.Test.YtghbcknbkkhhpaaDemandOpen
import Derived.Test.YtghbcknbkkhhpaaDmProg
import Derived.Test.YtghbcknbkkhhpaaLawRow
namespace Go.Proofs.Ytghbcknbkkhhpaa.demandFades
open Go.ChangeShapes Go.WideShapes Go.RowKit
open _root_.Go.Proofs.Ytghbcknbkkhhpaa.Demand

theorem walk (p : Option Addr) (c : Nat) (l : List Nt) (_ : (l.length : Int) ≤ 9223372036854775807) {W : World} (ha : Kit.Lies note W p l) (hn : ∀ a ∈ l, NtNum a) (key : Int) (wk : (Lit.int .i64 key).wf = true) (low : Int) (wl : (Lit.int .i64 low).wf = true) (_ : World) :
    Calls Try.prog 4 #[.slice p l.length c, .int .i64 key, .int .i64 low] W fun e w' => e = .returned (.bool true) ∧ Below W.heap.size W w' := by
  by_cases hm : l.length ≤ 80
  · by_cases h0 : low ≤ 0
    · exact fades_few way13 W p c l ha hn hm key low (Row.num_wf wk) (Row.num_wf wl) h0
    · exact fades_many way13 W p c l.length key low (.inr (by omega))
  · exact fades_many way13 W p c l.length key low (.inl (by omega))

theorem own : ownKnob Try.prog.godebug = none := by kernel_rfl

set_option maxRecDepth 100000 in
theorem lifted (os : Os) (started : os.Started) (H : Type) (enc : TypeId × Value → H) :
    ReturnsInHanded {} Try.checked os 4 .any (Rows.demandFadesSpec.pre6 enc Try.prog Try.f4 Rows.demandFadesRow.domain false) (Rows.demandFadesSpec.post enc Try.prog Try.f4 false true false false) := by
  refine returnsInHanded_of_change (C := Try.checked) own started (by kernel_rfl) Try.func4
    (ChangeSpec.witness6 (enc := enc) (C := Try.checked) false ⟨#[], #[.slice none 0 0, .int .i64 0, .int .i64 0], []⟩ 16 (by kernel_rfl) (by kernel_rfl) (by kernel_rfl) (by kernel_rfl)) ?_
  intro W base args ds gs before hval0 hW hcnd _
  have hval : ∀ (j : Nat) t v, Try.f4.params[j]? = some t → args[j]? = some v → Value.okWide Try.prog W .any base t v := hval0
  have hW' := hW
  obtain ⟨p, q, hA0, hV, rfl, hfz, hnd⟩ := hW
  have hA : DataW.TrodAll enc Try.prog W 0 (fun _ => true) true Try.f4.params.toList args.toList ds p := hA0
  rw [Try.params4] at hA hval
  obtain ⟨v0, vs0, d0, ds0, p0, q0, hargs, rfl, rfl, h0, r0⟩ := trodAll_cons hA
  obtain ⟨v1, vs1, d1, ds1, p1, q1, rfl, rfl, rfl, h1, r1⟩ := trodAll_cons r0
  obtain ⟨v2, vs2, d2, ds2, p2, q2, rfl, rfl, rfl, h2, r2⟩ := trodAll_cons r1
  obtain ⟨rfl, rfl, rfl⟩ := trodAll_nil r2
  obtain rfl : args = #[v0, v1, v2] := by cases args; simp_all
  obtain ⟨rfl, rfl⟩ := trodVars_none hV
  obtain ⟨p0', c0, l0, rfl, hl0, ha0, hn0⟩ := Demand.open_notes (hval 0 22 v0 rfl rfl) h0
  obtain ⟨a1, rfl, -, -, w1⟩ := open_int Try.underlying3 (hval 1 3 v1 rfl rfl) h1
  obtain ⟨a2, rfl, -, -, w2⟩ := open_int Try.underlying3 (hval 2 3 v2 rfl rfl) h2
  clear hA0 hval0
  refine (walk p0' c0 l0 hl0 ha0 hn0 a1 w1 a2 w2 W).mono fun e W' ⟨he, hg⟩ => ?_
  subst he
  exact ⟨_, rfl, Row.law_post hW' rfl rfl rfl rfl (by kernel_rfl) Try.underlying4 (by kernel_rfl) (by kernel_rfl) hg⟩

theorem over : Rows.demandFadesRow.holds Try.pinned (OpenSpec.ofChange Rows.demandFadesSpec) :=
  OpenClaim.holds_of_wide 4 Try.f4 rfl rfl rfl rfl rfl rfl rfl ⟨rfl, rfl, rfl, rfl, rfl⟩ rfl rfl rfl rfl rfl (by kernel_rfl) Try.func4 (by kernel_rfl)
    (of_decide_eq_true (by kernel_rfl)) (by unfold Func.isWrapper; first | (rw [if_pos (by decide +kernel)]; kernel_rfl) | (rw [if_neg (by decide +kernel)]; exact ⟨rfl, rfl⟩))
    (fun os started H enc _ => lifted os started H enc)

/-- The given statement. -/
theorem proved : Rows.DemandFadesSaid :=
  over
#print axioms proved
end Go.Proofs.Ytghbcknbkkhhpaa.demandFades
