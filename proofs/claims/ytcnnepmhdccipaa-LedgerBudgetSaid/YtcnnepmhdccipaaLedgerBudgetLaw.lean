/-
  LedgerBudget: for every start, all acts of one key, and every rate: behind each act the total is not more than B, and Avail not below 0; what was settled as spent since any of them is not more than its total then, and R times how far the Mark has gone since; of more than 60 acts, and of a start, R, B or a time beyond 2^31, the live question alone is asked (from that time on).
-/
import Derived.Test.YtcnnepmhdccipaaRows
import Derived.Test.YtcnnepmhdccipaaLedgerGo
import Derived.Test.YtcnnepmhdccipaaLedgerOpen
import Derived.Test.YtcnnepmhdccipaaLgProg
namespace Go.Proofs.Ytcnnepmhdccipaa.ledgerBudget
open Go.ChangeShapes Go.WideShapes Go.RowKit
open _root_.Go.Proofs.Ytcnnepmhdccipaa.Ledger

theorem walk (start : Int) (_ : (Lit.int .i64 start).wf = true) (p : Option Addr) (c : Nat) (l : List Ac) {W : World} (ha : ActsAt W p l) (hln : ∀ a ∈ l, AcNum a) (R B : Int) (_ : World) :
    Calls Try.prog 4 #[.int .i64 start, .slice p l.length c, .agg #[.int .i64 R, .int .i64 B]] W fun e w' => e = .returned (.bool true) ∧ Below W.heap.size W w' :=
  budget_any inv9 way9 start R B l p c W hln ha

theorem own : ownKnob Try.prog.godebug = none := by kernel_rfl

set_option maxRecDepth 100000 in
theorem lifted (os : Os) (started : os.Started) (H : Type) (enc : TypeId × Value → H) :
    ReturnsInHanded {} Try.checked os 4 .any (Rows.ledgerBudgetSpec.pre6 enc Try.prog Try.f4 Rows.ledgerBudgetRow.domain false) (Rows.ledgerBudgetSpec.post enc Try.prog Try.f4 false true false false) := by
  refine returnsInHanded_of_change (C := Try.checked) own started (by kernel_rfl) Try.func4
    (ChangeSpec.witness6 (enc := enc) (C := Try.checked) false ⟨#[], #[.int .i64 0, .slice none 0 0, .agg #[.int .i64 0, .int .i64 0]], []⟩ 16 (by kernel_rfl) (by kernel_rfl) (by kernel_rfl) (by kernel_rfl)) ?_
  intro W base args ds gs before hval0 hW hcnd _
  have hval : ∀ (j : Nat) t v, Try.f4.params[j]? = some t → args[j]? = some v → Value.okWide Try.prog W .any base t v := hval0
  have hW' := hW
  obtain ⟨p, q, hA0, hV, rfl, hfz, hnd⟩ := hW
  have hA : DataW.TrodAll enc Try.prog W 0 (fun _ => true) true Try.f4.params.toList args.toList ds p := hA0
  rw [Try.params4] at hA hval
  obtain ⟨v0, vs0, d0, ds0, p0, q0, hargs, rfl, rfl, h0, r0⟩ := trodAll_cons hA
  obtain ⟨v1, vs1, d1, ds1, p1, q1, rfl, rfl, rfl, h1, r1⟩ := trodAll_cons r0
  obtain ⟨v2, vs2, d2, ds2, p2, q2, rfl, rfl, rfl, h2, r2⟩ := trodAll_cons r1
  obtain ⟨rfl, rfl, rfl⟩ := trodAll_nil r2
  obtain rfl : args = #[v0, v1, v2] := by cases args; simp_all
  obtain ⟨rfl, rfl⟩ := trodVars_none hV
  obtain ⟨a0, rfl, -, -, w0⟩ := open_int Try.underlying3 (hval 0 3 v0 rfl rfl) h0
  obtain ⟨p1', c1, l1, rfl, ha1, hn1⟩ := Ledger.open_acts (hval 1 28 v1 rfl rfl) h1
  obtain ⟨x2, y2, rfl⟩ := Ledger.open_rate (hval 2 44 v2 rfl rfl) h2
  clear hA0 hval0
  refine (walk a0 w0 p1' c1 l1 ha1 hn1 x2 y2 W).mono fun e W' ⟨he, hg⟩ => ?_
  subst he
  exact ⟨_, rfl, Row.law_post hW' rfl rfl rfl rfl (by kernel_rfl) Try.underlying4 (by kernel_rfl) (by kernel_rfl) hg⟩

theorem over : Rows.ledgerBudgetRow.holds Try.pinned (OpenSpec.ofChange Rows.ledgerBudgetSpec) :=
  OpenClaim.holds_of_wide 4 Try.f4 rfl rfl rfl rfl rfl rfl rfl ⟨rfl, rfl, rfl, rfl, rfl⟩ rfl rfl rfl rfl rfl (by kernel_rfl) Try.func4 (by kernel_rfl)
    (of_decide_eq_true (by kernel_rfl)) (by unfold Func.isWrapper; first | (rw [if_pos (by decide +kernel)]; kernel_rfl) | (rw [if_neg (by decide +kernel)]; exact ⟨rfl, rfl⟩))
    (fun os started H enc _ => lifted os started H enc)

/-- The given statement. -/
theorem proved : Rows.LedgerBudgetSaid :=
  over
#print axioms proved
end Go.Proofs.Ytcnnepmhdccipaa.ledgerBudget
