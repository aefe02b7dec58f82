/-
  LedgerIdle: for every table, every configuration, and any two times: a key whose row is idle at the first time, looked at, at the second one, is the same when all idle rows are gone, if that is not farther ahead than twice the skew; of a table or a configuration that may not be, and of times below 0 or above 2^62, the live question alone is asked.
-/
import Derived.Test.YtcnnepmhdccipaaRows
import Derived.Test.YtcnnepmhdccipaaLedgerGo
import Derived.Test.YtcnnepmhdccipaaLedgerOpen
import Derived.Test.YtcnnepmhdccipaaLgProg
namespace Go.Proofs.Ytcnnepmhdccipaa.ledgerIdle
open Go.ChangeShapes Go.WideShapes Go.RowKit
open _root_.Go.Proofs.Ytcnnepmhdccipaa.Ledger

theorem walk (t : Frame.Tb) (p : Option Addr) (c : Nat) (hm : (t.rows.length : Int) ≤ 9223372036854775807) {W : World} (hr : Ledger.RowsAt W p t.rows) (f : Cf) (pf : Option Addr) (cf : Nat) (hz : RatesAt W pf f.rates) (x y : Int) (hx : (Lit.int .i64 x).wf = true) (hy : (Lit.int .i64 y).wf = true) (_ : World) :
    Calls Try.prog 5 #[tabVal t p c, cfVal f pf cf, .agg #[.int .i64 x, .int .i64 y]] W fun e w' => e = .returned (.bool true) ∧ Below W.heap.size W w' :=
  idle_way inv9 way9 t p c f pf cf x y W hm (num_of hx) (num_of hy) hr hz

theorem own : ownKnob Try.prog.godebug = none := by kernel_rfl

set_option maxRecDepth 100000 in
theorem lifted (os : Os) (started : os.Started) (H : Type) (enc : TypeId × Value → H) :
    ReturnsInHanded {} Try.checked os 5 .any (Rows.ledgerIdleSpec.pre6 enc Try.prog Try.f5 Rows.ledgerIdleRow.domain false) (Rows.ledgerIdleSpec.post enc Try.prog Try.f5 false true false false) := by
  refine returnsInHanded_of_change (C := Try.checked) own started (by kernel_rfl) Try.func5
    (ChangeSpec.witness6 (enc := enc) (C := Try.checked) false ⟨#[], #[.agg #[.int .i64 0, .slice none 0 0], .agg #[.int .i64 0, .int .i64 0, .int .i64 0, .int .i64 0, .int .i64 0, .int .i64 0, .int .i64 0, .int .i64 0, .slice none 0 0], .agg #[.int .i64 0, .int .i64 0]], []⟩ 16 (by kernel_rfl) (by kernel_rfl) (by kernel_rfl) (by kernel_rfl)) ?_
  intro W base args ds gs before hval0 hW hcnd _
  have hval : ∀ (j : Nat) t v, Try.f5.params[j]? = some t → args[j]? = some v → Value.okWide Try.prog W .any base t v := hval0
  have hW' := hW
  obtain ⟨p, q, hA0, hV, rfl, hfz, hnd⟩ := hW
  have hA : DataW.TrodAll enc Try.prog W 0 (fun _ => true) true Try.f5.params.toList args.toList ds p := hA0
  rw [Try.params5] at hA hval
  obtain ⟨v0, vs0, d0, ds0, p0, q0, hargs, rfl, rfl, h0, r0⟩ := trodAll_cons hA
  obtain ⟨v1, vs1, d1, ds1, p1, q1, rfl, rfl, rfl, h1, r1⟩ := trodAll_cons r0
  obtain ⟨v2, vs2, d2, ds2, p2, q2, rfl, rfl, rfl, h2, r2⟩ := trodAll_cons r1
  obtain ⟨rfl, rfl, rfl⟩ := trodAll_nil r2
  obtain rfl : args = #[v0, v1, v2] := by cases args; simp_all
  obtain ⟨rfl, rfl⟩ := trodVars_none hV
  obtain ⟨t0, p0', c0, rfl, hm0, hr0⟩ := Ledger.open_table (hval 0 24 v0 rfl rfl) h0
  obtain ⟨f1, p1', c1, rfl, hz1⟩ := Ledger.open_conf (hval 1 27 v1 rfl rfl) h1
  obtain ⟨x2, y2, rfl, w2, z2⟩ := Row.open_two Try.underlying53 Try.underlying3 (by kernel_rfl) (by kernel_rfl) (hval 2 53 v2 rfl rfl) h2
  clear hA0 hval0
  refine (walk t0 p0' c0 hm0 hr0 f1 p1' c1 hz1 x2 y2 w2 z2 W).mono fun e W' ⟨he, hg⟩ => ?_
  subst he
  exact ⟨_, rfl, Row.law_post hW' rfl rfl rfl rfl (by kernel_rfl) Try.underlying4 (by kernel_rfl) (by kernel_rfl) hg⟩

theorem over : Rows.ledgerIdleRow.holds Try.pinned (OpenSpec.ofChange Rows.ledgerIdleSpec) :=
  OpenClaim.holds_of_wide 5 Try.f5 rfl rfl rfl rfl rfl rfl rfl ⟨rfl, rfl, rfl, rfl, rfl⟩ rfl rfl rfl rfl rfl (by kernel_rfl) Try.func5 (by kernel_rfl)
    (of_decide_eq_true (by kernel_rfl)) (by unfold Func.isWrapper; first | (rw [if_pos (by decide +kernel)]; kernel_rfl) | (rw [if_neg (by decide +kernel)]; exact ⟨rfl, rfl⟩))
    (fun os started H enc _ => lifted os started H enc)

/-- The given statement. -/
theorem proved : Rows.LedgerIdleSaid :=
  over
#print axioms proved
end Go.Proofs.Ytcnnepmhdccipaa.ledgerIdle
