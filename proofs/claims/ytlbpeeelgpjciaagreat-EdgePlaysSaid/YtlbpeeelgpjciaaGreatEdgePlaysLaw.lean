/-
  EdgePlays: any acts on an edge of any configuration: the answers, and what is told, of each, and behind it who waits, all leases, and what is wanted, are as the document says, or the error; of more than 80 acts, or rates, the live question alone is asked.
-/
import Derived.Test.YtlbpeeelgpjciaaGreatRows
import Derived.Test.YtlbpeeelgpjciaaGreatEdgePlaysLoop
import Derived.Test.YtlbpeeelgpjciaaGreatMgAo
import Derived.Test.YtlbpeeelgpjciaaGreatMgBb
namespace Go.Proofs.YtlbpeeelgpjciaaGreat.edgePlays
open Go.ChangeShapes Go.WideShapes Go.RowKit
open _root_.Go.Proofs.YtlbpeeelgpjciaaGreat.Edge

theorem walk (f : Cf) (p : Option Addr) (k : Nat) {W : World} (hr : RatesB W.heap.size W p f.zs) (hc : CfNum f) (p' : Option Addr) (k' : Nat) (l : List Ac) (_ : (l.length : Int) ≤ 9223372036854775807) (ha : ActsAt W p' l) (hn : ∀ a ∈ l, AcNum a) (_ : World) :
    Calls Tryz.prog 3 #[f.val p k, .slice p' l.length k'] W fun e w' => e = .returned (.bool true) ∧ Below W.heap.size W w' :=
  plays_any way14 W f p k p' k' l hr hc ha hn

theorem own : ownKnob Tryz.prog.godebug = none := by kernel_rfl

set_option maxRecDepth 100000 in
theorem lifted (os : Os) (started : os.Started) (H : Type) (enc : TypeId × Value → H) :
    ReturnsInHanded {} Tryz.checked os 3 .any (Rows.edgePlaysSpec.pre6 enc Tryz.prog Tryz.f3 Rows.edgePlaysRow.domain false) (Rows.edgePlaysSpec.post enc Tryz.prog Tryz.f3 false true false false) := by
  refine returnsInHanded_of_change (C := Tryz.checked) own started (by kernel_rfl) Tryz.func3
    (ChangeSpec.witness6 (enc := enc) (C := Tryz.checked) false ⟨#[], #[.agg #[.int .i64 0, .int .i64 0, .int .i64 0, .int .i64 0, .int .i64 0, .int .i64 0, .int .i64 0, .int .i64 0, .slice none 0 0], .slice none 0 0], []⟩ 16 (by kernel_rfl) (by kernel_rfl) (by kernel_rfl) (by kernel_rfl)) ?_
  intro W base args ds gs before hval0 hW hcnd _
  have hval : ∀ (j : Nat) t v, Tryz.f3.params[j]? = some t → args[j]? = some v → Value.okWide Tryz.prog W .any base t v := hval0
  have hW' := hW
  obtain ⟨p, q, hA0, hV, rfl, hfz, hnd⟩ := hW
  have hA : DataW.TrodAll enc Tryz.prog W 0 (fun _ => true) true Tryz.f3.params.toList args.toList ds p := hA0
  rw [Tryz.params3] at hA hval
  obtain ⟨v0, vs0, d0, ds0, p0, q0, hargs, rfl, rfl, h0, r0⟩ := trodAll_cons hA
  obtain ⟨v1, vs1, d1, ds1, p1, q1, rfl, rfl, rfl, h1, r1⟩ := trodAll_cons r0
  obtain ⟨rfl, rfl, rfl⟩ := trodAll_nil r1
  obtain rfl : args = #[v0, v1] := by cases args; simp_all
  obtain ⟨rfl, rfl⟩ := trodVars_none hV
  obtain ⟨f0, p0', c0, rfl, hr0, hc0⟩ := Edge.open_conf (hval 0 24 v0 rfl rfl) h0
  obtain ⟨p1', c1, l1, rfl, hl1, ha1, hn1⟩ := Edge.open_acts (hval 1 25 v1 rfl rfl) h1
  clear hA0 hval0
  refine (walk f0 p0' c0 hr0 hc0 p1' c1 l1 hl1 ha1 hn1 W).mono fun e W' ⟨he, hg⟩ => ?_
  subst he
  exact ⟨_, rfl, Row.law_post hW' rfl rfl rfl rfl (by kernel_rfl) Tryz.underlying4 (by kernel_rfl) (by kernel_rfl) hg⟩

theorem over : Rows.edgePlaysRow.holds Tryz.pinned (OpenSpec.ofChange Rows.edgePlaysSpec) :=
  OpenClaim.holds_of_wide 3 Tryz.f3 rfl rfl rfl rfl rfl rfl rfl ⟨rfl, rfl, rfl, rfl, rfl⟩ rfl rfl rfl rfl rfl (by kernel_rfl) Tryz.func3 (by kernel_rfl)
    (of_decide_eq_true (by kernel_rfl)) (by unfold Func.isWrapper; first | (rw [if_pos (by decide +kernel)]; kernel_rfl) | (rw [if_neg (by decide +kernel)]; exact ⟨rfl, rfl⟩))
    (fun os started H enc _ => lifted os started H enc)

/-- The given statement. -/
theorem proved : Rows.EdgePlaysSaid :=
  over
#print axioms proved
end Go.Proofs.YtlbpeeelgpjciaaGreat.edgePlays
