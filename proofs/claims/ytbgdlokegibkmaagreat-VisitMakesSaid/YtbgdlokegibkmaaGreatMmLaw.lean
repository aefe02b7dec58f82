/-
  VisitMakes: NOTHING IS MADE: of any requests of one key at an edge of any configuration, and visits of a token without credit that mints since any time, in any order: behind each act the row's total is not above its rate's B, what it has Out is the node's lease, and what was granted, with what is Avail and unspent, is not more than the rate has minted; of more than 40 acts, or rates, of readings or a start outside 0 to 2^30, the live question alone is asked. No condition.
-/
import Derived.Test.YtbgdlokegibkmaaGreatRows
import Derived.Test.YtbgdlokegibkmaaGreatMmAs
import Derived.Test.YtbgdlokegibkmaaGreatMmAu
import Derived.Test.YtbgdlokegibkmaaGreatMmBr
namespace Go.Proofs.YtbgdlokegibkmaaGreat.visitMakes
open Go.ChangeShapes Go.WideShapes Go.RowKit
open _root_.Go.Proofs.YtbgdlokegibkmaaGreat.Visit
open _root_.Go.Proofs.YtbgdlokegibkmaaGreat.Frame (Tk)
open _root_.Go.Proofs.YtbgdlokegibkmaaGreat.Edge (Cf RatesB CfNum)
open _root_.Go.Proofs.YtbgdlokegibkmaaGreat.Token (tokVal)
theorem walk (f : Cf) (p : Option Addr) (k : Nat) {W : World} (hr : RatesB W.heap.size W p f.zs) (hc : CfNum f) (start : Int) {P : Prop} (_ : P) (pa : Option Addr) (ka : Nat) (l : List Av) (_ : (l.length : Int) ≤ 9223372036854775807) (ha : AvsAt W pa l) (hn : ∀ a ∈ l, AvNum a) (_ : World) :
    Calls Tryz.prog 4 #[f.val p k, .int .i64 start, .slice pa l.length ka] W fun e w' => e = .returned (.bool true) ∧ Below W.heap.size W w' :=
  makes_any way18 freePf W f p k start pa ka l ha hn hr hc
theorem own : ownKnob Tryz.prog.godebug = none := by kernel_rfl
set_option maxRecDepth 100000 in
theorem lifted (os : Os) (started : os.Started) (H : Type) (enc : TypeId × Value → H) :
    ReturnsInHanded {} Tryz.checked os 4 .any (Rows.visitMakesSpec.pre6 enc Tryz.prog Tryz.f4 Rows.visitMakesRow.domain false) (Rows.visitMakesSpec.post enc Tryz.prog Tryz.f4 false true false false) := by
  refine returnsInHanded_of_change (C := Tryz.checked) own started (by kernel_rfl) Tryz.func4
    (ChangeSpec.witness6 (enc := enc) (C := Tryz.checked) false ⟨#[], #[.agg #[.int .i64 0, .int .i64 0, .int .i64 0, .int .i64 0, .int .i64 0, .int .i64 0, .int .i64 0, .int .i64 0, .slice none 0 0], .int .i64 0, .slice none 0 0], []⟩ 16 (by kernel_rfl) (by kernel_rfl) (by kernel_rfl) (by kernel_rfl)) ?_
  intro W base args ds gs before hval0 hW hcnd _
  have hval : ∀ (j : Nat) t v, Tryz.f4.params[j]? = some t → args[j]? = some v → Value.okWide Tryz.prog W .any base t v := hval0
  have hW' := hW
  obtain ⟨p, q, hA0, hV, rfl, hfz, hnd⟩ := hW
  have hA : DataW.TrodAll enc Tryz.prog W 0 (fun _ => true) true Tryz.f4.params.toList args.toList ds p := hA0
  rw [Tryz.params4] at hA hval
  obtain ⟨v0, vs0, d0, ds0, p0, q0, hargs, rfl, rfl, h0, r0⟩ := trodAll_cons hA
  obtain ⟨v1, vs1, d1, ds1, p1, q1, rfl, rfl, rfl, h1, r1⟩ := trodAll_cons r0
  obtain ⟨v2, vs2, d2, ds2, p2, q2, rfl, rfl, rfl, h2, r2⟩ := trodAll_cons r1
  obtain ⟨rfl, rfl, rfl⟩ := trodAll_nil r2
  obtain rfl : args = #[v0, v1, v2] := by cases args; simp_all
  obtain ⟨rfl, rfl⟩ := trodVars_none hV
  obtain ⟨f0, p0', c0, rfl, hr0, hc0⟩ := Visit.open_conf (hval 0 24 v0 rfl rfl) h0
  obtain ⟨a1, rfl, -, -, w1⟩ := open_int Tryz.underlying3 (hval 1 3 v1 rfl rfl) h1
  obtain ⟨p2', c2, l2, rfl, hl2, ha2, hn2⟩ := Visit.open_acts (hval 2 31 v2 rfl rfl) h2
  clear hA0 hval0
  refine (walk f0 p0' c0 hr0 hc0 a1 w1 p2' c2 l2 hl2 ha2 hn2 W).mono fun e W' ⟨he, hg⟩ => ?_
  subst he
  exact ⟨_, rfl, Row.law_post hW' rfl rfl rfl rfl (by kernel_rfl) Tryz.underlying4 (by kernel_rfl) (by kernel_rfl) hg⟩
theorem over : Rows.visitMakesRow.holds Tryz.pinned (OpenSpec.ofChange Rows.visitMakesSpec) :=
  OpenClaim.holds_of_wide 4 Tryz.f4 rfl rfl rfl rfl rfl rfl rfl ⟨rfl, rfl, rfl, rfl, rfl⟩ rfl rfl rfl rfl rfl (by kernel_rfl) Tryz.func4 (by kernel_rfl)
    (of_decide_eq_true (by kernel_rfl)) (by unfold Func.isWrapper; first | (rw [if_pos (by decide +kernel)]; kernel_rfl) | (rw [if_neg (by decide +kernel)]; exact ⟨rfl, rfl⟩))
    (fun os started H enc _ => lifted os started H enc)
/-- The given statement. -/
theorem proved : Rows.VisitMakesSaid :=
  over
#print axioms proved
end Go.Proofs.YtbgdlokegibkmaaGreat.visitMakes
