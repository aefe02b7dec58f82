/-
  ElectPlays: any numbers, any acts: what the program's election tells, or its error, and what is promised, the round, and whether it stands, are as the document says; of none likewise; of more than 120 acts the live question alone is asked.
-/
import Derived.Test.YthehbphpchmdiaaRows
import Derived.Test.YthehbphpchmdiaaElectOpen
import Derived.Test.YthehbphpchmdiaaElProg
namespace Go.Proofs.Ythehbphpchmdiaa.electPlays
open Go.ChangeShapes Go.WideShapes Go.RowKit
open _root_.Go.Proofs.Ythehbphpchmdiaa.Elect

theorem walk (n node pr ro : Int) (n1 : Num n) (n2 : Num node) (n3 : Num pr) (n4 : Num ro) (p : Option Addr) (c : Nat) (l : List Ac) {W : World} (ha : Kit.Lies acts W p l) (hn : ∀ a ∈ l, AcNum a) (_ : World) :
    Calls Try.prog 3 #[.agg #[.int .i64 n, .int .i64 node, .int .i64 pr, .int .i64 ro], .slice p l.length c] W fun e w' => e = .returned (.bool true) ∧ Below W.heap.size W w' :=
  plays_any way17 W n node pr ro n1 n2 n3 n4 p c l ha hn

theorem own : ownKnob Try.prog.godebug = none := by kernel_rfl

set_option maxRecDepth 100000 in
theorem lifted (os : Os) (started : os.Started) (H : Type) (enc : TypeId × Value → H) :
    ReturnsInHanded {} Try.checked os 3 .any (Rows.electPlaysSpec.pre6 enc Try.prog Try.f3 Rows.electPlaysRow.domain false) (Rows.electPlaysSpec.post enc Try.prog Try.f3 false true false false) := by
  refine returnsInHanded_of_change (C := Try.checked) own started (by kernel_rfl) Try.func3
    (ChangeSpec.witness6 (enc := enc) (C := Try.checked) false ⟨#[], #[.agg #[.int .i64 0, .int .i64 0, .int .i64 0, .int .i64 0], .slice none 0 0], []⟩ 16 (by kernel_rfl) (by kernel_rfl) (by kernel_rfl) (by kernel_rfl)) ?_
  intro W base args ds gs before hval0 hW hcnd _
  have hval : ∀ (j : Nat) t v, Try.f3.params[j]? = some t → args[j]? = some v → Value.okWide Try.prog W .any base t v := hval0
  have hW' := hW
  obtain ⟨p, q, hA0, hV, rfl, hfz, hnd⟩ := hW
  have hA : DataW.TrodAll enc Try.prog W 0 (fun _ => true) true Try.f3.params.toList args.toList ds p := hA0
  rw [Try.params3] at hA hval
  obtain ⟨v0, vs0, d0, ds0, p0, q0, hargs, rfl, rfl, h0, r0⟩ := trodAll_cons hA
  obtain ⟨v1, vs1, d1, ds1, p1, q1, rfl, rfl, rfl, h1, r1⟩ := trodAll_cons r0
  obtain ⟨rfl, rfl, rfl⟩ := trodAll_nil r1
  obtain rfl : args = #[v0, v1] := by cases args; simp_all
  obtain ⟨rfl, rfl⟩ := trodVars_none hV
  obtain ⟨x0, y0, z0, u0, rfl, wx0, wy0, wz0, wu0⟩ := Elect.open_four (hval 0 22 v0 rfl rfl) h0
  obtain ⟨p1', c1, l1, rfl, ha1, hn1⟩ := Elect.open_acts (hval 1 23 v1 rfl rfl) h1
  clear hA0 hval0
  refine (walk x0 y0 z0 u0 wx0 wy0 wz0 wu0 p1' c1 l1 ha1 hn1 W).mono fun e W' ⟨he, hg⟩ => ?_
  subst he
  exact ⟨_, rfl, Row.law_post hW' rfl rfl rfl rfl (by kernel_rfl) Try.underlying4 (by kernel_rfl) (by kernel_rfl) hg⟩

theorem over : Rows.electPlaysRow.holds Try.pinned (OpenSpec.ofChange Rows.electPlaysSpec) :=
  OpenClaim.holds_of_wide 3 Try.f3 rfl rfl rfl rfl rfl rfl rfl ⟨rfl, rfl, rfl, rfl, rfl⟩ rfl rfl rfl rfl rfl (by kernel_rfl) Try.func3 (by kernel_rfl)
    (of_decide_eq_true (by kernel_rfl)) (by unfold Func.isWrapper; first | (rw [if_pos (by decide +kernel)]; kernel_rfl) | (rw [if_neg (by decide +kernel)]; exact ⟨rfl, rfl⟩))
    (fun os started H enc _ => lifted os started H enc)

/-- The given statement. -/
theorem proved : Rows.ElectPlaysSaid :=
  over
#print axioms proved
end Go.Proofs.Ythehbphpchmdiaa.electPlays
