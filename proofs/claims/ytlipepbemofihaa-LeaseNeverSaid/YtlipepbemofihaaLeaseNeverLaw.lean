/-
  LeaseNever: of a lease that is put, and any spendings, at any readings: each that is told is of its generation, and ahead of its Until, all together are not more than its amount, and what Close tells is what was spent; of a lease that may not be put, and of more than 80 acts, the live question alone is asked.
-/
import Derived.Test.YtlipepbemofihaaRows
import Derived.Test.YtlipepbemofihaaLeaseNeverWay
import Derived.Test.YtlipepbemofihaaLeaseOpen
import Derived.Test.YtlipepbemofihaaLsProg
namespace Go.Proofs.Ytlipepbemofihaa.leaseNever
open Go.ChangeShapes Go.WideShapes Go.RowKit
open _root_.Go.Proofs.Ytlipepbemofihaa.Lease

theorem walk (x : Lz) (nx : Nums x) (p : Option Addr) (c : Nat) (l : List Ac) (_ : (l.length : Int) ≤ 9223372036854775807) {W : World} (ha : ActsAt W p l) (hn : ∀ a ∈ l, AcNum a) (_ : World) :
    Calls Try.prog 4 #[val x, .slice p l.length c] W fun e w' => e = .returned (.bool true) ∧ Below W.heap.size W w' := by
  by_cases hm : l.length ≤ 80
  · exact never_few way11 W x nx p c l ha hn hm
  · exact never_many way11 W p c l.length (by omega) x

theorem own : ownKnob Try.prog.godebug = none := by kernel_rfl

set_option maxRecDepth 100000 in
theorem lifted (os : Os) (started : os.Started) (H : Type) (enc : TypeId × Value → H) :
    ReturnsInHanded {} Try.checked os 4 .any (Rows.leaseNeverSpec.pre6 enc Try.prog Try.f4 Rows.leaseNeverRow.domain false) (Rows.leaseNeverSpec.post enc Try.prog Try.f4 false true false false) := by
  refine returnsInHanded_of_change (C := Try.checked) own started (by kernel_rfl) Try.func4
    (ChangeSpec.witness6 (enc := enc) (C := Try.checked) false ⟨#[], #[.agg #[.int .i64 0, .int .i64 0, .int .i64 0, .int .i64 0, .int .i64 0], .slice none 0 0], []⟩ 16 (by kernel_rfl) (by kernel_rfl) (by kernel_rfl) (by kernel_rfl)) ?_
  intro W base args ds gs before hval0 hW hcnd _
  have hval : ∀ (j : Nat) t v, Try.f4.params[j]? = some t → args[j]? = some v → Value.okWide Try.prog W .any base t v := hval0
  have hW' := hW
  obtain ⟨p, q, hA0, hV, rfl, hfz, hnd⟩ := hW
  have hA : DataW.TrodAll enc Try.prog W 0 (fun _ => true) true Try.f4.params.toList args.toList ds p := hA0
  rw [Try.params4] at hA hval
  obtain ⟨v0, vs0, d0, ds0, p0, q0, hargs, rfl, rfl, h0, r0⟩ := trodAll_cons hA
  obtain ⟨v1, vs1, d1, ds1, p1, q1, rfl, rfl, rfl, h1, r1⟩ := trodAll_cons r0
  obtain ⟨rfl, rfl, rfl⟩ := trodAll_nil r1
  obtain rfl : args = #[v0, v1] := by cases args; simp_all
  obtain ⟨rfl, rfl⟩ := trodVars_none hV
  obtain ⟨x0, rfl, hx0⟩ := Lease.open_lease (hval 0 33 v0 rfl rfl) h0
  obtain ⟨p1', c1, l1, rfl, hl1, ha1, hn1⟩ := Lease.open_acts (hval 1 22 v1 rfl rfl) h1
  clear hA0 hval0
  refine (walk x0 hx0 p1' c1 l1 hl1 ha1 hn1 W).mono fun e W' ⟨he, hg⟩ => ?_
  subst he
  exact ⟨_, rfl, Row.law_post hW' rfl rfl rfl rfl (by kernel_rfl) Try.underlying4 (by kernel_rfl) (by kernel_rfl) hg⟩

theorem over : Rows.leaseNeverRow.holds Try.pinned (OpenSpec.ofChange Rows.leaseNeverSpec) :=
  OpenClaim.holds_of_wide 4 Try.f4 rfl rfl rfl rfl rfl rfl rfl ⟨rfl, rfl, rfl, rfl, rfl⟩ rfl rfl rfl rfl rfl (by kernel_rfl) Try.func4 (by kernel_rfl)
    (of_decide_eq_true (by kernel_rfl)) (by unfold Func.isWrapper; first | (rw [if_pos (by decide +kernel)]; kernel_rfl) | (rw [if_neg (by decide +kernel)]; exact ⟨rfl, rfl⟩))
    (fun os started H enc _ => lifted os started H enc)

/-- The given statement. -/
theorem proved : Rows.LeaseNeverSaid :=
  over
#print axioms proved
end Go.Proofs.Ytlipepbemofihaa.leaseNever
