/-
  Of and puts of layer 7's laws; equality of states, the program's and the document's.
-/
import Derived.Test.YtlbdkigiphnabaaVaultOpen
import Derived.Test.YtlbdkigiphnabaaVaultArgs
import Derived.Laws.StructEq
namespace Go.Proofs.Ytlbdkigiphnabaa.Vault
open Go.RowKit

/-- Are they the same? -/
def same4 (a b : Sv) : Bool := a.p == b.p && (a.g == b.g && (a.h == b.h && a.r == b.r))
theorem same4_iff {a b : Sv} : same4 a b = true ↔ a = b := by
  obtain ⟨a1, a2, a3, a4⟩ := a
  obtain ⟨b1, b2, b3, b4⟩ := b
  simp [same4]
theorem same4_refl (a : Sv) : same4 a a = true := same4_iff.2 rfl

theorem eq_ref (a b : Sv) (w : World) : (Op.equalIn 10000 47 (val a) (val b)).run Try.prog w = .ok (same4 a b) w := by
  obtain ⟨a1, a2, a3, a4⟩ := a
  obtain ⟨b1, b2, b3, b4⟩ := b
  unfold val same4
  rw [run_equalIn_agg w 9999 _ _ _ (by kernel_rfl) (by kernel_rfl)]
  have e : ∀ (a b : Int) (w : World), (Op.equalIn 9999 3 (.int .i64 a) (.int .i64 b)).run Try.prog w = .ok (a == b) w := fun a b w => run_equalIn_int w 9998 _ _ _ a b Try.underlying3
  by_cases h1 : a1 = b1
  · by_cases h2 : a2 = b2
    · by_cases h3 : a3 = b3
      · by_cases h4 : a4 = b4
        · simp [Program.fieldsOf, Try.underlying47, Op.eqFields, part, isAgg, run_underlying Try.underlying3, e, h1, h2, h3, h4]
        · simp [Program.fieldsOf, Try.underlying47, Op.eqFields, part, isAgg, run_underlying Try.underlying3, e, h1, h2, h3, h4]
      · simp [Program.fieldsOf, Try.underlying47, Op.eqFields, part, isAgg, run_underlying Try.underlying3, e, h1, h2, h3]
    · simp [Program.fieldsOf, Try.underlying47, Op.eqFields, part, isAgg, run_underlying Try.underlying3, e, h1, h2]
  · simp [Program.fieldsOf, Try.underlying47, Op.eqFields, part, isAgg, run_underlying Try.underlying3, e, h1]
theorem eql_ref (a b : Sv) (w : World) : (binOp .eql 47 (val a) (val b)).run Try.prog w = .ok (.bool (same4 a b)) w := by
  have := eq_ref a b w
  unfold val at this ⊢
  rw [run_eql_struct, this]; rfl
theorem eq_own (a b : Sv) (w : World) : (Op.equalIn 10000 25 (val a) (val b)).run Try.prog w = .ok (same4 a b) w := by
  obtain ⟨a1, a2, a3, a4⟩ := a
  obtain ⟨b1, b2, b3, b4⟩ := b
  unfold val same4
  rw [run_equalIn_agg w 9999 _ _ _ (by kernel_rfl) (by kernel_rfl)]
  have e : ∀ (a b : Int) (w : World), (Op.equalIn 9999 3 (.int .i64 a) (.int .i64 b)).run Try.prog w = .ok (a == b) w := fun a b w => run_equalIn_int w 9998 _ _ _ a b Try.underlying3
  by_cases h1 : a1 = b1
  · by_cases h2 : a2 = b2
    · by_cases h3 : a3 = b3
      · by_cases h4 : a4 = b4
        · simp [Program.fieldsOf, Try.underlying25, Op.eqFields, part, isAgg, run_underlying Try.underlying3, e, h1, h2, h3, h4]
        · simp [Program.fieldsOf, Try.underlying25, Op.eqFields, part, isAgg, run_underlying Try.underlying3, e, h1, h2, h3, h4]
      · simp [Program.fieldsOf, Try.underlying25, Op.eqFields, part, isAgg, run_underlying Try.underlying3, e, h1, h2, h3]
    · simp [Program.fieldsOf, Try.underlying25, Op.eqFields, part, isAgg, run_underlying Try.underlying3, e, h1, h2]
  · simp [Program.fieldsOf, Try.underlying25, Op.eqFields, part, isAgg, run_underlying Try.underlying3, e, h1]
theorem eql_own (a b : Sv) (w : World) : (binOp .eql 25 (val a) (val b)).run Try.prog w = .ok (.bool (same4 a b)) w := by
  have := eq_own a b w
  unfold val at this ⊢
  rw [run_eql_struct, this]; rfl

set_option maxRecDepth 100000 in
/-- Of. -/
theorem of_any (s : Sv) (w : World) : Calls Try.prog 13 #[val s] w fun e w' => e = .returned (val s) ∧ Below w.heap.size w w' := by
  have hb : ∀ o1 o2, Below w.heap.size w ((w.alloc o1).alloc o2) := fun o1 o2 => ((Below.refl _ _).alloc (Nat.le_refl _) _).alloc (by simp) _
  have HB := Lib.hid hb
  clear hb
  obtain ⟨p, g, h, r⟩ := s
  simp only [val]
  go_enter Try.func13, Try.ntmps13
  go_wp2
  refine bodyPost_ret (v := .agg #[.int .i64 p, .int .i64 g, .int .i64 h, .int .i64 r]) (by simp [results, Try.results13, go_sem]) rfl ⟨rfl, ?_⟩
  exact HB.out _ _

/-- How many puts an act does. -/
def putsOf (a : Ac) : Int := if a.kind % 6 = 0 ∨ a.kind % 6 = 1 ∨ a.kind % 6 = 2 then 1 else if a.kind % 6 = 5 then max (min a.keep 70) 0 else 0
set_option maxRecDepth 100000 in
theorem puts_any (a : Ac) (k0 : 0 ≤ a.kind) (k1 : a.kind < 256) (hk : Num a.keep) (w : World) :
    Calls Try.prog 10 #[.agg #[.int .u8 a.kind, .int .i64 a.s.p, .int .i64 a.s.g, .int .i64 a.s.h, .int .i64 a.s.r, .int .i64 a.keep]] w fun e w' => e = .returned (.int .i64 (putsOf a)) ∧ Below w.heap.size w w' := by
  have hb : ∀ o, Below w.heap.size w (w.alloc o) := fun o => (Below.refl _ _).alloc (Nat.le_refl _) _
  have HB := Lib.hid hb
  have hp := Lib.hid (show putsOf a = if a.kind % 6 = 0 ∨ a.kind % 6 = 1 ∨ a.kind % 6 = 2 then 1 else if a.kind % 6 = 5 then max (min a.keep 70) 0 else 0 from rfl)
  clear hb
  obtain ⟨kind, ⟨p, g, h, r⟩, keep⟩ := a
  simp only at k0 k1 hk hp ⊢
  unfold Num at hk
  obtain ⟨hk0, hk1⟩ := hk
  generalize putsOf ⟨kind, ⟨p, g, h, r⟩, keep⟩ = R at hp ⊢
  have hc : kind % 6 = 0 ∨ kind % 6 = 1 ∨ kind % 6 = 2 ∨ kind % 6 = 3 ∨ kind % 6 = 4 ∨ (kind % 6 = 5 ∧ keep < 0) ∨ (kind % 6 = 5 ∧ 0 ≤ keep ∧ keep ≤ 70) ∨ (kind % 6 = 5 ∧ 70 < keep) := by omega
  rcases hc with e | e | e | e | e | ⟨e, e1⟩ | ⟨e, e1, e2⟩ | ⟨e, e1⟩
  · have HR := Lib.hid (show R = 1 by rw [hp.out]; simp [e])
    clear hp
    go_enter Try.func10, Try.ntmps10
    go_wp2
    go_ret
    exact ⟨by rw [HR.out]; rfl, HB.out _⟩
  · have HR := Lib.hid (show R = 1 by rw [hp.out]; simp [e])
    clear hp
    go_enter Try.func10, Try.ntmps10
    go_wp2
    go_ret
    exact ⟨by rw [HR.out]; rfl, HB.out _⟩
  · have HR := Lib.hid (show R = 1 by rw [hp.out]; simp [e])
    clear hp
    go_enter Try.func10, Try.ntmps10
    go_wp2
    go_ret
    exact ⟨by rw [HR.out]; rfl, HB.out _⟩
  · have HR := Lib.hid (show R = 0 by rw [hp.out]; simp [e])
    clear hp
    go_enter Try.func10, Try.ntmps10
    go_wp2
    go_ret
    exact ⟨by rw [HR.out]; rfl, HB.out _⟩
  · have HR := Lib.hid (show R = 0 by rw [hp.out]; simp [e])
    clear hp
    go_enter Try.func10, Try.ntmps10
    go_wp2
    go_ret
    exact ⟨by rw [HR.out]; rfl, HB.out _⟩
  · have HR := Lib.hid (show R = 0 by rw [hp.out]; simp [e]; omega)
    clear hp
    have e2 : keep ≤ 70 := by omega
    go_enter Try.func10, Try.ntmps10
    go_wp2
    go_ret
    exact ⟨by rw [HR.out]; rfl, HB.out _⟩
  · have HR := Lib.hid (show R = keep by rw [hp.out]; simp [e]; omega)
    clear hp
    go_enter Try.func10, Try.ntmps10
    go_wp2
    go_ret
    exact ⟨by rw [HR.out]; rfl, HB.out _⟩
  · have HR := Lib.hid (show R = 70 by rw [hp.out]; simp [e]; omega)
    clear hp
    go_enter Try.func10, Try.ntmps10
    go_wp2
    go_ret
    exact ⟨by rw [HR.out]; rfl, HB.out _⟩
end Go.Proofs.Ytlbdkigiphnabaa.Vault
