/-
  The document's Same, of any two lists of leases; the law's Of.
-/
import Derived.Test.YtlipepbemofihaaLeaseLeft
import Derived.Laws.StructEq
namespace Go.Proofs.Ytlipepbemofihaa.Lease
open Go.RowKit
open _root_.Go.Proofs.Ytlipepbemofihaa.Codec (lt_of_heap frozen_of heap_set below_new own_below)

/-- Are they the same? -/
def same5 (a b : Lz) : Bool := a.key == b.key && (a.gen == b.gen && (a.amount == b.amount && (a.spent == b.spent && a.til == b.til)))
theorem same5_iff {a b : Lz} : same5 a b = true ↔ a = b := by
  obtain ⟨a1, a2, a3, a4, a5⟩ := a
  obtain ⟨b1, b2, b3, b4, b5⟩ := b
  simp [same5]
theorem eq5 (a b : Lz) (w : World) : (Op.equalIn 10000 52 (val a) (val b)).run Try.prog w = .ok (same5 a b) w := by
  obtain ⟨a1, a2, a3, a4, a5⟩ := a
  obtain ⟨b1, b2, b3, b4, b5⟩ := b
  unfold val same5
  rw [run_equalIn_agg w 9999 _ _ _ (by kernel_rfl) (by kernel_rfl)]
  have e : ∀ (a b : Int) (w : World), (Op.equalIn 9999 3 (.int .i64 a) (.int .i64 b)).run Try.prog w = .ok (a == b) w := fun a b w => run_equalIn_int w 9998 _ _ _ a b Try.underlying3
  by_cases h1 : a1 = b1
  · by_cases h2 : a2 = b2
    · by_cases h3 : a3 = b3
      · by_cases h4 : a4 = b4
        · by_cases h5 : a5 = b5
          · simp [Program.fieldsOf, Try.underlying52, Op.eqFields, part, isAgg, run_underlying Try.underlying3, e, h1, h2, h3, h4, h5]
          · simp [Program.fieldsOf, Try.underlying52, Op.eqFields, part, isAgg, run_underlying Try.underlying3, e, h1, h2, h3, h4, h5]
        · simp [Program.fieldsOf, Try.underlying52, Op.eqFields, part, isAgg, run_underlying Try.underlying3, e, h1, h2, h3, h4]
      · simp [Program.fieldsOf, Try.underlying52, Op.eqFields, part, isAgg, run_underlying Try.underlying3, e, h1, h2, h3]
    · simp [Program.fieldsOf, Try.underlying52, Op.eqFields, part, isAgg, run_underlying Try.underlying3, e, h1, h2]
  · simp [Program.fieldsOf, Try.underlying52, Op.eqFields, part, isAgg, run_underlying Try.underlying3, e, h1]
theorem neq5 (a b : Lz) (w : World) : (binOp .neq 52 (val a) (val b)).run Try.prog w = .ok (.bool (!same5 a b)) w := by
  have := eq5 a b w
  unfold val at this ⊢
  rw [run_neq_struct, this]; rfl

/-- Two lists that lie are the same list: Same says so. -/
theorem rsame_any {l m : List Lz} {p q : Option Addr} {c d : Nat} {w : World} (h : Lies w p l) (h' : Lies w q m) (e : l = m) (hl : l.length ≤ 1000) :
    Calls Try.prog 9 #[.slice p l.length c, .slice q m.length d] w fun e w' => e = .returned (.bool true) ∧ Below w.heap.size w w' := by
  subst e
  have HB := Lib.hid (Below.refl w.heap.size w)
  have HL := Lib.hid h
  have HM := Lib.hid h'
  clear h h'
  have hne : ((l.length : Int) != (l.length : Int)) = false := by simp
  go_enter Try.func9, Try.ntmps9
  go_wp2
  go_loopw [5] (fun i wr => ∃ j : Nat, j ≤ l.length ∧ i = .int .i64 (j : Int) ∧ Hid (Below w.heap.size w wr)) (fun i _ => l.length - (intOf i).toNat)
  case atStart => exact ⟨0, by omega, rfl, HB⟩
  case round =>
    obtain ⟨j, hj, rfl, hbw⟩ := hrel
    by_cases hlt : j < l.length
    · obtain ⟨b, o, rfl, k0, k1, k2, k3, k4⟩ := lies_at (HL.out.below hbw.out) hlt
      obtain ⟨b', o', rfl, x0, x1, x2, x3, x4⟩ := lies_at (HM.out.below hbw.out) hlt
      have hlt' : (j : Int) < (l.length : Int) := by omega
      have heq := fun i => neq5 (l.getD j z) (l.getD j z) (wr.drewN i)
      rw [same5_iff.2 rfl] at heq
      generalize l.getD j z = x at *
      obtain ⟨xk, xg, xa, xs, xt⟩ := x
      simp only [val, Bool.not_true] at heq k0 k1 k2 k3 k4 x0 x1 x2 x3 x4
      clear HL HM
      go_wp2
      go_quiet (fail)
      go_wp2
      go_roundw
      case rel => exact ⟨j + 1, by omega, by go_num, Lib.hid (hbw.out.trans ((below_drewN _ _).mono hbw.out.size))⟩
      case measure => simp only [intOf]; omega
    · have hlt' : ¬ (j : Int) < (l.length : Int) := by omega
      clear HL HM
      go_wp2
      go_ret
      exact ⟨rfl, hbw.out⟩

set_option maxRecDepth 100000 in
set_option maxHeartbeats 4000000 in
/-- Of: the program's leases, as the document has them. -/
theorem of_any {l : List Lz} {p : Option Addr} {c : Nat} {w : World} (h : Lies w p l) (hl : l.length ≤ 1000) :
    Calls Try.prog 10 #[.slice p l.length c] w fun e w' => ∃ q d, e = .returned (.slice q l.length d) ∧ Lies w' q l ∧ Below w.heap.size w w' := by
  have HL := Lib.hid h
  clear h
  go_enter Try.func10, Try.ntmps10
  go_wp2
  go_loopw [3, 4] (fun y i wr => ∃ (j : Nat) (q : Option Addr) (d : Nat), j ≤ l.length ∧ i = .int .i64 (j : Int) ∧ y = .slice q j d ∧ Hid (Own 52 w.heap.size wr y (l.take j)) ∧ Below w.heap.size w wr) (fun _ i _ => l.length - (intOf i).toNat)
  case atStart => exact ⟨0, none, 0, by omega, rfl, rfl, Lib.hid (Own.none _ _ _), Below.refl _ _⟩
  case round =>
    obtain ⟨j, q, d, hj, rfl, rfl, hown, hbw⟩ := hrel
    have HBW := Lib.hid hbw
    by_cases hlt : j < l.length
    · obtain ⟨b, o, rfl, k0, k1, k2, k3, k4⟩ := lies_at (HL.out.below hbw) hlt
      have hlt' : (j : Int) < (l.length : Int) := by omega
      have HT := Lib.hid (take_snoc hlt)
      have HN := Lib.hid (show (l.take j).length = j by simp; omega)
      generalize l.getD j z = x at *
      generalize l.take j = L at *
      obtain ⟨xk, xg, xa, xs, xt⟩ := x
      simp only at k0 k1 k2 k3 k4
      clear hbw
      have HU := Lib.hid (fun (o : Obj) => (Below.refl wr.heap.size wr).alloc (Nat.le_refl _) o)
      have HG := Lib.hid (fun (o o' : Obj) => show ((wr.alloc o).alloc o').heap[wr.heap.size + 1]? = some o' from by have := heap_alloc_new (wr.alloc o) o'; simpa using this)
      go_wp2_with (at_builtin; refine push_lease rfl (.tmp 16) (.tmp 28) rfl w wr (.slice q j d) rfl L j HN.out hown.out HBW.out (HU.out _) (wr.heap.size + 1) ⟨xk, xg, xa, xs, xt⟩ rfl (HG.out _ _) (by omega) ?_; intro p4 c4 w4 R4 B4)
      go_roundw
      case rel => exact ⟨j + 1, p4, c4, by omega, by go_num, rfl, by rw [HT.out]; exact R4, B4⟩
      case measure => simp only [intOf]; omega
    · have hlt' : ¬ (j : Int) < (l.length : Int) := by omega
      have e : j = l.length := by omega
      have hw := hown.out
      rw [List.take_of_length_le (by omega)] at hw
      obtain ⟨q', d', hq, hlies⟩ := hw.lies
      simp only [Value.slice.injEq] at hq
      obtain ⟨rfl, -, rfl⟩ := hq
      have HQ := Lib.hid hlies
      clear hlies hw hown
      go_wp2
      subst e
      refine bodyPost_ret (v := .slice q l.length d) (by simp [results, Try.results10, go_sem]) rfl ⟨q, ⟨d, rfl⟩, HQ.out, HBW.out⟩
end Go.Proofs.Ytlipepbemofihaa.Lease
