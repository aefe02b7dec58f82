/-
  The document's Same of lists of ints, sameRow and SameTable: each returns what the plain functions of FramePlain give, of any two; of what lay when the call began nothing has turned.
-/
import Derived.Test.YtkdjhphakopfeaaFrameRight
import Derived.Laws.StructEq
namespace Go.Proofs.Ytkdjhphakopfeaa.Frame
open Go.RowKit Codec

theorem eq_lease (x y x' y' : Int) (w : World) : (Op.equalIn 10000 97 (.agg #[.int .i64 x, .int .i64 y]) (.agg #[.int .i64 x', .int .i64 y'])).run Try.prog w = .ok (x == x' && y == y') w := by
  rw [run_equalIn_agg w 9999 _ _ _ (by kernel_rfl) (by kernel_rfl)]
  have e : ∀ (a b : Int) (w : World), (Op.equalIn 9999 3 (.int .i64 a) (.int .i64 b)).run Try.prog w = .ok (a == b) w := fun a b w => run_equalIn_int w 9998 _ _ _ a b Try.underlying3
  cases h : (x == x')
  · simp [Program.fieldsOf, Try.underlying97, Op.eqFields, part, isAgg, run_underlying Try.underlying3, e, h]
  · by_cases k : y = y'
    · simp [Program.fieldsOf, Try.underlying97, Op.eqFields, part, isAgg, run_underlying Try.underlying3, e, h, k]
    · simp [Program.fieldsOf, Try.underlying97, Op.eqFields, part, isAgg, run_underlying Try.underlying3, e, h, k]
theorem neq_lease (x y x' y' : Int) (w : World) : (binOp .neq 97 (.agg #[.int .i64 x, .int .i64 y]) (.agg #[.int .i64 x', .int .i64 y'])).run Try.prog w = .ok (.bool (!(x == x' && y == y'))) w := by
  rw [run_neq_struct, eq_lease]; rfl

set_option maxRecDepth 100000 in
set_option maxHeartbeats 1000000 in
/-- Same, of any two lists. -/
theorem ints_any (a b : List Int) (p q : Option Addr) (c d : Nat) (w : World) (hn : (a.length : Int) ≤ 9223372036854775807) (ha : Ints w p a) (hb : Ints w q b) :
    Calls Try.prog 42 #[.slice p a.length c, .slice q b.length d] w (Asked w (sameInts a b)) := by
  unfold sameInts
  by_cases hl : a.length = b.length
  · have e : (a.length == b.length) = true := by simpa using hl
    rw [e, Bool.true_and, ← hl]
    have HLN := Lib.hid hl
    clear e hl
    generalize hB : allTo (fun i => a.getD i 0 == b.getD i 0) a.length = R
    have HB := Lib.hid hB
    have HA := Lib.hid ha
    have HBB := Lib.hid hb
    clear hB ha hb
    go_enter Try.func42, Try.ntmps42
    go_wp2
    go_loopw [5] (fun i wr => ∃ j : Nat, j ≤ a.length ∧ i = .int .i64 (j : Int) ∧ Hid (∀ q, q < j → (a.getD q 0 == b.getD q 0) = true) ∧ Below w.heap.size w wr) (fun i _ => a.length - (intOf i).toNat)
    case atStart => exact ⟨0, by omega, rfl, (by intro q hq; omega), Below.refl _ _⟩
    case round =>
      obtain ⟨j, hj, rfl, hok, hbw⟩ := hrel
      by_cases hlt : j < a.length
      · obtain ⟨g, o, rfl, hc⟩ : ∃ g o, p = some ⟨g, o, none⟩ ∧ ∀ j, j < a.length → w.cell? ⟨g, o + j, none⟩ = some (.int .i64 (a.getD j 0)) := by
          rcases HA.out with h | h
          · rw [h] at hlt; simp at hlt
          · exact h
        obtain ⟨g', o', rfl, hc'⟩ : ∃ g o, q = some ⟨g, o, none⟩ ∧ ∀ j, j < b.length → w.cell? ⟨g, o + j, none⟩ = some (.int .i64 (b.getD j 0)) := by
          rcases HBB.out with h | h
          · have := HLN.out; rw [h] at this; simp at this; rw [this] at hlt; simp at hlt
          · exact h
        have c1 := cell_on (hc j hlt) hbw
        have c2 := cell_on (hc' j (by rw [← HLN.out]; exact hlt)) hbw
        have hlt' : (j : Int) < (a.length : Int) := by omega
        clear hc hc'
        have HJ := Lib.hid (show ∀ bo, (a.getD j 0 == b.getD j 0) = bo → (bo = false → R = false) ∧ (bo = true → ∀ q, q < j + 1 → (a.getD q 0 == b.getD q 0) = true) from fun bo hbo =>
          ⟨fun h => by rw [← HB.out]; exact allTo_false hlt (by rw [hbo]; exact h), fun h q hq => by
            rcases Nat.lt_succ_iff_lt_or_eq.1 hq with h1 | h1
            · exact hok.out q h1
            · rw [h1, hbo]; exact h⟩)
        generalize a.getD j 0 = x at c1 HJ
        generalize b.getD j 0 = y at c2 HJ
        by_cases hxy : x = y
        · have HK := Lib.hid ((HJ.out true (by simpa using hxy)).2 rfl)
          have hd : (x != y) = false := by simpa using hxy
          clear hxy HJ
          go_wp2
          go_quiet (fail)
          go_wp2
          go_roundw
          case rel => exact ⟨j + 1, by omega, by go_num, HK, below_drewN hbw _⟩
          case measure => simp [intOf]; omega
        · obtain rfl := (HJ.out false (by simpa using hxy)).1 rfl
          have hd : (x != y) = true := by simpa using hxy
          clear hxy HJ
          go_wp2
          go_quiet (fail)
          go_wp2
          go_ret
          exact ⟨rfl, below_drewN hbw _⟩
      · obtain rfl : j = a.length := by omega
        obtain rfl : R = true := by rw [← HB.out]; exact allTo_true hok.out
        go_wp2
        go_ret
        exact ⟨rfl, hbw⟩
  · have e : (a.length == b.length) = false := by simpa using hl
    rw [e, Bool.false_and]
    have hd : ((a.length : Int) != (b.length : Int)) = true := by simp; omega
    clear e hl ha hb
    generalize a.length = n at hd hn ⊢
    generalize b.length = m at hd ⊢
    go_enter Try.func42, Try.ntmps42
    go_wp2
    go_ret
    exact ⟨rfl, Below.refl _ _⟩
end Go.Proofs.Ytkdjhphakopfeaa.Frame
