/-
  The document's Same of lists of ints, sameRow and SameTable: each returns what the plain functions of FramePlain give, of any two; of what lay when the call began nothing has turned.
  The document's sameRow and SameTable: each returns what the plain functions of FramePlain give, of any two; of what lay when the call began nothing has turned.
  The document's SameTable, SameToken and Same: each returns what the plain functions of FramePlain give, of any two; of what lay when the call began nothing has turned.
  The document's SameToken and Same: each returns what the plain functions of FramePlain give, of any two; of what lay when the call began nothing has turned.
-/
import Derived.Laws.StructEq
import Derived.Test.YtcnnepmhdccipaaMgH
namespace Go.Proofs.Ytcnnepmhdccipaa.Frame
open Go.RowKit Codec

theorem eq_lease (x y x' y' : Int) (w : World) : (Op.equalIn 10000 78 (.agg #[.int .i64 x, .int .i64 y]) (.agg #[.int .i64 x', .int .i64 y'])).run Try.prog w = .ok (x == x' && y == y') w := by
  rw [run_equalIn_agg w 9999 _ _ _ (by kernel_rfl) (by kernel_rfl)]
  have e : ∀ (a b : Int) (w : World), (Op.equalIn 9999 3 (.int .i64 a) (.int .i64 b)).run Try.prog w = .ok (a == b) w := fun a b w => run_equalIn_int w 9998 _ _ _ a b Try.underlying3
  cases h : (x == x')
  · simp [Program.fieldsOf, Try.underlying78, Op.eqFields, part, isAgg, run_underlying Try.underlying3, e, h]
  · by_cases k : y = y'
    · simp [Program.fieldsOf, Try.underlying78, Op.eqFields, part, isAgg, run_underlying Try.underlying3, e, h, k]
    · simp [Program.fieldsOf, Try.underlying78, Op.eqFields, part, isAgg, run_underlying Try.underlying3, e, h, k]
theorem neq_lease (x y x' y' : Int) (w : World) : (binOp .neq 78 (.agg #[.int .i64 x, .int .i64 y]) (.agg #[.int .i64 x', .int .i64 y'])).run Try.prog w = .ok (.bool (!(x == x' && y == y'))) w := by
  rw [run_neq_struct, eq_lease]; rfl

set_option maxRecDepth 100000 in
set_option maxHeartbeats 1000000 in
/-- Same, of any two lists. -/
theorem ints_any (a b : List Int) (p q : Option Addr) (c d : Nat) (w : World) (hn : (a.length : Int) ≤ 9223372036854775807) (ha : Ints w p a) (hb : Ints w q b) :
    Calls Try.prog 16 #[.slice p a.length c, .slice q b.length d] w (Asked w (sameInts a b)) := by
  unfold sameInts
  by_cases hl : a.length = b.length
  · have e : (a.length == b.length) = true := by simpa using hl
    rw [e, Bool.true_and, ← hl]
    have HLN := Lib.hid hl
    clear e hl
    generalize hB : allTo (fun i => a.getD i 0 == b.getD i 0) a.length = R
    have HB := Lib.hid hB
    have HA := Lib.hid ha
    have HBB := Lib.hid hb
    clear hB ha hb
    go_enter Try.func16, Try.ntmps16
    go_wp2
    go_loopw [5] (fun i wr => ∃ j : Nat, j ≤ a.length ∧ i = .int .i64 (j : Int) ∧ Hid (∀ q, q < j → (a.getD q 0 == b.getD q 0) = true) ∧ Below w.heap.size w wr) (fun i _ => a.length - (intOf i).toNat)
    case atStart => exact ⟨0, by omega, rfl, (by intro q hq; omega), Below.refl _ _⟩
    case round =>
      obtain ⟨j, hj, rfl, hok, hbw⟩ := hrel
      by_cases hlt : j < a.length
      · obtain ⟨g, o, rfl, hc⟩ : ∃ g o, p = some ⟨g, o, none⟩ ∧ ∀ j, j < a.length → w.cell? ⟨g, o + j, none⟩ = some (.int .i64 (a.getD j 0)) := by
          rcases HA.out with h | h
          · rw [h] at hlt; simp at hlt
          · exact h
        obtain ⟨g', o', rfl, hc'⟩ : ∃ g o, q = some ⟨g, o, none⟩ ∧ ∀ j, j < b.length → w.cell? ⟨g, o + j, none⟩ = some (.int .i64 (b.getD j 0)) := by
          rcases HBB.out with h | h
          · have := HLN.out; rw [h] at this; simp at this; rw [this] at hlt; simp at hlt
          · exact h
        have c1 := cell_on (hc j hlt) hbw
        have c2 := cell_on (hc' j (by rw [← HLN.out]; exact hlt)) hbw
        have hlt' : (j : Int) < (a.length : Int) := by omega
        clear hc hc'
        have HJ := Lib.hid (show ∀ bo, (a.getD j 0 == b.getD j 0) = bo → (bo = false → R = false) ∧ (bo = true → ∀ q, q < j + 1 → (a.getD q 0 == b.getD q 0) = true) from fun bo hbo =>
          ⟨fun h => by rw [← HB.out]; exact allTo_false hlt (by rw [hbo]; exact h), fun h q hq => by
            rcases Nat.lt_succ_iff_lt_or_eq.1 hq with h1 | h1
            · exact hok.out q h1
            · rw [h1, hbo]; exact h⟩)
        generalize a.getD j 0 = x at c1 HJ
        generalize b.getD j 0 = y at c2 HJ
        by_cases hxy : x = y
        · have HK := Lib.hid ((HJ.out true (by simpa using hxy)).2 rfl)
          have hd : (x != y) = false := by simpa using hxy
          clear hxy HJ
          go_wp2
          go_quiet (fail)
          go_wp2
          go_roundw
          case rel => exact ⟨j + 1, by omega, by go_num, HK, below_drewN hbw _⟩
          case measure => simp [intOf]; omega
        · obtain rfl := (HJ.out false (by simpa using hxy)).1 rfl
          have hd : (x != y) = true := by simpa using hxy
          clear hxy HJ
          go_wp2
          go_quiet (fail)
          go_wp2
          go_ret
          exact ⟨rfl, below_drewN hbw _⟩
      · obtain rfl : j = a.length := by omega
        obtain rfl : R = true := by rw [← HB.out]; exact allTo_true hok.out
        go_wp2
        go_ret
        exact ⟨rfl, hbw⟩
  · have e : (a.length == b.length) = false := by simpa using hl
    rw [e, Bool.false_and]
    have hd : ((a.length : Int) != (b.length : Int)) = true := by simp; omega
    clear e hl ha hb
    generalize a.length = n at hd hn ⊢
    generalize b.length = m at hd ⊢
    go_enter Try.func16, Try.ntmps16
    go_wp2
    go_ret
    exact ⟨rfl, Below.refl _ _⟩
end Go.Proofs.Ytcnnepmhdccipaa.Frame

namespace Go.Proofs.Ytcnnepmhdccipaa.Frame
open Go.RowKit Codec

set_option maxRecDepth 100000 in
set_option maxHeartbeats 1000000 in
theorem samerow_no (k a m k' a' m' : Int) (p p' : Option Addr) (n n' c c' : Nat) (w : World) (h : (k == k' && a == a' && m == m' && n == n') = false) :
    Calls Try.prog 36 #[.agg #[.int .i64 k, .int .i64 a, .int .i64 m, .slice p n c], .agg #[.int .i64 k', .int .i64 a', .int .i64 m', .slice p' n' c']] w (Asked w false) := by
  have fin : Below w.heap.size w ((w.alloc (.cells #[.int .i64 k, .int .i64 a, .int .i64 m, .slice p n c] 38)).alloc (.cells #[.int .i64 k', .int .i64 a', .int .i64 m', .slice p' n' c'] 38)) := ((Below.refl _ _).alloc (Nat.le_refl _) _).alloc (by simp) _
  rcases and4 h with ⟨h1, -⟩ | ⟨h0, h1, -⟩ | ⟨h0, h2, h1, -⟩ | ⟨h0, h2, h3, h1, -⟩ | ⟨-, -, -, -, h1⟩
  · have d1 : (k != k') = true := by simpa using h1
    clear h h1
    go_enter Try.func36, Try.ntmps36
    go_wp2
    go_ret
    exact ⟨rfl, fin⟩
  · have d0 : (k != k') = false := by simpa using h0
    have d1 : (a != a') = true := by simpa using h1
    clear h h0 h1
    go_enter Try.func36, Try.ntmps36
    go_wp2
    go_ret
    exact ⟨rfl, fin⟩
  · have d0 : (k != k') = false := by simpa using h0
    have d2 : (a != a') = false := by simpa using h2
    have d1 : (m != m') = true := by simpa using h1
    clear h h0 h1 h2
    go_enter Try.func36, Try.ntmps36
    go_wp2
    go_ret
    exact ⟨rfl, fin⟩
  · have d0 : (k != k') = false := by simpa using h0
    have d2 : (a != a') = false := by simpa using h2
    have d3 : (m != m') = false := by simpa using h3
    have d1 : ((n : Int) != (n' : Int)) = true := by simp at h1 ⊢; omega
    clear h h0 h1 h2 h3
    go_enter Try.func36, Try.ntmps36
    go_wp2
    go_ret
    exact ⟨rfl, fin⟩
  · cases h1

set_option maxRecDepth 100000 in
set_option maxHeartbeats 2000000 in
theorem samerow_yes (k a m : Int) (p p' : Option Addr) (l l' : List (Int × Int)) (c c' : Nat) (w : World) (hn : (l.length : Int) ≤ 9223372036854775807) (hl : l.length = l'.length) (ha : LeasesAt w p l) (hb : LeasesAt w p' l') :
    Calls Try.prog 36 #[.agg #[.int .i64 k, .int .i64 a, .int .i64 m, .slice p l.length c], .agg #[.int .i64 k, .int .i64 a, .int .i64 m, .slice p' l.length c']] w (Asked w (sameLeases l l')) := by
  unfold sameLeases
  have HLN := Lib.hid hl
  clear hl
  generalize hB : allTo (fun i => samePair (l.getD i (0, 0)) (l'.getD i (0, 0))) l.length = R
  have HB := Lib.hid hB
  have HA := Lib.hid ha
  have HBB := Lib.hid hb
  clear hB ha hb
  have d0 : (k != k) = false := by simp
  have d1 : (a != a) = false := by simp
  have d2 : (m != m) = false := by simp
  go_enter Try.func36, Try.ntmps36
  go_wp2
  generalize hw0 : (w.alloc (.cells #[.int .i64 k, .int .i64 a, .int .i64 m, .slice p l.length c] 38)).alloc (.cells #[.int .i64 k, .int .i64 a, .int .i64 m, .slice p' l.length c'] 38) = w0
  have b0 : Below w.heap.size w w0 := by rw [← hw0]; exact ((Below.refl _ _).alloc (Nat.le_refl _) _).alloc (by simp) _
  have k3 : w0.cell? ⟨w.heap.size, 3, none⟩ = some (.slice p l.length c) := by
    rw [← hw0, cell_of_row _ _ 3 _ _ (0, 0) ((Below.heap_alloc _ _ _ (by simp)).trans (heap_alloc_new w _))]; rfl
  have k4 : w0.cell? ⟨w.heap.size + 1, 3, none⟩ = some (.slice p' l.length c') := by
    have := heap_alloc_new (w.alloc (.cells #[.int .i64 k, .int .i64 a, .int .i64 m, .slice p l.length c] 38)) (.cells #[.int .i64 k, .int .i64 a, .int .i64 m, .slice p' l.length c'] 38)
    rw [show (w.alloc (.cells #[.int .i64 k, .int .i64 a, .int .i64 m, .slice p l.length c] 38)).heap.size = w.heap.size + 1 by simp] at this
    rw [← hw0, cell_of_row _ _ 3 _ _ (0, 0) this]; rfl
  have HK3 := Lib.hid k3
  have HK4 := Lib.hid k4
  clear hw0 k3 k4 d0 d1 d2
  go_loopw [5] (fun i wr => ∃ j : Nat, j ≤ l.length ∧ i = .int .i64 (j : Int) ∧ Hid (∀ q, q < j → samePair (l.getD q (0, 0)) (l'.getD q (0, 0)) = true) ∧ Below w0.heap.size w0 wr) (fun i _ => l.length - (intOf i).toNat)
  case atStart => exact ⟨0, by omega, rfl, (by intro q hq; omega), Below.refl _ _⟩
  case round =>
    obtain ⟨j, hj, rfl, hok, hbw⟩ := hrel
    have e3 : wr.cell? ⟨w.heap.size, 3, none⟩ = some (.slice p l.length c) := cell_on HK3.out hbw
    have e4 : wr.cell? ⟨w.heap.size + 1, 3, none⟩ = some (.slice p' l.length c') := cell_on HK4.out hbw
    by_cases hlt : j < l.length
    · obtain ⟨g, o, rfl, hc⟩ : ∃ g o, p = some ⟨g, o, none⟩ ∧ ∀ j, j < l.length → w.cell? ⟨g, o + j * 2, none⟩ = some (.int .i64 (l.getD j (0, 0)).1) ∧ w.cell? ⟨g, o + j * 2 + 1, none⟩ = some (.int .i64 (l.getD j (0, 0)).2) := by
        rcases HA.out with h | h
        · rw [h] at hlt; simp at hlt
        · exact h
      obtain ⟨g', o', rfl, hc'⟩ : ∃ g o, p' = some ⟨g, o, none⟩ ∧ ∀ j, j < l'.length → w.cell? ⟨g, o + j * 2, none⟩ = some (.int .i64 (l'.getD j (0, 0)).1) ∧ w.cell? ⟨g, o + j * 2 + 1, none⟩ = some (.int .i64 (l'.getD j (0, 0)).2) := by
        rcases HBB.out with h | h
        · have := HLN.out; rw [h] at this; simp at this; rw [this] at hlt; simp at hlt
        · exact h
      have f1 := cell_on (cell_on (hc j hlt).1 b0) hbw
      have f2 := cell_on (cell_on (hc j hlt).2 b0) hbw
      have f3 := cell_on (cell_on (hc' j (by rw [← HLN.out]; exact hlt)).1 b0) hbw
      have f4 := cell_on (cell_on (hc' j (by rw [← HLN.out]; exact hlt)).2 b0) hbw
      have hlt' : (j : Int) < (l.length : Int) := by omega
      clear hc hc'
      have HJ := Lib.hid (show ∀ bo, samePair (l.getD j (0, 0)) (l'.getD j (0, 0)) = bo → (bo = false → R = false) ∧ (bo = true → ∀ q, q < j + 1 → samePair (l.getD q (0, 0)) (l'.getD q (0, 0)) = true) from fun bo hbo =>
        ⟨fun h => by rw [← HB.out]; exact allTo_false hlt (by rw [hbo]; exact h), fun h q hq => by
          rcases Nat.lt_succ_iff_lt_or_eq.1 hq with h1 | h1
          · exact hok.out q h1
          · rw [h1, hbo]; exact h⟩)
      generalize l.getD j (0, 0) = x at f1 f2 HJ
      generalize l'.getD j (0, 0) = y at f3 f4 HJ
      obtain ⟨x, u⟩ := x
      obtain ⟨y, v⟩ := y
      simp only at f1 f2 f3 f4
      cases hxy : samePair (x, u) (y, v) with
      | true =>
        have HK := Lib.hid ((HJ.out true hxy).2 rfl)
        have nq : ∀ W, (binOp .neq 78 (.agg #[.int .i64 x, .int .i64 u]) (.agg #[.int .i64 y, .int .i64 v])).run Try.prog W = .ok (.bool false) W := fun W => by rw [neq_lease, show (x == y && u == v) = true from hxy]; rfl
        clear hxy HJ
        go_wp2
        go_quiet (fail)
        go_wp2
        go_roundw
        case rel => exact ⟨j + 1, by omega, by go_num, HK, below_drewN hbw _⟩
        case measure => simp [intOf]; omega
      | false =>
        obtain rfl := (HJ.out false hxy).1 rfl
        have nq : ∀ W, (binOp .neq 78 (.agg #[.int .i64 x, .int .i64 u]) (.agg #[.int .i64 y, .int .i64 v])).run Try.prog W = .ok (.bool true) W := fun W => by rw [neq_lease, show (x == y && u == v) = false from hxy]; rfl
        clear hxy HJ
        go_wp2
        go_quiet (fail)
        go_wp2
        go_ret
        exact ⟨rfl, b0.trans ((below_drewN hbw _).mono b0.size)⟩
    · obtain rfl : j = l.length := by omega
      obtain rfl : R = true := by rw [← HB.out]; exact allTo_true hok.out
      go_wp2
      go_ret
      exact ⟨rfl, b0.trans (hbw.mono b0.size)⟩

/-- sameRow, of any two. -/
theorem samerow_any (r s : Rw) (p p' : Option Addr) (c c' : Nat) (w : World) (hn : (r.out.length : Int) ≤ 9223372036854775807) (ha : LeasesAt w p r.out) (hb : LeasesAt w p' s.out) :
    Calls Try.prog 36 #[.agg #[.int .i64 r.key, .int .i64 r.avail, .int .i64 r.mark, .slice p r.out.length c], .agg #[.int .i64 s.key, .int .i64 s.avail, .int .i64 s.mark, .slice p' s.out.length c']] w (Asked w (sameRow r s)) := by
  unfold sameRow
  cases h : (r.key == s.key && r.avail == s.avail && r.mark == s.mark && r.out.length == s.out.length) with
  | false =>
    rw [Bool.false_and]
    exact samerow_no _ _ _ _ _ _ _ _ _ _ _ _ _ h
  | true =>
    rw [Bool.true_and]
    rcases and4 h with ⟨-, h1⟩ | ⟨-, -, h1⟩ | ⟨-, -, -, h1⟩ | ⟨-, -, -, -, h1⟩ | ⟨h0, h1, h2, h3, -⟩
    · cases h1
    · cases h1
    · cases h1
    · cases h1
    · have e0 : r.key = s.key := by simpa using h0
      have e1 : r.avail = s.avail := by simpa using h1
      have e2 : r.mark = s.mark := by simpa using h2
      have e3 : r.out.length = s.out.length := by simpa using h3
      rw [← e0, ← e1, ← e2, ← e3]
      exact samerow_yes _ _ _ _ _ _ _ _ _ _ hn e3 ha hb
end Go.Proofs.Ytcnnepmhdccipaa.Frame

namespace Go.Proofs.Ytcnnepmhdccipaa.Frame
open Go.RowKit Codec

set_option maxRecDepth 100000 in
set_option maxHeartbeats 1000000 in
theorem sametable_no (s s' : Int) (p p' : Option Addr) (n n' c c' : Nat) (w : World) (h : (s == s' && n == n') = false) :
    Calls Try.prog 10 #[.agg #[.int .i64 s, .slice p n c], .agg #[.int .i64 s', .slice p' n' c']] w (Asked w false) := by
  have fin : Below w.heap.size w ((w.alloc (.cells #[.int .i64 s, .slice p n c] 24)).alloc (.cells #[.int .i64 s', .slice p' n' c'] 24)) := ((Below.refl _ _).alloc (Nat.le_refl _) _).alloc (by simp) _
  cases h1 : (s == s') with
  | false =>
    have d1 : (s != s') = true := by simpa using h1
    clear h h1
    go_enter Try.func10, Try.ntmps10
    go_wp2
    go_ret
    exact ⟨rfl, fin⟩
  | true =>
    rw [h1, Bool.true_and] at h
    have d0 : (s != s') = false := by simpa using h1
    have d1 : ((n : Int) != (n' : Int)) = true := by simp at h ⊢; omega
    clear h h1
    go_enter Try.func10, Try.ntmps10
    go_wp2
    go_ret
    exact ⟨rfl, fin⟩

set_option maxRecDepth 100000 in
set_option maxHeartbeats 2000000 in
theorem sametable_yes (s : Int) (p p' : Option Addr) (l l' : List Rw) (c c' : Nat) (w : World) (hn : (l.length : Int) ≤ 9223372036854775807) (hl : l.length = l'.length) (ha : RowsAt w p l) (hb : RowsAt w p' l') (hs : Small l) :
    Calls Try.prog 10 #[.agg #[.int .i64 s, .slice p l.length c], .agg #[.int .i64 s, .slice p' l.length c']] w (Asked w (allTo (fun i => sameRow (l.getD i noRow) (l'.getD i noRow)) l.length)) := by
  have HLN := Lib.hid hl
  clear hl
  generalize hB : allTo (fun i => sameRow (l.getD i noRow) (l'.getD i noRow)) l.length = R
  have HB := Lib.hid hB
  have HA := Lib.hid ha
  have HBB := Lib.hid hb
  have HS := Lib.hid hs
  clear hB ha hb hs
  have d0 : (s != s) = false := by simp
  go_enter Try.func10, Try.ntmps10
  go_wp2
  generalize hw0 : (w.alloc (.cells #[.int .i64 s, .slice p l.length c] 24)).alloc (.cells #[.int .i64 s, .slice p' l.length c'] 24) = w0
  have b0 : Below w.heap.size w w0 := by rw [← hw0]; exact ((Below.refl _ _).alloc (Nat.le_refl _) _).alloc (by simp) _
  have k3 : w0.cell? ⟨w.heap.size, 1, none⟩ = some (.slice p l.length c) := by
    rw [← hw0, cell_of_row _ _ 1 _ _ (0, 0) ((Below.heap_alloc _ _ _ (by simp)).trans (heap_alloc_new w _))]; rfl
  have k4 : w0.cell? ⟨w.heap.size + 1, 1, none⟩ = some (.slice p' l.length c') := by
    have := heap_alloc_new (w.alloc (.cells #[.int .i64 s, .slice p l.length c] 24)) (.cells #[.int .i64 s, .slice p' l.length c'] 24)
    rw [show (w.alloc (.cells #[.int .i64 s, .slice p l.length c] 24)).heap.size = w.heap.size + 1 by simp] at this
    rw [← hw0, cell_of_row _ _ 1 _ _ (0, 0) this]; rfl
  have HK3 := Lib.hid k3
  have HK4 := Lib.hid k4
  clear hw0 k3 k4 d0
  go_loopw [5] (fun i wr => ∃ j : Nat, j ≤ l.length ∧ i = .int .i64 (j : Int) ∧ Hid (∀ q, q < j → sameRow (l.getD q noRow) (l'.getD q noRow) = true) ∧ Below w0.heap.size w0 wr) (fun i _ => l.length - (intOf i).toNat)
  case atStart => exact ⟨0, by omega, rfl, (by intro q hq; omega), Below.refl _ _⟩
  case round =>
    obtain ⟨j, hj, rfl, hok, hbw⟩ := hrel
    have e3 : wr.cell? ⟨w.heap.size, 1, none⟩ = some (.slice p l.length c) := cell_on HK3.out hbw
    have e4 : wr.cell? ⟨w.heap.size + 1, 1, none⟩ = some (.slice p' l.length c') := cell_on HK4.out hbw
    by_cases hlt : j < l.length
    · obtain ⟨g, o, rfl, hc⟩ : ∃ g o, p = some ⟨g, o, none⟩ ∧ ∀ j, j < l.length → RowAt wr g (o + j * 4) (l.getD j noRow) := by
        rcases (HA.out.below b0).below hbw with h | h
        · rw [h] at hlt; simp at hlt
        · exact h
      obtain ⟨g', o', rfl, hc'⟩ : ∃ g o, p' = some ⟨g, o, none⟩ ∧ ∀ j, j < l'.length → RowAt wr g (o + j * 4) (l'.getD j noRow) := by
        rcases (HBB.out.below b0).below hbw with h | h
        · have := HLN.out; rw [h] at this; simp at this; rw [this] at hlt; simp at hlt
        · exact h
      obtain ⟨f0, f1, f2, q3, r3, f3, hle⟩ := hc j hlt
      obtain ⟨f0', f1', f2', q3', r3', f3', hle'⟩ := hc' j (by rw [← HLN.out]; exact hlt)
      have hro := HS.out (l.getD j noRow) (by simp [List.getD, hlt])
      have hrow := fun (u : World) (hu : Below wr.heap.size wr u) => samerow_any (l.getD j noRow) (l'.getD j noRow) q3 q3' r3 r3' u hro (hle.below hu) (hle'.below hu)
      have hlt' : (j : Int) < (l.length : Int) := by omega
      clear hc hc'
      have HJ := Lib.hid (show ∀ bo, sameRow (l.getD j noRow) (l'.getD j noRow) = bo → (bo = false → R = false) ∧ (bo = true → ∀ q, q < j + 1 → sameRow (l.getD q noRow) (l'.getD q noRow) = true) from fun bo hbo =>
        ⟨fun h => by rw [← HB.out]; exact allTo_false hlt (by rw [hbo]; exact h), fun h q hq => by
          rcases Nat.lt_succ_iff_lt_or_eq.1 hq with h1 | h1
          · exact hok.out q h1
          · rw [h1, hbo]; exact h⟩)
      generalize l.getD j noRow = x at f0 f1 f2 f3 hle hro hrow HJ
      generalize l'.getD j noRow = y at f0' f1' f2' f3' hle' hrow HJ
      obtain ⟨x0, x1, x2, x3⟩ := x
      obtain ⟨y0, y1, y2, y3⟩ := y
      simp only at f0 f1 f2 f3 f0' f1' f2' f3' hrow
      clear hle hle' hro
      have HJ2 := Lib.hid (HJ.out _ rfl)
      clear HJ
      generalize sameRow ⟨x0, x1, x2, x3⟩ ⟨y0, y1, y2, y3⟩ = br at hrow HJ2
      go_wp2
      go_region_held3 (fun u => u.cell? ⟨w.heap.size, 1, none⟩ = some (.slice (some ⟨g, o, none⟩) l.length c) ∧ u.cell? ⟨w.heap.size + 1, 1, none⟩ = some (.slice (some ⟨g', o', none⟩) l.length c') ∧ u.cell? ⟨g, o + j * 4, none⟩ = some (.int .i64 x0) ∧ u.cell? ⟨g, o + j * 4 + 1, none⟩ = some (.int .i64 x1) ∧ u.cell? ⟨g, o + j * 4 + 2, none⟩ = some (.int .i64 x2) ∧ u.cell? ⟨g, o + j * 4 + 3, none⟩ = some (.slice q3 x3.length r3) ∧ u.cell? ⟨g', o' + j * 4, none⟩ = some (.int .i64 y0) ∧ u.cell? ⟨g', o' + j * 4 + 1, none⟩ = some (.int .i64 y1) ∧ u.cell? ⟨g', o' + j * 4 + 2, none⟩ = some (.int .i64 y2) ∧ u.cell? ⟨g', o' + j * 4 + 3, none⟩ = some (.slice q3' y3.length r3')) (first | assumption | exact ⟨e3, e4, f0, f1, f2, f3, f0', f1', f2', f3'⟩) (first
        | (go_at_call 36; (with_reducible refine (hrow _ (Below.refl _ _).drew).mono ?_); rintro e u1 ⟨rfl, hb1⟩; have HB1 := Lib.hid (undrew hb1); clear hb1; have s1 : u1.cell? ⟨w.heap.size, 1, none⟩ = some (.slice (some ⟨g, o, none⟩) l.length c) ∧ u1.cell? ⟨w.heap.size + 1, 1, none⟩ = some (.slice (some ⟨g', o', none⟩) l.length c') ∧ u1.cell? ⟨g, o + j * 4, none⟩ = some (.int .i64 x0) ∧ u1.cell? ⟨g, o + j * 4 + 1, none⟩ = some (.int .i64 x1) ∧ u1.cell? ⟨g, o + j * 4 + 2, none⟩ = some (.int .i64 x2) ∧ u1.cell? ⟨g, o + j * 4 + 3, none⟩ = some (.slice q3 x3.length r3) ∧ u1.cell? ⟨g', o' + j * 4, none⟩ = some (.int .i64 y0) ∧ u1.cell? ⟨g', o' + j * 4 + 1, none⟩ = some (.int .i64 y1) ∧ u1.cell? ⟨g', o' + j * 4 + 2, none⟩ = some (.int .i64 y2) ∧ u1.cell? ⟨g', o' + j * 4 + 3, none⟩ = some (.slice q3' y3.length r3') := ⟨cell_on e3 HB1.out, cell_on e4 HB1.out, cell_on f0 HB1.out, cell_on f1 HB1.out, cell_on f2 HB1.out, cell_on f3 HB1.out, cell_on f0' HB1.out, cell_on f1' HB1.out, cell_on f2' HB1.out, cell_on f3' HB1.out⟩))
      have hb2 : Below w0.heap.size w0 u1 := hbw.trans (HB1.out.mono hbw.size)
      clear s1 hrow
      cases br with
      | true =>
        have HK := Lib.hid (HJ2.out.2 rfl)
        clear HJ2
        go_wp2
        go_roundw
        case rel => exact ⟨j + 1, by omega, by go_num, HK, hb2⟩
        case measure => simp [intOf]; omega
      | false =>
        obtain rfl := HJ2.out.1 rfl
        clear HJ2
        go_wp2
        go_ret
        exact ⟨rfl, b0.trans (hb2.mono b0.size)⟩
    · obtain rfl : j = l.length := by omega
      obtain rfl : R = true := by rw [← HB.out]; exact allTo_true hok.out
      go_wp2
      go_ret
      exact ⟨rfl, b0.trans (hbw.mono b0.size)⟩

/-- SameTable, of any two. -/
theorem sametable_any (a b : Tb) (p p' : Option Addr) (c c' : Nat) (w : World) (hn : (a.rows.length : Int) ≤ 9223372036854775807) (ha : RowsAt w p a.rows) (hb : RowsAt w p' b.rows) (hs : Small a.rows) :
    Calls Try.prog 10 #[.agg #[.int .i64 a.start, .slice p a.rows.length c], .agg #[.int .i64 b.start, .slice p' b.rows.length c']] w (Asked w (sameTable a b)) := by
  unfold sameTable
  cases h : (a.start == b.start && a.rows.length == b.rows.length) with
  | false =>
    rw [Bool.false_and]
    exact sametable_no _ _ _ _ _ _ _ _ _ h
  | true =>
    rw [Bool.true_and]
    rw [Bool.and_eq_true] at h
    have e0 : a.start = b.start := by simpa using h.1
    have e1 : a.rows.length = b.rows.length := by simpa using h.2
    rw [← e0, ← e1]
    exact sametable_yes _ _ _ _ _ _ _ _ hn e1 ha hb hs
end Go.Proofs.Ytcnnepmhdccipaa.Frame

namespace Go.Proofs.Ytcnnepmhdccipaa.Frame
open Go.RowKit Codec

/-- Two boxes, one behind the other: their cells. -/
theorem two_boxes (w : World) (cs ds : Array Value) (T : TypeId) : Below w.heap.size w ((w.alloc (.cells cs T)).alloc (.cells ds T)) ∧ (∀ i, ((w.alloc (.cells cs T)).alloc (.cells ds T)).cell? ⟨w.heap.size, i, none⟩ = cs[i]?) ∧ ∀ i, ((w.alloc (.cells cs T)).alloc (.cells ds T)).cell? ⟨w.heap.size + 1, i, none⟩ = ds[i]? := by
  refine ⟨((Below.refl _ _).alloc (Nat.le_refl _) _).alloc (by simp) _, fun i => cell_of_row _ _ i _ T (0, 0) ((Below.heap_alloc _ _ _ (by simp)).trans (heap_alloc_new w _)), fun i => ?_⟩
  have := heap_alloc_new (w.alloc (.cells cs T)) (.cells ds T)
  rw [show (w.alloc (.cells cs T)).heap.size = w.heap.size + 1 by simp] at this
  exact cell_of_row _ _ i _ T (0, 0) this



theorem and7 {a b c d e f g R : Bool} (h : (a && b && c && d && e && f && g) = R) : (a = false ∧ R = false) ∨ (a = true ∧ b = false ∧ R = false) ∨ (a = true ∧ b = true ∧ c = false ∧ R = false) ∨ (a = true ∧ b = true ∧ c = true ∧ d = false ∧ R = false) ∨ (a = true ∧ b = true ∧ c = true ∧ d = true ∧ e = false ∧ R = false) ∨
    (a = true ∧ b = true ∧ c = true ∧ d = true ∧ e = true ∧ f = false ∧ R = false) ∨ (a = true ∧ b = true ∧ c = true ∧ d = true ∧ e = true ∧ f = true ∧ g = R) := by
  subst h
  cases a <;> cases b <;> cases c <;> cases d <;> cases e <;> cases f <;> simp


end Go.Proofs.Ytcnnepmhdccipaa.Frame
