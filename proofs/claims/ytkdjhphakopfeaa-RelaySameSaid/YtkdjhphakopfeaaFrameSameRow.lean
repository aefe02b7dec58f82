/-
  The document's sameRow and SameTable: each returns what the plain functions of FramePlain give, of any two; of what lay when the call began nothing has turned.
-/
import Derived.Test.YtkdjhphakopfeaaFrameSame
namespace Go.Proofs.Ytkdjhphakopfeaa.Frame
open Go.RowKit Codec

set_option maxRecDepth 100000 in
set_option maxHeartbeats 1000000 in
theorem samerow_no (k a m k' a' m' : Int) (p p' : Option Addr) (n n' c c' : Nat) (w : World) (h : (k == k' && a == a' && m == m' && n == n') = false) :
    Calls Try.prog 57 #[.agg #[.int .i64 k, .int .i64 a, .int .i64 m, .slice p n c], .agg #[.int .i64 k', .int .i64 a', .int .i64 m', .slice p' n' c']] w (Asked w false) := by
  have fin : Below w.heap.size w ((w.alloc (.cells #[.int .i64 k, .int .i64 a, .int .i64 m, .slice p n c] 89)).alloc (.cells #[.int .i64 k', .int .i64 a', .int .i64 m', .slice p' n' c'] 89)) := ((Below.refl _ _).alloc (Nat.le_refl _) _).alloc (by simp) _
  rcases and4 h with ⟨h1, -⟩ | ⟨h0, h1, -⟩ | ⟨h0, h2, h1, -⟩ | ⟨h0, h2, h3, h1, -⟩ | ⟨-, -, -, -, h1⟩
  · have d1 : (k != k') = true := by simpa using h1
    clear h h1
    go_enter Try.func57, Try.ntmps57
    go_wp2
    go_ret
    exact ⟨rfl, fin⟩
  · have d0 : (k != k') = false := by simpa using h0
    have d1 : (a != a') = true := by simpa using h1
    clear h h0 h1
    go_enter Try.func57, Try.ntmps57
    go_wp2
    go_ret
    exact ⟨rfl, fin⟩
  · have d0 : (k != k') = false := by simpa using h0
    have d2 : (a != a') = false := by simpa using h2
    have d1 : (m != m') = true := by simpa using h1
    clear h h0 h1 h2
    go_enter Try.func57, Try.ntmps57
    go_wp2
    go_ret
    exact ⟨rfl, fin⟩
  · have d0 : (k != k') = false := by simpa using h0
    have d2 : (a != a') = false := by simpa using h2
    have d3 : (m != m') = false := by simpa using h3
    have d1 : ((n : Int) != (n' : Int)) = true := by simp at h1 ⊢; omega
    clear h h0 h1 h2 h3
    go_enter Try.func57, Try.ntmps57
    go_wp2
    go_ret
    exact ⟨rfl, fin⟩
  · cases h1

set_option maxRecDepth 100000 in
set_option maxHeartbeats 2000000 in
theorem samerow_yes (k a m : Int) (p p' : Option Addr) (l l' : List (Int × Int)) (c c' : Nat) (w : World) (hn : (l.length : Int) ≤ 9223372036854775807) (hl : l.length = l'.length) (ha : LeasesAt w p l) (hb : LeasesAt w p' l') :
    Calls Try.prog 57 #[.agg #[.int .i64 k, .int .i64 a, .int .i64 m, .slice p l.length c], .agg #[.int .i64 k, .int .i64 a, .int .i64 m, .slice p' l.length c']] w (Asked w (sameLeases l l')) := by
  unfold sameLeases
  have HLN := Lib.hid hl
  clear hl
  generalize hB : allTo (fun i => samePair (l.getD i (0, 0)) (l'.getD i (0, 0))) l.length = R
  have HB := Lib.hid hB
  have HA := Lib.hid ha
  have HBB := Lib.hid hb
  clear hB ha hb
  have d0 : (k != k) = false := by simp
  have d1 : (a != a) = false := by simp
  have d2 : (m != m) = false := by simp
  go_enter Try.func57, Try.ntmps57
  go_wp2
  generalize hw0 : (w.alloc (.cells #[.int .i64 k, .int .i64 a, .int .i64 m, .slice p l.length c] 89)).alloc (.cells #[.int .i64 k, .int .i64 a, .int .i64 m, .slice p' l.length c'] 89) = w0
  have b0 : Below w.heap.size w w0 := by rw [← hw0]; exact ((Below.refl _ _).alloc (Nat.le_refl _) _).alloc (by simp) _
  have k3 : w0.cell? ⟨w.heap.size, 3, none⟩ = some (.slice p l.length c) := by
    rw [← hw0, cell_of_row _ _ 3 _ _ (0, 0) ((Below.heap_alloc _ _ _ (by simp)).trans (heap_alloc_new w _))]; rfl
  have k4 : w0.cell? ⟨w.heap.size + 1, 3, none⟩ = some (.slice p' l.length c') := by
    have := heap_alloc_new (w.alloc (.cells #[.int .i64 k, .int .i64 a, .int .i64 m, .slice p l.length c] 89)) (.cells #[.int .i64 k, .int .i64 a, .int .i64 m, .slice p' l.length c'] 89)
    rw [show (w.alloc (.cells #[.int .i64 k, .int .i64 a, .int .i64 m, .slice p l.length c] 89)).heap.size = w.heap.size + 1 by simp] at this
    rw [← hw0, cell_of_row _ _ 3 _ _ (0, 0) this]; rfl
  have HK3 := Lib.hid k3
  have HK4 := Lib.hid k4
  clear hw0 k3 k4 d0 d1 d2
  go_loopw [5] (fun i wr => ∃ j : Nat, j ≤ l.length ∧ i = .int .i64 (j : Int) ∧ Hid (∀ q, q < j → samePair (l.getD q (0, 0)) (l'.getD q (0, 0)) = true) ∧ Below w0.heap.size w0 wr) (fun i _ => l.length - (intOf i).toNat)
  case atStart => exact ⟨0, by omega, rfl, (by intro q hq; omega), Below.refl _ _⟩
  case round =>
    obtain ⟨j, hj, rfl, hok, hbw⟩ := hrel
    have e3 : wr.cell? ⟨w.heap.size, 3, none⟩ = some (.slice p l.length c) := cell_on HK3.out hbw
    have e4 : wr.cell? ⟨w.heap.size + 1, 3, none⟩ = some (.slice p' l.length c') := cell_on HK4.out hbw
    by_cases hlt : j < l.length
    · obtain ⟨g, o, rfl, hc⟩ : ∃ g o, p = some ⟨g, o, none⟩ ∧ ∀ j, j < l.length → w.cell? ⟨g, o + j * 2, none⟩ = some (.int .i64 (l.getD j (0, 0)).1) ∧ w.cell? ⟨g, o + j * 2 + 1, none⟩ = some (.int .i64 (l.getD j (0, 0)).2) := by
        rcases HA.out with h | h
        · rw [h] at hlt; simp at hlt
        · exact h
      obtain ⟨g', o', rfl, hc'⟩ : ∃ g o, p' = some ⟨g, o, none⟩ ∧ ∀ j, j < l'.length → w.cell? ⟨g, o + j * 2, none⟩ = some (.int .i64 (l'.getD j (0, 0)).1) ∧ w.cell? ⟨g, o + j * 2 + 1, none⟩ = some (.int .i64 (l'.getD j (0, 0)).2) := by
        rcases HBB.out with h | h
        · have := HLN.out; rw [h] at this; simp at this; rw [this] at hlt; simp at hlt
        · exact h
      have f1 := cell_on (cell_on (hc j hlt).1 b0) hbw
      have f2 := cell_on (cell_on (hc j hlt).2 b0) hbw
      have f3 := cell_on (cell_on (hc' j (by rw [← HLN.out]; exact hlt)).1 b0) hbw
      have f4 := cell_on (cell_on (hc' j (by rw [← HLN.out]; exact hlt)).2 b0) hbw
      have hlt' : (j : Int) < (l.length : Int) := by omega
      clear hc hc'
      have HJ := Lib.hid (show ∀ bo, samePair (l.getD j (0, 0)) (l'.getD j (0, 0)) = bo → (bo = false → R = false) ∧ (bo = true → ∀ q, q < j + 1 → samePair (l.getD q (0, 0)) (l'.getD q (0, 0)) = true) from fun bo hbo =>
        ⟨fun h => by rw [← HB.out]; exact allTo_false hlt (by rw [hbo]; exact h), fun h q hq => by
          rcases Nat.lt_succ_iff_lt_or_eq.1 hq with h1 | h1
          · exact hok.out q h1
          · rw [h1, hbo]; exact h⟩)
      generalize l.getD j (0, 0) = x at f1 f2 HJ
      generalize l'.getD j (0, 0) = y at f3 f4 HJ
      obtain ⟨x, u⟩ := x
      obtain ⟨y, v⟩ := y
      simp only at f1 f2 f3 f4
      cases hxy : samePair (x, u) (y, v) with
      | true =>
        have HK := Lib.hid ((HJ.out true hxy).2 rfl)
        have nq : ∀ W, (binOp .neq 97 (.agg #[.int .i64 x, .int .i64 u]) (.agg #[.int .i64 y, .int .i64 v])).run Try.prog W = .ok (.bool false) W := fun W => by rw [neq_lease, show (x == y && u == v) = true from hxy]; rfl
        clear hxy HJ
        go_wp2
        go_quiet (fail)
        go_wp2
        go_roundw
        case rel => exact ⟨j + 1, by omega, by go_num, HK, below_drewN hbw _⟩
        case measure => simp [intOf]; omega
      | false =>
        obtain rfl := (HJ.out false hxy).1 rfl
        have nq : ∀ W, (binOp .neq 97 (.agg #[.int .i64 x, .int .i64 u]) (.agg #[.int .i64 y, .int .i64 v])).run Try.prog W = .ok (.bool true) W := fun W => by rw [neq_lease, show (x == y && u == v) = false from hxy]; rfl
        clear hxy HJ
        go_wp2
        go_quiet (fail)
        go_wp2
        go_ret
        exact ⟨rfl, b0.trans ((below_drewN hbw _).mono b0.size)⟩
    · obtain rfl : j = l.length := by omega
      obtain rfl : R = true := by rw [← HB.out]; exact allTo_true hok.out
      go_wp2
      go_ret
      exact ⟨rfl, b0.trans (hbw.mono b0.size)⟩

/-- sameRow, of any two. -/
theorem samerow_any (r s : Rw) (p p' : Option Addr) (c c' : Nat) (w : World) (hn : (r.out.length : Int) ≤ 9223372036854775807) (ha : LeasesAt w p r.out) (hb : LeasesAt w p' s.out) :
    Calls Try.prog 57 #[.agg #[.int .i64 r.key, .int .i64 r.avail, .int .i64 r.mark, .slice p r.out.length c], .agg #[.int .i64 s.key, .int .i64 s.avail, .int .i64 s.mark, .slice p' s.out.length c']] w (Asked w (sameRow r s)) := by
  unfold sameRow
  cases h : (r.key == s.key && r.avail == s.avail && r.mark == s.mark && r.out.length == s.out.length) with
  | false =>
    rw [Bool.false_and]
    exact samerow_no _ _ _ _ _ _ _ _ _ _ _ _ _ h
  | true =>
    rw [Bool.true_and]
    rcases and4 h with ⟨-, h1⟩ | ⟨-, -, h1⟩ | ⟨-, -, -, h1⟩ | ⟨-, -, -, -, h1⟩ | ⟨h0, h1, h2, h3, -⟩
    · cases h1
    · cases h1
    · cases h1
    · cases h1
    · have e0 : r.key = s.key := by simpa using h0
      have e1 : r.avail = s.avail := by simpa using h1
      have e2 : r.mark = s.mark := by simpa using h2
      have e3 : r.out.length = s.out.length := by simpa using h3
      rw [← e0, ← e1, ← e2, ← e3]
      exact samerow_yes _ _ _ _ _ _ _ _ _ _ hn e3 ha hb
end Go.Proofs.Ytkdjhphakopfeaa.Frame
