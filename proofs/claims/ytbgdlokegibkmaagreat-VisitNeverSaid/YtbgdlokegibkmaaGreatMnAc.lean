/-
  append of one row, just laid, onto rows that a call owns.
  The document's Table, of any table: it returns what the plain function of FramePlain gives; of what lay when the call began nothing has turned.
  The document's Right, of any frame: it returns what the plain function of FramePlain gives; of what lay when the call began nothing has turned.
  The document's Same of lists of ints, sameRow and SameTable: each returns what the plain functions of FramePlain give, of any two; of what lay when the call began nothing has turned.
  The document's sameRow and SameTable: each returns what the plain functions of FramePlain give, of any two; of what lay when the call began nothing has turned.
  The document's SameTable, SameToken and Same: each returns what the plain functions of FramePlain give, of any two; of what lay when the call began nothing has turned.
  The document's SameToken and Same: each returns what the plain functions of FramePlain give, of any two; of what lay when the call began nothing has turned.
  Leases that a call owns; append of one, just laid. What the document's Settle and Grant make, plain.
  The document's Settle, of any table of up to 1000 rows and leases, returns the plain function's table and number; of what lay when the call began nothing has turned.
  The document's Rate, once more without conf's own texts; the document's Idle of any row, table and configuration.
  The document's Sweep, of any table of up to 1000 rows, returns the plain function's table; of what lay when the call began nothing has turned.
  The document's Mint (annonaref09) of any table tells what the plain mint gives, and leaves the world below as it was; at most 1000 rows, and leases of each.
  A ledger of memory: boxes, rows and leases that lie while calls come and go; each lies on. No conditions beyond those that each names.
  FitsToken and Fits of annonalaw05: whether a frame is such as is gone through; of what lay when the call began nothing has turned.
  What is asked of the program's wallet, whatever its blocks are: a predicate on memory, and what each call tells and leaves (Way11); the live question.
  What is asked of the program's estimates, whatever their blocks are: a predicate on memory, and what each call tells and leaves (Way13); the live question.
  A ledger of memory: boxes, rows and leases that lie while calls come and go; ints that a call owns; all of it without package ledger. No conditions beyond those that each names.
  Words for tokens in memory; what is asked of the program's package token (Way10); the document's Newer.
  The document's Fresh (annonaref10), of any numbers.
  The program's within, isNode, genMayBe, hopMayBe, and conf's within and Right: each returns what the plain functions of FramePlain give; the world stays.
-/
import Derived.Deep.RegionHeld3
import Derived.Laws.AppendOwnNone
import Derived.Laws.StructEq
import Derived.Laws.OwnMore
import Derived.IntWalk
import Derived.Maps.AppendAt
import Derived.Outline
import Derived.Test.YtbgdlokegibkmaaGreatMnAb
import Derived.Test.YtbgdlokegibkmaaGreatChecked
import Derived.Test.YtbgdlokegibkmaaGreatMnAa
namespace Go.Proofs.YtbgdlokegibkmaaGreat.Ledger
open Go.RowKit
open _root_.Go.Proofs.YtbgdlokegibkmaaGreat.Frame (Rw Tb noRow LeasesAt cell_on)
open _root_.Go.Proofs.YtbgdlokegibkmaaGreat.Codec (own_below own_lower lt_of_heap frozen_of heap_set)
theorem below_drewN (w : World) (n : Nat) : Below w.heap.size w (w.drewN n) := ⟨rfl, rfl, rfl, Nat.le_refl _, fun _ _ => rfl⟩
end Go.Proofs.YtbgdlokegibkmaaGreat.Ledger

namespace Go.Proofs.YtbgdlokegibkmaaGreat.Frame
open Go.RowKit Codec
theorem undrew {w w' : World} (h : Below w.drew.heap.size w.drew w') : Below w.heap.size w w' := ⟨h.os, h.tape, h.output, h.size, h.block⟩
theorem rowAt_false {l : List Rw} {s : Int} {i : Nat} (h : rowOk (l.getD i noRow) s = false ∨ (0 < i ∧ (l.getD i noRow).key ≤ (l.getD (i - 1) noRow).key)) : rowAt l s i = false := by
  unfold rowAt
  rcases h with h | ⟨h0, h1⟩
  · rw [h]; simp
  · have : (i == 0 || decide ((l.getD (i - 1) noRow).key < (l.getD i noRow).key)) = false := by
      rw [Bool.or_eq_false_iff]
      exact ⟨by simp; omega, decide_eq_false (by omega)⟩
    rw [this]; simp
theorem rowAt_true {l : List Rw} {s : Int} {i : Nat} (h0 : rowOk (l.getD i noRow) s = true) (h2 : i = 0 ∨ (l.getD (i - 1) noRow).key < (l.getD i noRow).key) : rowAt l s i = true := by
  unfold rowAt
  rw [h0, Bool.true_and, Bool.or_eq_true]
  rcases h2 with h2 | h2
  · exact .inl (by simp [h2])
  · exact .inr (decide_eq_true h2)
/-- The rows' leases are no longer than a slice may be. -/
def Small (l : List Rw) : Prop := ∀ r ∈ l, (r.out.length : Int) ≤ 9223372036854775807
end Go.Proofs.YtbgdlokegibkmaaGreat.Frame

namespace Go.Proofs.YtbgdlokegibkmaaGreat.Frame
open Go.RowKit Codec
theorem and4 {a b c d R : Bool} (h : (a && b && c && d) = R) : (a = false ∧ R = false) ∨ (a = true ∧ b = false ∧ R = false) ∨ (a = true ∧ b = true ∧ c = false ∧ R = false) ∨ (a = true ∧ b = true ∧ c = true ∧ d = false ∧ R = false) ∨ (a = true ∧ b = true ∧ c = true ∧ d = true ∧ R = true) := by
  subst h
  cases a <;> cases b <;> cases c <;> cases d <;> simp
end Go.Proofs.YtbgdlokegibkmaaGreat.Frame

namespace Go.Proofs.YtbgdlokegibkmaaGreat.Frame
open Go.RowKit Codec
theorem eq_lease (x y x' y' : Int) (w : World) : (Op.equalIn 10000 141 (.agg #[.int .i64 x, .int .i64 y]) (.agg #[.int .i64 x', .int .i64 y'])).run Tryz.prog w = .ok (x == x' && y == y') w := by
  rw [run_equalIn_agg w 9999 _ _ _ (by kernel_rfl) (by kernel_rfl)]
  have e : ∀ (a b : Int) (w : World), (Op.equalIn 9999 3 (.int .i64 a) (.int .i64 b)).run Tryz.prog w = .ok (a == b) w := fun a b w => run_equalIn_int w 9998 _ _ _ a b Tryz.underlying3
  cases h : (x == x')
  · simp [Program.fieldsOf, Tryz.underlying141, Op.eqFields, part, isAgg, run_underlying Tryz.underlying3, e, h]
  · by_cases k : y = y'
    · simp [Program.fieldsOf, Tryz.underlying141, Op.eqFields, part, isAgg, run_underlying Tryz.underlying3, e, h, k]
    · simp [Program.fieldsOf, Tryz.underlying141, Op.eqFields, part, isAgg, run_underlying Tryz.underlying3, e, h, k]
theorem neq_lease (x y x' y' : Int) (w : World) : (binOp .neq 141 (.agg #[.int .i64 x, .int .i64 y]) (.agg #[.int .i64 x', .int .i64 y'])).run Tryz.prog w = .ok (.bool (!(x == x' && y == y'))) w := by
  rw [run_neq_struct, eq_lease]; rfl
end Go.Proofs.YtbgdlokegibkmaaGreat.Frame

namespace Go.Proofs.YtbgdlokegibkmaaGreat.Frame
open Go.RowKit Codec
set_option maxRecDepth 100000 in
set_option maxHeartbeats 1000000 in
theorem samerow_no (k a m k' a' m' : Int) (p p' : Option Addr) (n n' c c' : Nat) (w : World) (h : (k == k' && a == a' && m == m' && n == n') = false) :
    Calls Tryz.prog 71 #[.agg #[.int .i64 k, .int .i64 a, .int .i64 m, .slice p n c], .agg #[.int .i64 k', .int .i64 a', .int .i64 m', .slice p' n' c']] w (Asked w false) := by
  have fin : Below w.heap.size w ((w.alloc (.cells #[.int .i64 k, .int .i64 a, .int .i64 m, .slice p n c] 80)).alloc (.cells #[.int .i64 k', .int .i64 a', .int .i64 m', .slice p' n' c'] 80)) := ((Below.refl _ _).alloc (Nat.le_refl _) _).alloc (by simp) _
  rcases and4 h with ⟨h1, -⟩ | ⟨h0, h1, -⟩ | ⟨h0, h2, h1, -⟩ | ⟨h0, h2, h3, h1, -⟩ | ⟨-, -, -, -, h1⟩
  · have d1 : (k != k') = true := by simpa using h1
    clear h h1
    go_enter Tryz.func71, Tryz.ntmps71
    go_wp2
    go_ret
    exact ⟨rfl, fin⟩
  · have d0 : (k != k') = false := by simpa using h0
    have d1 : (a != a') = true := by simpa using h1
    clear h h0 h1
    go_enter Tryz.func71, Tryz.ntmps71
    go_wp2
    go_ret
    exact ⟨rfl, fin⟩
  · have d0 : (k != k') = false := by simpa using h0
    have d2 : (a != a') = false := by simpa using h2
    have d1 : (m != m') = true := by simpa using h1
    clear h h0 h1 h2
    go_enter Tryz.func71, Tryz.ntmps71
    go_wp2
    go_ret
    exact ⟨rfl, fin⟩
  · have d0 : (k != k') = false := by simpa using h0
    have d2 : (a != a') = false := by simpa using h2
    have d3 : (m != m') = false := by simpa using h3
    have d1 : ((n : Int) != (n' : Int)) = true := by simp at h1 ⊢; omega
    clear h h0 h1 h2 h3
    go_enter Tryz.func71, Tryz.ntmps71
    go_wp2
    go_ret
    exact ⟨rfl, fin⟩
  · cases h1
set_option maxRecDepth 100000 in
set_option maxHeartbeats 2000000 in
theorem samerow_yes (k a m : Int) (p p' : Option Addr) (l l' : List (Int × Int)) (c c' : Nat) (w : World) (hn : (l.length : Int) ≤ 9223372036854775807) (hl : l.length = l'.length) (ha : LeasesAt w p l) (hb : LeasesAt w p' l') :
    Calls Tryz.prog 71 #[.agg #[.int .i64 k, .int .i64 a, .int .i64 m, .slice p l.length c], .agg #[.int .i64 k, .int .i64 a, .int .i64 m, .slice p' l.length c']] w (Asked w (sameLeases l l')) := by
  unfold sameLeases
  have HLN := Lib.hid hl
  clear hl
  generalize hB : allTo (fun i => samePair (l.getD i (0, 0)) (l'.getD i (0, 0))) l.length = R
  have HB := Lib.hid hB
  have HA := Lib.hid ha
  have HBB := Lib.hid hb
  clear hB ha hb
  have d0 : (k != k) = false := by simp
  have d1 : (a != a) = false := by simp
  have d2 : (m != m) = false := by simp
  go_enter Tryz.func71, Tryz.ntmps71
  go_wp2
  generalize hw0 : (w.alloc (.cells #[.int .i64 k, .int .i64 a, .int .i64 m, .slice p l.length c] 80)).alloc (.cells #[.int .i64 k, .int .i64 a, .int .i64 m, .slice p' l.length c'] 80) = w0
  have b0 : Below w.heap.size w w0 := by rw [← hw0]; exact ((Below.refl _ _).alloc (Nat.le_refl _) _).alloc (by simp) _
  have k3 : w0.cell? ⟨w.heap.size, 3, none⟩ = some (.slice p l.length c) := by
    rw [← hw0, cell_of_row _ _ 3 _ _ (0, 0) ((Below.heap_alloc _ _ _ (by simp)).trans (heap_alloc_new w _))]; rfl
  have k4 : w0.cell? ⟨w.heap.size + 1, 3, none⟩ = some (.slice p' l.length c') := by
    have := heap_alloc_new (w.alloc (.cells #[.int .i64 k, .int .i64 a, .int .i64 m, .slice p l.length c] 80)) (.cells #[.int .i64 k, .int .i64 a, .int .i64 m, .slice p' l.length c'] 80)
    rw [show (w.alloc (.cells #[.int .i64 k, .int .i64 a, .int .i64 m, .slice p l.length c] 80)).heap.size = w.heap.size + 1 by simp] at this
    rw [← hw0, cell_of_row _ _ 3 _ _ (0, 0) this]; rfl
  have HK3 := Lib.hid k3
  have HK4 := Lib.hid k4
  clear hw0 k3 k4 d0 d1 d2
  go_loopw [5] (fun i wr => ∃ j : Nat, j ≤ l.length ∧ i = .int .i64 (j : Int) ∧ Hid (∀ q, q < j → samePair (l.getD q (0, 0)) (l'.getD q (0, 0)) = true) ∧ Below w0.heap.size w0 wr) (fun i _ => l.length - (intOf i).toNat)
  case atStart => exact ⟨0, by omega, rfl, (by intro q hq; omega), Below.refl _ _⟩
  case round =>
    obtain ⟨j, hj, rfl, hok, hbw⟩ := hrel
    have e3 : wr.cell? ⟨w.heap.size, 3, none⟩ = some (.slice p l.length c) := cell_on HK3.out hbw
    have e4 : wr.cell? ⟨w.heap.size + 1, 3, none⟩ = some (.slice p' l.length c') := cell_on HK4.out hbw
    by_cases hlt : j < l.length
    · obtain ⟨g, o, rfl, hc⟩ : ∃ g o, p = some ⟨g, o, none⟩ ∧ ∀ j, j < l.length → w.cell? ⟨g, o + j * 2, none⟩ = some (.int .i64 (l.getD j (0, 0)).1) ∧ w.cell? ⟨g, o + j * 2 + 1, none⟩ = some (.int .i64 (l.getD j (0, 0)).2) := by
        rcases HA.out with h | h
        · rw [h] at hlt; simp at hlt
        · exact h
      obtain ⟨g', o', rfl, hc'⟩ : ∃ g o, p' = some ⟨g, o, none⟩ ∧ ∀ j, j < l'.length → w.cell? ⟨g, o + j * 2, none⟩ = some (.int .i64 (l'.getD j (0, 0)).1) ∧ w.cell? ⟨g, o + j * 2 + 1, none⟩ = some (.int .i64 (l'.getD j (0, 0)).2) := by
        rcases HBB.out with h | h
        · have := HLN.out; rw [h] at this; simp at this; rw [this] at hlt; simp at hlt
        · exact h
      have f1 := cell_on (cell_on (hc j hlt).1 b0) hbw
      have f2 := cell_on (cell_on (hc j hlt).2 b0) hbw
      have f3 := cell_on (cell_on (hc' j (by rw [← HLN.out]; exact hlt)).1 b0) hbw
      have f4 := cell_on (cell_on (hc' j (by rw [← HLN.out]; exact hlt)).2 b0) hbw
      have hlt' : (j : Int) < (l.length : Int) := by omega
      clear hc hc'
      have HJ := Lib.hid (show ∀ bo, samePair (l.getD j (0, 0)) (l'.getD j (0, 0)) = bo → (bo = false → R = false) ∧ (bo = true → ∀ q, q < j + 1 → samePair (l.getD q (0, 0)) (l'.getD q (0, 0)) = true) from fun bo hbo =>
        ⟨fun h => by rw [← HB.out]; exact allTo_false hlt (by rw [hbo]; exact h), fun h q hq => by
          rcases Nat.lt_succ_iff_lt_or_eq.1 hq with h1 | h1
          · exact hok.out q h1
          · rw [h1, hbo]; exact h⟩)
      generalize l.getD j (0, 0) = x at f1 f2 HJ
      generalize l'.getD j (0, 0) = y at f3 f4 HJ
      obtain ⟨x, u⟩ := x
      obtain ⟨y, v⟩ := y
      simp only at f1 f2 f3 f4
      cases hxy : samePair (x, u) (y, v) with
      | true =>
        have HK := Lib.hid ((HJ.out true hxy).2 rfl)
        have nq : ∀ W, (binOp .neq 141 (.agg #[.int .i64 x, .int .i64 u]) (.agg #[.int .i64 y, .int .i64 v])).run Tryz.prog W = .ok (.bool false) W := fun W => by rw [neq_lease, show (x == y && u == v) = true from hxy]; rfl
        clear hxy HJ
        go_wp2
        go_quiet (fail)
        go_wp2
        go_roundw
        case rel => exact ⟨j + 1, by omega, by go_num, HK, below_drewN hbw _⟩
        case measure => simp [intOf]; omega
      | false =>
        obtain rfl := (HJ.out false hxy).1 rfl
        have nq : ∀ W, (binOp .neq 141 (.agg #[.int .i64 x, .int .i64 u]) (.agg #[.int .i64 y, .int .i64 v])).run Tryz.prog W = .ok (.bool true) W := fun W => by rw [neq_lease, show (x == y && u == v) = false from hxy]; rfl
        clear hxy HJ
        go_wp2
        go_quiet (fail)
        go_wp2
        go_ret
        exact ⟨rfl, b0.trans ((below_drewN hbw _).mono b0.size)⟩
    · obtain rfl : j = l.length := by omega
      obtain rfl : R = true := by rw [← HB.out]; exact allTo_true hok.out
      go_wp2
      go_ret
      exact ⟨rfl, b0.trans (hbw.mono b0.size)⟩
/-- sameRow, of any two. -/
theorem samerow_any (r s : Rw) (p p' : Option Addr) (c c' : Nat) (w : World) (hn : (r.out.length : Int) ≤ 9223372036854775807) (ha : LeasesAt w p r.out) (hb : LeasesAt w p' s.out) :
    Calls Tryz.prog 71 #[.agg #[.int .i64 r.key, .int .i64 r.avail, .int .i64 r.mark, .slice p r.out.length c], .agg #[.int .i64 s.key, .int .i64 s.avail, .int .i64 s.mark, .slice p' s.out.length c']] w (Asked w (sameRow r s)) := by
  unfold sameRow
  cases h : (r.key == s.key && r.avail == s.avail && r.mark == s.mark && r.out.length == s.out.length) with
  | false =>
    rw [Bool.false_and]
    exact samerow_no _ _ _ _ _ _ _ _ _ _ _ _ _ h
  | true =>
    rw [Bool.true_and]
    rcases and4 h with ⟨-, h1⟩ | ⟨-, -, h1⟩ | ⟨-, -, -, h1⟩ | ⟨-, -, -, -, h1⟩ | ⟨h0, h1, h2, h3, -⟩
    · cases h1
    · cases h1
    · cases h1
    · cases h1
    · have e0 : r.key = s.key := by simpa using h0
      have e1 : r.avail = s.avail := by simpa using h1
      have e2 : r.mark = s.mark := by simpa using h2
      have e3 : r.out.length = s.out.length := by simpa using h3
      rw [← e0, ← e1, ← e2, ← e3]
      exact samerow_yes _ _ _ _ _ _ _ _ _ _ hn e3 ha hb
end Go.Proofs.YtbgdlokegibkmaaGreat.Frame

namespace Go.Proofs.YtbgdlokegibkmaaGreat.Frame
open Go.RowKit Codec
set_option maxRecDepth 100000 in
set_option maxHeartbeats 1000000 in
theorem sametable_no (s s' : Int) (p p' : Option Addr) (n n' c c' : Nat) (w : World) (h : (s == s' && n == n') = false) :
    Calls Tryz.prog 26 #[.agg #[.int .i64 s, .slice p n c], .agg #[.int .i64 s', .slice p' n' c']] w (Asked w false) := by
  have fin : Below w.heap.size w ((w.alloc (.cells #[.int .i64 s, .slice p n c] 28)).alloc (.cells #[.int .i64 s', .slice p' n' c'] 28)) := ((Below.refl _ _).alloc (Nat.le_refl _) _).alloc (by simp) _
  cases h1 : (s == s') with
  | false =>
    have d1 : (s != s') = true := by simpa using h1
    clear h h1
    go_enter Tryz.func26, Tryz.ntmps26
    go_wp2
    go_ret
    exact ⟨rfl, fin⟩
  | true =>
    rw [h1, Bool.true_and] at h
    have d0 : (s != s') = false := by simpa using h1
    have d1 : ((n : Int) != (n' : Int)) = true := by simp at h ⊢; omega
    clear h h1
    go_enter Tryz.func26, Tryz.ntmps26
    go_wp2
    go_ret
    exact ⟨rfl, fin⟩
set_option maxRecDepth 100000 in
set_option maxHeartbeats 2000000 in
theorem sametable_yes (s : Int) (p p' : Option Addr) (l l' : List Rw) (c c' : Nat) (w : World) (hn : (l.length : Int) ≤ 9223372036854775807) (hl : l.length = l'.length) (ha : RowsAt w p l) (hb : RowsAt w p' l') (hs : Small l) :
    Calls Tryz.prog 26 #[.agg #[.int .i64 s, .slice p l.length c], .agg #[.int .i64 s, .slice p' l.length c']] w (Asked w (allTo (fun i => sameRow (l.getD i noRow) (l'.getD i noRow)) l.length)) := by
  have HLN := Lib.hid hl
  clear hl
  generalize hB : allTo (fun i => sameRow (l.getD i noRow) (l'.getD i noRow)) l.length = R
  have HB := Lib.hid hB
  have HA := Lib.hid ha
  have HBB := Lib.hid hb
  have HS := Lib.hid hs
  clear hB ha hb hs
  have d0 : (s != s) = false := by simp
  go_enter Tryz.func26, Tryz.ntmps26
  go_wp2
  generalize hw0 : (w.alloc (.cells #[.int .i64 s, .slice p l.length c] 28)).alloc (.cells #[.int .i64 s, .slice p' l.length c'] 28) = w0
  have b0 : Below w.heap.size w w0 := by rw [← hw0]; exact ((Below.refl _ _).alloc (Nat.le_refl _) _).alloc (by simp) _
  have k3 : w0.cell? ⟨w.heap.size, 1, none⟩ = some (.slice p l.length c) := by
    rw [← hw0, cell_of_row _ _ 1 _ _ (0, 0) ((Below.heap_alloc _ _ _ (by simp)).trans (heap_alloc_new w _))]; rfl
  have k4 : w0.cell? ⟨w.heap.size + 1, 1, none⟩ = some (.slice p' l.length c') := by
    have := heap_alloc_new (w.alloc (.cells #[.int .i64 s, .slice p l.length c] 28)) (.cells #[.int .i64 s, .slice p' l.length c'] 28)
    rw [show (w.alloc (.cells #[.int .i64 s, .slice p l.length c] 28)).heap.size = w.heap.size + 1 by simp] at this
    rw [← hw0, cell_of_row _ _ 1 _ _ (0, 0) this]; rfl
  have HK3 := Lib.hid k3
  have HK4 := Lib.hid k4
  clear hw0 k3 k4 d0
  go_loopw [5] (fun i wr => ∃ j : Nat, j ≤ l.length ∧ i = .int .i64 (j : Int) ∧ Hid (∀ q, q < j → sameRow (l.getD q noRow) (l'.getD q noRow) = true) ∧ Below w0.heap.size w0 wr) (fun i _ => l.length - (intOf i).toNat)
  case atStart => exact ⟨0, by omega, rfl, (by intro q hq; omega), Below.refl _ _⟩
  case round =>
    obtain ⟨j, hj, rfl, hok, hbw⟩ := hrel
    have e3 : wr.cell? ⟨w.heap.size, 1, none⟩ = some (.slice p l.length c) := cell_on HK3.out hbw
    have e4 : wr.cell? ⟨w.heap.size + 1, 1, none⟩ = some (.slice p' l.length c') := cell_on HK4.out hbw
    by_cases hlt : j < l.length
    · obtain ⟨g, o, rfl, hc⟩ : ∃ g o, p = some ⟨g, o, none⟩ ∧ ∀ j, j < l.length → RowAt wr g (o + j * 4) (l.getD j noRow) := by
        rcases (HA.out.below b0).below hbw with h | h
        · rw [h] at hlt; simp at hlt
        · exact h
      obtain ⟨g', o', rfl, hc'⟩ : ∃ g o, p' = some ⟨g, o, none⟩ ∧ ∀ j, j < l'.length → RowAt wr g (o + j * 4) (l'.getD j noRow) := by
        rcases (HBB.out.below b0).below hbw with h | h
        · have := HLN.out; rw [h] at this; simp at this; rw [this] at hlt; simp at hlt
        · exact h
      obtain ⟨f0, f1, f2, q3, r3, f3, hle⟩ := hc j hlt
      obtain ⟨f0', f1', f2', q3', r3', f3', hle'⟩ := hc' j (by rw [← HLN.out]; exact hlt)
      have hro := HS.out (l.getD j noRow) (by simp [List.getD, hlt])
      have hrow := fun (u : World) (hu : Below wr.heap.size wr u) => samerow_any (l.getD j noRow) (l'.getD j noRow) q3 q3' r3 r3' u hro (hle.below hu) (hle'.below hu)
      have hlt' : (j : Int) < (l.length : Int) := by omega
      clear hc hc'
      have HJ := Lib.hid (show ∀ bo, sameRow (l.getD j noRow) (l'.getD j noRow) = bo → (bo = false → R = false) ∧ (bo = true → ∀ q, q < j + 1 → sameRow (l.getD q noRow) (l'.getD q noRow) = true) from fun bo hbo =>
        ⟨fun h => by rw [← HB.out]; exact allTo_false hlt (by rw [hbo]; exact h), fun h q hq => by
          rcases Nat.lt_succ_iff_lt_or_eq.1 hq with h1 | h1
          · exact hok.out q h1
          · rw [h1, hbo]; exact h⟩)
      generalize l.getD j noRow = x at f0 f1 f2 f3 hle hro hrow HJ
      generalize l'.getD j noRow = y at f0' f1' f2' f3' hle' hrow HJ
      obtain ⟨x0, x1, x2, x3⟩ := x
      obtain ⟨y0, y1, y2, y3⟩ := y
      simp only at f0 f1 f2 f3 f0' f1' f2' f3' hrow
      clear hle hle' hro
      have HJ2 := Lib.hid (HJ.out _ rfl)
      clear HJ
      generalize sameRow ⟨x0, x1, x2, x3⟩ ⟨y0, y1, y2, y3⟩ = br at hrow HJ2
      go_wp2
      go_region_held3 (fun u => u.cell? ⟨w.heap.size, 1, none⟩ = some (.slice (some ⟨g, o, none⟩) l.length c) ∧ u.cell? ⟨w.heap.size + 1, 1, none⟩ = some (.slice (some ⟨g', o', none⟩) l.length c') ∧ u.cell? ⟨g, o + j * 4, none⟩ = some (.int .i64 x0) ∧ u.cell? ⟨g, o + j * 4 + 1, none⟩ = some (.int .i64 x1) ∧ u.cell? ⟨g, o + j * 4 + 2, none⟩ = some (.int .i64 x2) ∧ u.cell? ⟨g, o + j * 4 + 3, none⟩ = some (.slice q3 x3.length r3) ∧ u.cell? ⟨g', o' + j * 4, none⟩ = some (.int .i64 y0) ∧ u.cell? ⟨g', o' + j * 4 + 1, none⟩ = some (.int .i64 y1) ∧ u.cell? ⟨g', o' + j * 4 + 2, none⟩ = some (.int .i64 y2) ∧ u.cell? ⟨g', o' + j * 4 + 3, none⟩ = some (.slice q3' y3.length r3')) (first | assumption | exact ⟨e3, e4, f0, f1, f2, f3, f0', f1', f2', f3'⟩) (first
        | (go_at_call 71; (with_reducible refine (hrow _ (Below.refl _ _).drew).mono ?_); rintro e u1 ⟨rfl, hb1⟩; have HB1 := Lib.hid (undrew hb1); clear hb1; have s1 : u1.cell? ⟨w.heap.size, 1, none⟩ = some (.slice (some ⟨g, o, none⟩) l.length c) ∧ u1.cell? ⟨w.heap.size + 1, 1, none⟩ = some (.slice (some ⟨g', o', none⟩) l.length c') ∧ u1.cell? ⟨g, o + j * 4, none⟩ = some (.int .i64 x0) ∧ u1.cell? ⟨g, o + j * 4 + 1, none⟩ = some (.int .i64 x1) ∧ u1.cell? ⟨g, o + j * 4 + 2, none⟩ = some (.int .i64 x2) ∧ u1.cell? ⟨g, o + j * 4 + 3, none⟩ = some (.slice q3 x3.length r3) ∧ u1.cell? ⟨g', o' + j * 4, none⟩ = some (.int .i64 y0) ∧ u1.cell? ⟨g', o' + j * 4 + 1, none⟩ = some (.int .i64 y1) ∧ u1.cell? ⟨g', o' + j * 4 + 2, none⟩ = some (.int .i64 y2) ∧ u1.cell? ⟨g', o' + j * 4 + 3, none⟩ = some (.slice q3' y3.length r3') := ⟨cell_on e3 HB1.out, cell_on e4 HB1.out, cell_on f0 HB1.out, cell_on f1 HB1.out, cell_on f2 HB1.out, cell_on f3 HB1.out, cell_on f0' HB1.out, cell_on f1' HB1.out, cell_on f2' HB1.out, cell_on f3' HB1.out⟩))
      have hb2 : Below w0.heap.size w0 u1 := hbw.trans (HB1.out.mono hbw.size)
      clear s1 hrow
      cases br with
      | true =>
        have HK := Lib.hid (HJ2.out.2 rfl)
        clear HJ2
        go_wp2
        go_roundw
        case rel => exact ⟨j + 1, by omega, by go_num, HK, hb2⟩
        case measure => simp [intOf]; omega
      | false =>
        obtain rfl := HJ2.out.1 rfl
        clear HJ2
        go_wp2
        go_ret
        exact ⟨rfl, b0.trans (hb2.mono b0.size)⟩
    · obtain rfl : j = l.length := by omega
      obtain rfl : R = true := by rw [← HB.out]; exact allTo_true hok.out
      go_wp2
      go_ret
      exact ⟨rfl, b0.trans (hbw.mono b0.size)⟩
/-- SameTable, of any two. -/
theorem sametable_any (a b : Tb) (p p' : Option Addr) (c c' : Nat) (w : World) (hn : (a.rows.length : Int) ≤ 9223372036854775807) (ha : RowsAt w p a.rows) (hb : RowsAt w p' b.rows) (hs : Small a.rows) :
    Calls Tryz.prog 26 #[.agg #[.int .i64 a.start, .slice p a.rows.length c], .agg #[.int .i64 b.start, .slice p' b.rows.length c']] w (Asked w (sameTable a b)) := by
  unfold sameTable
  cases h : (a.start == b.start && a.rows.length == b.rows.length) with
  | false =>
    rw [Bool.false_and]
    exact sametable_no _ _ _ _ _ _ _ _ _ h
  | true =>
    rw [Bool.true_and]
    rw [Bool.and_eq_true] at h
    have e0 : a.start = b.start := by simpa using h.1
    have e1 : a.rows.length = b.rows.length := by simpa using h.2
    rw [← e0, ← e1]
    exact sametable_yes _ _ _ _ _ _ _ _ hn e1 ha hb hs
end Go.Proofs.YtbgdlokegibkmaaGreat.Frame

namespace Go.Proofs.YtbgdlokegibkmaaGreat.Frame
open Go.RowKit Codec
/-- Two boxes, one behind the other: their cells. -/
theorem two_boxes (w : World) (cs ds : Array Value) (T : TypeId) : Below w.heap.size w ((w.alloc (.cells cs T)).alloc (.cells ds T)) ∧ (∀ i, ((w.alloc (.cells cs T)).alloc (.cells ds T)).cell? ⟨w.heap.size, i, none⟩ = cs[i]?) ∧ ∀ i, ((w.alloc (.cells cs T)).alloc (.cells ds T)).cell? ⟨w.heap.size + 1, i, none⟩ = ds[i]? := by
  refine ⟨((Below.refl _ _).alloc (Nat.le_refl _) _).alloc (by simp) _, fun i => cell_of_row _ _ i _ T (0, 0) ((Below.heap_alloc _ _ _ (by simp)).trans (heap_alloc_new w _)), fun i => ?_⟩
  have := heap_alloc_new (w.alloc (.cells cs T)) (.cells ds T)
  rw [show (w.alloc (.cells cs T)).heap.size = w.heap.size + 1 by simp] at this
  exact cell_of_row _ _ i _ T (0, 0) this
end Go.Proofs.YtbgdlokegibkmaaGreat.Frame

namespace Go.Proofs.YtbgdlokegibkmaaGreat.Ledger
open Go.RowKit
open _root_.Go.Proofs.YtbgdlokegibkmaaGreat.Frame (Rw Tb noRow LeasesAt cell_on)
open _root_.Go.Proofs.YtbgdlokegibkmaaGreat.Codec (own_below own_lower lt_of_heap frozen_of heap_set)
open _root_.Go.Proofs.YtbgdlokegibkmaaGreat.Sat (fit add sub mul)
def cellsL (l : List (Int × Int)) : List Value := l.flatMap fun x => [.int .i64 x.1, .int .i64 x.2]
theorem cellsL_at : ∀ (l : List (Int × Int)) (j : Nat), j < l.length → (cellsL l)[j * 2]? = some (.int .i64 (l.getD j (0, 0)).1) ∧ (cellsL l)[j * 2 + 1]? = some (.int .i64 (l.getD j (0, 0)).2)
  | [], j, hj => by simp at hj
  | x :: l, 0, _ => by simp [cellsL]
  | x :: l, j + 1, hj => by
    have := cellsL_at l j (by simpa using hj)
    have e : cellsL (x :: l) = [.int .i64 x.1, .int .i64 x.2] ++ cellsL l := by simp [cellsL]
    rw [e]
    have s : ∀ n, ([Value.int .i64 x.1, .int .i64 x.2] ++ cellsL l)[2 + n]? = (cellsL l)[n]? := fun n => by
      rw [List.getElem?_append_right (by simp)]; simp
    have g : (x :: l).getD (j + 1) (0, 0) = l.getD j (0, 0) := rfl
    rw [g]
    refine ⟨?_, ?_⟩
    · rw [show (j + 1) * 2 = 2 + j * 2 by omega, s]; exact this.1
    · rw [show (j + 1) * 2 + 1 = 2 + (j * 2 + 1) by omega, s]; exact this.2
/-- Leases that a call owns. -/
def OwnL (B : Nat) (w : World) (v : Value) (l : List (Int × Int)) : Prop := w.ownsRow B 141 2 v l.length (cellsL l)
theorem OwnL.leases {B : Nat} {w : World} {v : Value} {l : List (Int × Int)} (h : OwnL B w v l) : ∃ p c, v = .slice p l.length (c + l.length) ∧ LeasesAt w p l := by
  have ho' := h
  rcases h.2 with ⟨rfl, h0⟩ | ⟨g, cap, cur, rfl, h1, h2, h3⟩
  · exact ⟨Option.none, 0, by rw [h0], .inl (List.eq_nil_of_length_eq_zero h0)⟩
  · refine ⟨_, cap - l.length, by rw [Nat.sub_add_cancel h3.1], .inr ⟨g, 0, rfl, fun j hj => ?_⟩⟩
    obtain ⟨c0, c1⟩ := cellsL_at l j hj
    have hc := World.ownsRow.cells (g := g) ho' rfl
    have k0 := hc _ _ c0
    have k1 := hc _ _ c1
    rw [Codec.add_at] at k0 k1
    refine ⟨k0, ?_⟩
    rw [← Nat.add_assoc] at k1; exact k1
theorem OwnL.shape {B : Nat} {w : World} {v : Value} {l : List (Int × Int)} (h : OwnL B w v l) : ∃ p c, v = .slice p l.length c := by
  rcases h.2 with ⟨rfl, h0⟩ | ⟨g, cap, cur, rfl, h1, h2, h3⟩
  · exact ⟨Option.none, 0, by rw [h0]⟩
  · exact ⟨_, cap, rfl⟩
theorem OwnL.on {B : Nat} {w w' : World} {v : Value} {l : List (Int × Int)} (h : OwnL B w v l) (hb : Below w.heap.size w w') : OwnL B w' v l := own_below h hb
theorem push_lease {u : World} {ops : Array Oper} {rest : List Oper} {o : Oper} {a : Act} {Q : Exit → Act → World → Prop} (hgd : o.guard = none) (s y : Operand)
    (ho : o.op = .call { callee := .builtin .append, args := #[s, y], argTypes := #[78, 78] })
    (w0 wr : World) (v : Value) (hs : a.eval s = v) (l : List (Int × Int)) (n : Nat) (hn : l.length = n) (hown : OwnL w0.heap.size wr v l) (hbw : Below w0.heap.size w0 wr) (hu : Below wr.heap.size wr u)
    (g : Nat) (x1 x2 : Int) (hy : a.eval y = .slice (some ⟨g, 0, Option.none⟩) 1 1)
    (hg : (u.alloc (.cells #[.int .i64 x1, .int .i64 x2] 141)).heap[g]? = some (.cells #[.int .i64 x1, .int .i64 x2] 141 (0, 0))) (hlen : n ≤ 100000)
    (h : ∀ p c w', Hid (OwnL w0.heap.size w' (.slice p (n + 1) c) (l ++ [(x1, x2)])) → Below w0.heap.size w0 w' → wpList Tryz.prog ops Q rest (a.put o.dst (.slice p (n + 1) c)) w') : wpList Tryz.prog ops Q (o :: rest) a (u.alloc (.cells #[.int .i64 x1, .int .i64 x2] 141)) := by
  subst hn
  obtain ⟨i0, hi, hz0, hz1, hz2⟩ := info_parts infoL
  have hua : Below wr.heap.size wr (u.alloc (.cells #[.int .i64 x1, .int .i64 x2] 141)) := hu.alloc hu.size _
  refine wpList_append_own _ hgd s y 78 ho w0.heap.size 141 i0 (.agg #[.int .i64 0, .int .i64 0]) 2 16 Tryz.underlying78 hi hz0 hz1 hz2 rfl (by decide) v l.length (cellsL l) hs (own_below hown hua) ⟨g, 0, Option.none⟩ 1 1 [.int .i64 x1, .int .i64 x2] hy rfl (World.news_of_block hg) ?_ (by unfold maxLen; omega) (by omega) (Nat.le_trans hbw.size hua.size) ?_
  · intro z hz
    simp at hz
    rcases hz with rfl | rfl <;> rfl
  · intro v' w' ho2 hg2 _
    have hb2 := (hbw.trans (hua.mono hbw.size)).grown hg2 (Nat.le_trans hbw.size hua.size) (fun k hk => (World.ownsRow.lt hown k hk).1)
    have R : OwnL w0.heap.size w' v' (l ++ [(x1, x2)]) := by
      unfold OwnL
      have e : cellsL (l ++ [(x1, x2)]) = cellsL l ++ [.int .i64 x1, .int .i64 x2] := by simp [cellsL]
      rw [e, List.length_append]
      exact ho2
    obtain ⟨p, c, rfl⟩ : ∃ p c, v' = .slice p (l.length + 1) c := by
      rcases ho2.2 with ⟨_, h0⟩ | ⟨g, cap, cur, rfl, _⟩
      · omega
      · exact ⟨_, cap, rfl⟩
    exact h p c w' R hb2
/-! What is settled. -/
def amountOf (t : Tb) (key node : Int) : Int := ((findRow t key).out.getD (outAt (findRow t key).out node).toNat (0, 0)).2
def spentOf (a spent : Int) : Int := if spent < 0 ∨ a < spent then a else spent
def has (t : Tb) (key node : Int) : Bool := findIs t key && decide (0 ≤ outAt (findRow t key).out node)
/-- All but that one. -/
def butAt (l : List (Int × Int)) (i : Nat) : List (Int × Int) := l.eraseIdx i
def settled (r : Rw) (i : Nat) (back : Int) : Rw := ⟨r.key, add [r.avail, back], r.mark, butAt r.out i⟩
def settle (t : Tb) (key node spent : Int) : Tb × Int :=
  if has t key node = true then (setRow t (settled (findRow t key) (outAt (findRow t key).out node).toNat (amountOf t key node - spentOf (amountOf t key node) spent)), spentOf (amountOf t key node) spent) else (t, 0)
end Go.Proofs.YtbgdlokegibkmaaGreat.Ledger

namespace Go.Proofs.YtbgdlokegibkmaaGreat.Ledger
open Go.RowKit
open _root_.Go.Proofs.YtbgdlokegibkmaaGreat.Frame (Rw Tb noRow LeasesAt cell_on)
open _root_.Go.Proofs.YtbgdlokegibkmaaGreat.Codec (own_below own_lower lt_of_heap frozen_of heap_set)
open _root_.Go.Proofs.YtbgdlokegibkmaaGreat.Sat (fit add sub mul rtwo_any)
theorem own_none (B : Nat) (w : World) : OwnL B w (.slice none 0 0) [] := World.ownsRow_nil _ _ _ _
/-- The boxes of Settle and Grant: the table, the result, the row. -/
structure Bxs (w : World) (start : Int) (p : Option Addr) (n c : Nat) (b : Nat) (v1 v2 v3 v4 : Value) (u : World) : Prop where
  tab : u.heap[w.heap.size]? = some (.cells #[.int .i64 start, .slice p n (c + n)] 28 (0, 0))
  res : u.heap[w.heap.size + 1]? = some (.cells #[.int .i64 0, .slice none 0 0] 28 (0, 0))
  row : u.heap[b]? = some (.cells #[v1, v2, v3, v4] 80 (0, 0))
  below : Below w.heap.size w u
  ge : w.heap.size + 1 < b
section
variable {w u u' : World} {start : Int} {p : Option Addr} {n c b : Nat} {v1 v2 v3 v4 : Value}
theorem Bxs.out (h : Bxs w start p n c b v1 v2 v3 v4 u) (y1 y2 : Value) : Below w.heap.size w ((u.setCell ⟨w.heap.size + 1, 0, none⟩ y1).setCell ⟨w.heap.size + 1, 1, none⟩ y2) :=
  (h.below.setCell (by simp) _).setCell (by simp) _
end
/-- Where a table's box is turned, leases and rows lie on. -/
theorem leases_tab {w : World} {b o : Nat} {x : Int} {q : Option Addr} {m k : Nat} {y : Value} {p : Option Addr} {l : List (Int × Int)} (hb : w.heap[b]? = some (.cells #[.int .i64 x, .slice q m k] 28 (0, 0))) (h : LeasesAt w p l) : LeasesAt (w.setCell ⟨b, o, none⟩ y) p l := by
  rcases h with h | ⟨b', o', e, hc⟩
  · exact .inl h
  · by_cases hl : l = []
    · exact .inl hl
    · have hne : b' ≠ b := by
        rintro rfl
        have h1 := (hc 0 (List.length_pos_iff.2 hl)).2
        rw [cell_of_row w b' _ _ _ (0, 0) hb] at h1
        match o', h1 with
        | 0, h1 => simp at h1
        | n + 1, h1 => simp at h1
      refine .inr ⟨b', o', e, fun j hj => ?_⟩
      have he : ∀ i, (w.setCell ⟨b, o, none⟩ y).cell? ⟨b', i, none⟩ = w.cell? ⟨b', i, none⟩ := fun i => World.cell?_of_block (w := w) (Below.heap_setCell _ _ _ _ (by simpa using hne))
      rw [he, he]
      exact hc j hj
theorem rows_tab {w : World} {b o : Nat} {x : Int} {q : Option Addr} {m k : Nat} {y : Value} {p : Option Addr} {l : List Rw} (hb : w.heap[b]? = some (.cells #[.int .i64 x, .slice q m k] 28 (0, 0))) (h : RowsAt w p l) : RowsAt (w.setCell ⟨b, o, none⟩ y) p l := by
  rcases h with h | ⟨b', o', e, hc⟩
  · exact .inl h
  · by_cases hl : l = []
    · exact .inl hl
    · have hne : b' ≠ b := by
        rintro rfl
        have h1 := (hc 0 (List.length_pos_iff.2 hl)).2.2.1
        rw [cell_of_row w b' _ _ _ (0, 0) hb] at h1
        match o', h1 with
        | n, h1 => simp at h1
      refine .inr ⟨b', o', e, fun j hj => ?_⟩
      have he : ∀ i, (w.setCell ⟨b, o, none⟩ y).cell? ⟨b', i, none⟩ = w.cell? ⟨b', i, none⟩ := fun i => World.cell?_of_block (w := w) (Below.heap_setCell _ _ _ _ (by simpa using hne))
      obtain ⟨h0, h1, h2, pl, cl, h3, h4⟩ := hc j hj
      exact ⟨by rw [he]; exact h0, by rw [he]; exact h1, by rw [he]; exact h2, pl, cl, by rw [he]; exact h3, leases_tab hb h4⟩
end Go.Proofs.YtbgdlokegibkmaaGreat.Ledger

namespace Go.Proofs.YtbgdlokegibkmaaGreat.Ledger
open Go.RowKit
open _root_.Go.Proofs.YtbgdlokegibkmaaGreat.Frame (Rw Tb noRow LeasesAt cell_on)
open _root_.Go.Proofs.YtbgdlokegibkmaaGreat.Codec (own_below own_lower lt_of_heap frozen_of heap_set)
open _root_.Go.Proofs.YtbgdlokegibkmaaGreat.Sat (fit add sub mul rtwo_any)
/-- A configuration. -/
structure Cf where
  n : Int
  skew : Int
  ttl : Int
  valid : Int
  loss : Int
  hear : Int
  keys : Int
  queue : Int
  rates : List (Int × Int)
def cfVal (f : Cf) (p : Option Addr) (c : Nat) : Value := .agg #[.int .i64 f.n, .int .i64 f.skew, .int .i64 f.ttl, .int .i64 f.valid, .int .i64 f.loss, .int .i64 f.hear, .int .i64 f.keys, .int .i64 f.queue, .slice p f.rates.length c]
/-- Rates lie like leases: two numbers each. -/
abbrev RatesAt (w : World) (p : Option Addr) (l : List (Int × Int)) : Prop := LeasesAt w p l
/-- Which rate a key has; -1: none. -/
def rateAt (l : List (Int × Int)) (key : Int) : Int := if 0 ≤ key ∧ key < 524288 ∧ key / 65536 < (l.length : Int) then key / 65536 else -1
/-- Is a row idle? -/
def idle (start : Int) (r : Rw) (now : Int) (f : Cf) : Bool :=
  decide (0 ≤ rateAt f.rates r.key) && decide (r.mark ≤ sub now (add [f.skew, f.skew])) && decide (r.out.length = 0) && decide (r.avail = (f.rates.getD (rateAt f.rates r.key).toNat (0, 0)).2) &&
    decide ((f.rates.getD (rateAt f.rates r.key).toNat (0, 0)).2 ≤ mul (f.rates.getD (rateAt f.rates r.key).toNat (0, 0)).1 (sub r.mark start))
theorem rateAt_lt (l : List (Int × Int)) (key : Int) (h : 0 ≤ rateAt l key) : ∃ k : Nat, rateAt l key = (k : Int) ∧ k < l.length := by
  unfold rateAt at h ⊢
  split at h
  · rename_i h2
    rw [if_pos h2]
    exact ⟨(key / 65536).toNat, by omega, by omega⟩
  · omega
theorem nine_cells {w : World} {b : Nat} {v0 v1 v2 v3 v4 v5 v6 v7 v8 : Value} {T : TypeId} (h : w.heap[b]? = some (.cells #[v0, v1, v2, v3, v4, v5, v6, v7, v8] T (0, 0))) :
    w.cell? ⟨b, 0, Option.none⟩ = some v0 ∧ w.cell? ⟨b, 1, Option.none⟩ = some v1 ∧ w.cell? ⟨b, 2, Option.none⟩ = some v2 ∧ w.cell? ⟨b, 3, Option.none⟩ = some v3 ∧ w.cell? ⟨b, 4, Option.none⟩ = some v4 ∧ w.cell? ⟨b, 5, Option.none⟩ = some v5 ∧ w.cell? ⟨b, 6, Option.none⟩ = some v6 ∧ w.cell? ⟨b, 7, Option.none⟩ = some v7 ∧ w.cell? ⟨b, 8, Option.none⟩ = some v8 :=
  ⟨by rw [cell_of_row w b 0 _ _ (0, 0) h]; rfl, by rw [cell_of_row w b 1 _ _ (0, 0) h]; rfl, by rw [cell_of_row w b 2 _ _ (0, 0) h]; rfl, by rw [cell_of_row w b 3 _ _ (0, 0) h]; rfl, by rw [cell_of_row w b 4 _ _ (0, 0) h]; rfl, by rw [cell_of_row w b 5 _ _ (0, 0) h]; rfl, by rw [cell_of_row w b 6 _ _ (0, 0) h]; rfl, by rw [cell_of_row w b 7 _ _ (0, 0) h]; rfl, by rw [cell_of_row w b 8 _ _ (0, 0) h]; rfl⟩
end Go.Proofs.YtbgdlokegibkmaaGreat.Ledger

namespace Go.Proofs.YtbgdlokegibkmaaGreat.Ledger
open Go.RowKit
open _root_.Go.Proofs.YtbgdlokegibkmaaGreat.Frame (Rw Tb noRow LeasesAt cell_on)
open _root_.Go.Proofs.YtbgdlokegibkmaaGreat.Codec (own_below own_lower lt_of_heap frozen_of heap_set)
def sweepOf (start now : Int) (f : Cf) (l : List Rw) : List Rw := l.filter fun r => !idle start r now f
def sweep (t : Tb) (now : Int) (f : Cf) : Tb := ⟨t.start, sweepOf t.start now f t.rows⟩
theorem sweepOf_len (start now : Int) (f : Cf) (l : List Rw) (j : Nat) : (sweepOf start now f (l.take j)).length ≤ l.length := by
  have h1 : (sweepOf start now f (l.take j)).length ≤ (l.take j).length := List.length_filter_le _ _
  have h2 : (l.take j).length ≤ l.length := by simp; omega
  omega
end Go.Proofs.YtbgdlokegibkmaaGreat.Ledger

namespace Go.Proofs.YtbgdlokegibkmaaGreat.Ledger
open Go.RowKit
open _root_.Go.Proofs.YtbgdlokegibkmaaGreat.Frame (Rw Tb noRow LeasesAt cell_on)
open _root_.Go.Proofs.YtbgdlokegibkmaaGreat.Codec (own_below own_lower lt_of_heap frozen_of heap_set)
open _root_.Go.Proofs.YtbgdlokegibkmaaGreat.Sat (fit add sub mul)
/-- What is minted, and the error. -/
def rateOf (f : Cf) (key : Int) : Int × Int := f.rates.getD (rateAt f.rates key).toNat (0, 0)
def mint (t : Tb) (key now : Int) (f : Cf) : Tb × Int :=
  if rateAt f.rates key < 0 then (t, 4)
  else if 0 ≤ place t.rows key ∨ (t.rows.length : Int) < f.keys then (setRow t (look t key now (rateOf f key).1 (rateOf f key).2), 0)
  else if f.keys ≤ ((sweep t now f).rows.length : Int) then (t, 3)
  else (setRow (sweep t now f) (look (sweep t now f) key now (rateOf f key).1 (rateOf f key).2), 0)
theorem sweep_len (t : Tb) (now : Int) (f : Cf) : (sweep t now f).rows.length ≤ t.rows.length := by
  have := sweepOf_len t.start now f t.rows t.rows.length
  rwa [List.take_length] at this
theorem sweep_mem {t : Tb} {now : Int} {f : Cf} {r : Rw} (h : r ∈ (sweep t now f).rows) : r ∈ t.rows := by
  simp only [sweep, sweepOf, List.mem_filter] at h
  exact h.1
/-- The boxes of Mint. -/
structure MBx (w : World) (start : Int) (p : Option Addr) (nr c : Nat) (vs : Array Value) (u : World) : Prop where
  tab : u.heap[w.heap.size]? = some (.cells #[.int .i64 start, .slice p nr (c + nr)] 28 (0, 0))
  conf : u.heap[w.heap.size + 1]? = some (.cells vs 24 (0, 0))
  res : u.heap[w.heap.size + 1 + 1]? = some (.cells #[.int .i64 0, .slice none 0 0] 28 (0, 0))
  below : Below w.heap.size w u
theorem MBx.on {w u u' : World} {start : Int} {p : Option Addr} {nr c : Nat} {vs : Array Value} (h : MBx w start p nr c vs u) (hb : Below u.heap.size u u') : MBx w start p nr c vs u' :=
  ⟨(hb.block _ (lt_of_heap h.tab)).trans h.tab, (hb.block _ (lt_of_heap h.conf)).trans h.conf, (hb.block _ (lt_of_heap h.res)).trans h.res, h.below.trans (hb.mono h.below.size)⟩
theorem MBx.out {w u : World} {start : Int} {p : Option Addr} {nr c : Nat} {vs : Array Value} (h : MBx w start p nr c vs u) (y1 y2 : Value) : Below w.heap.size w ((u.setCell ⟨w.heap.size + 1 + 1, 0, none⟩ y1).setCell ⟨w.heap.size + 1 + 1, 1, none⟩ y2) :=
  (h.below.setCell (by simp; omega) _).setCell (by simp; omega) _
theorem MBx.size {w u : World} {start : Int} {p : Option Addr} {nr c : Nat} {vs : Array Value} (h : MBx w start p nr c vs u) : w.heap.size + 3 ≤ u.heap.size := lt_of_heap h.res
/-- With the box of x. -/
structure MBy (w : World) (start : Int) (p : Option Addr) (nr c : Nat) (vs : Array Value) (g : Nat) (v1 v2 : Value) (u : World) : Prop where
  all : MBx w start p nr c vs u
  x : u.heap[g]? = some (.cells #[v1, v2] 28 (0, 0))
  far : w.heap.size + 3 ≤ g
theorem MBy.new {w u : World} {start : Int} {p : Option Addr} {nr c : Nat} {vs : Array Value} (h : MBx w start p nr c vs u) (v1 v2 : Value) : MBy w start p nr c vs u.heap.size v1 v2 (u.alloc (.cells #[v1, v2] 28)) :=
  ⟨h.on ((Below.refl _ _).alloc (Nat.le_refl _) _), heap_alloc_new _ _, h.size⟩
end Go.Proofs.YtbgdlokegibkmaaGreat.Ledger

namespace Go.Proofs.YtbgdlokegibkmaaGreat.Ledger
open Go.RowKit
open _root_.Go.Proofs.YtbgdlokegibkmaaGreat.Frame (Rw Tb noRow LeasesAt cell_on)
open _root_.Go.Proofs.YtbgdlokegibkmaaGreat.Codec (lt_of_heap frozen_of heap_set)
/-- What lies: boxes (a block's number, its cells, its type), rows, leases. -/
structure Mem (w : World) (bs : List (Nat × Array Value × TypeId)) (rs : List (Option Addr × List Rw)) (ls : List (Option Addr × List (Int × Int))) (u : World) : Prop where
  boxes : ∀ (i : Nat) (g : Nat) (vs : Array Value) (T : TypeId), bs[i]? = some (g, vs, T) → u.heap[g]? = some (.cells vs T (0, 0))
  rows : ∀ (i : Nat) (p : Option Addr) (l : List Rw), rs[i]? = some (p, l) → RowsAt u p l
  leases : ∀ (i : Nat) (p : Option Addr) (l : List (Int × Int)), ls[i]? = some (p, l) → LeasesAt u p l
  below : Below w.heap.size w u
section
variable {w u u' : World} {bs : List (Nat × Array Value × TypeId)} {rs : List (Option Addr × List Rw)} {ls : List (Option Addr × List (Int × Int))}
theorem Mem.start (w : World) : Mem w [] [] [] w := ⟨fun i g vs T h => by simp at h, fun i p l h => by simp at h, fun i p l h => by simp at h, Below.refl _ _⟩
theorem Mem.on (h : Mem w bs rs ls u) (hb : Below u.heap.size u u') : Mem w bs rs ls u' :=
  ⟨fun i g vs T e => (hb.block _ (lt_of_heap (h.boxes i g vs T e))).trans (h.boxes i g vs T e), fun i p l e => (h.rows i p l e).below hb, fun i p l e => (h.leases i p l e).below hb, h.below.trans (hb.mono h.below.size)⟩
theorem Mem.drew (h : Mem w bs rs ls u) : Mem w bs rs ls u.drew := h.on (Below.refl _ _).drew
theorem Mem.box (h : Mem w bs rs ls u) (vs : Array Value) (T : TypeId) : Mem w ((u.heap.size, vs, T) :: bs) rs ls (u.alloc (.cells vs T)) := by
  have h' := h.on ((Below.refl _ _).alloc (Nat.le_refl _) (.cells vs T))
  refine ⟨fun i g vs' T' e => ?_, h'.rows, h'.leases, h'.below⟩
  cases i with
  | zero =>
    simp only [List.getElem?_cons_zero, Option.some.injEq, Prod.mk.injEq] at e
    obtain ⟨rfl, rfl, rfl⟩ := e
    exact heap_alloc_new _ _
  | succ i => exact h'.boxes i g vs' T' (by simpa using e)
theorem Mem.addRows (h : Mem w bs rs ls u) {p : Option Addr} {l : List Rw} (hr : RowsAt u p l) : Mem w bs ((p, l) :: rs) ls u := by
  refine ⟨h.boxes, fun i p' l' e => ?_, h.leases, h.below⟩
  cases i with
  | zero =>
    simp only [List.getElem?_cons_zero, Option.some.injEq, Prod.mk.injEq] at e
    obtain ⟨rfl, rfl⟩ := e
    exact hr
  | succ i => exact h.rows i p' l' (by simpa using e)
theorem Mem.addLeases (h : Mem w bs rs ls u) {p : Option Addr} {l : List (Int × Int)} (hr : LeasesAt u p l) : Mem w bs rs ((p, l) :: ls) u := by
  refine ⟨h.boxes, h.rows, fun i p' l' e => ?_, h.below⟩
  cases i with
  | zero =>
    simp only [List.getElem?_cons_zero, Option.some.injEq, Prod.mk.injEq] at e
    obtain ⟨rfl, rfl⟩ := e
    exact hr
  | succ i => exact h.leases i p' l' (by simpa using e)
end
theorem size_alloc (u : World) (o : Obj) : (u.alloc o).heap.size = u.heap.size + 1 := by simp
/-- The cells of boxes. -/
theorem box2 {w : World} {b : Nat} {v0 v1 : Value} {T : TypeId} (h : w.heap[b]? = some (.cells #[v0, v1] T (0, 0))) : w.cell? ⟨b, 0, none⟩ = some v0 ∧ w.cell? ⟨b, 1, none⟩ = some v1 ∧ ∀ o, w.frozen? ⟨b, o, none⟩ = false :=
  ⟨by rw [cell_of_row w b 0 _ _ (0, 0) h]; rfl, by rw [cell_of_row w b 1 _ _ (0, 0) h]; rfl, fun _ => frozen_of h⟩
theorem box4 {w : World} {b : Nat} {v0 v1 v2 v3 : Value} {T : TypeId} (h : w.heap[b]? = some (.cells #[v0, v1, v2, v3] T (0, 0))) : w.cell? ⟨b, 0, none⟩ = some v0 ∧ w.cell? ⟨b, 1, none⟩ = some v1 ∧ w.cell? ⟨b, 2, none⟩ = some v2 ∧ w.cell? ⟨b, 3, none⟩ = some v3 ∧ ∀ o, w.frozen? ⟨b, o, none⟩ = false :=
  ⟨by rw [cell_of_row w b 0 _ _ (0, 0) h]; rfl, by rw [cell_of_row w b 1 _ _ (0, 0) h]; rfl, by rw [cell_of_row w b 2 _ _ (0, 0) h]; rfl, by rw [cell_of_row w b 3 _ _ (0, 0) h]; rfl, fun _ => frozen_of h⟩
end Go.Proofs.YtbgdlokegibkmaaGreat.Ledger

namespace Go.Proofs.YtbgdlokegibkmaaGreat.Frame
open Go.RowKit Codec
def fitsTk (t : Tk) : Bool := decide (t.stamps.length ≤ 100 ∧ t.table.rows.length ≤ 100) && allTo (fun i => decide ((t.table.rows.getD i noRow).out.length ≤ 100)) t.table.rows.length
set_option maxRecDepth 100000 in
set_option maxHeartbeats 1000000 in
theorem fits_token (t : Tk) (ps p : Option Addr) (cs c : Nat) (w : World) (hn : (t.stamps.length : Int) ≤ 9223372036854775807) (hm : (t.table.rows.length : Int) ≤ 9223372036854775807) (hl : RowsAt w p t.table.rows) :
    Calls Tryz.prog 29 #[.agg #[.int .i64 t.gen, .int .i64 t.hop, .slice ps t.stamps.length cs, .int .i64 t.table.start, .slice p t.table.rows.length c]] w (Asked w (fitsTk t)) := by
  obtain ⟨gen, hop, st, start, rows⟩ := t
  simp only at hn hm hl ⊢
  unfold fitsTk
  simp only
  by_cases h1 : st.length ≤ 100
  · by_cases h2 : rows.length ≤ 100
    · rw [decide_eq_true (And.intro h1 h2), Bool.true_and]
      generalize hB : allTo (fun i => decide ((rows.getD i noRow).out.length ≤ 100)) rows.length = R
      have HB := Lib.hid hB
      have HL := Lib.hid hl
      clear hB hl
      have h1' : (st.length : Int) ≤ 100 := by omega
      have h2' : (rows.length : Int) ≤ 100 := by omega
      clear h1 h2
      go_enter Tryz.func29, Tryz.ntmps29
      go_wp2
      generalize hw0 : w.alloc (.cells #[.int .i64 gen, .int .i64 hop, .slice ps st.length cs, .int .i64 start, .slice p rows.length c] 30) = w0
      have b0 : Below w.heap.size w w0 := by rw [← hw0]; exact (Below.refl _ _).alloc (Nat.le_refl _) _
      have k4 : w0.cell? ⟨w.heap.size, 4, none⟩ = some (.slice p rows.length c) := by
        rw [← hw0, cell_of_row _ _ 4 _ _ (0, 0) (heap_alloc_new w _)]; rfl
      clear hw0
      go_loop [3] (fun i => ∃ j : Nat, j ≤ rows.length ∧ i = .int .i64 (j : Int) ∧ Hid (∀ q, q < j → decide ((rows.getD q noRow).out.length ≤ 100) = true)) (fun i => rows.length - (intOf i).toNat)
      case atStart => exact ⟨0, by omega, rfl, (by intro q hq; omega)⟩
      case round =>
        obtain ⟨j, hj, rfl, hok⟩ := hrel
        by_cases hlt : j < rows.length
        · obtain ⟨g, o, rfl, hc⟩ : ∃ g o, p = some ⟨g, o, none⟩ ∧ ∀ j, j < rows.length → RowAt w0 g (o + j * 4) (rows.getD j noRow) := by
            rcases HL.out.below b0 with h | h
            · rw [h] at hlt; simp at hlt
            · exact h
          obtain ⟨-, -, -, p3, c3, d3, -⟩ := hc j hlt
          have HJ := Lib.hid (show ((rows.getD j noRow).out.length ≤ 100 → ∀ q, q < j + 1 → decide ((rows.getD q noRow).out.length ≤ 100) = true) ∧ (100 < (rows.getD j noRow).out.length → R = false) from
            ⟨fun h q hq => by
              rcases Nat.lt_succ_iff_lt_or_eq.1 hq with h1 | h1
              · exact hok.out q h1
              · rw [h1]; exact decide_eq_true h, fun h => by rw [← HB.out]; exact allTo_false hlt (decide_eq_false (by omega))⟩)
          generalize (rows.getD j noRow).out.length = n at d3 HJ
          clear hc
          have hlt' : (j : Int) < (rows.length : Int) := by omega
          by_cases hz : n ≤ 100
          · have HK := Lib.hid (HJ.out.1 hz)
            have hz' : (n : Int) ≤ 100 := by omega
            clear HJ hz
            go_wp2
            go_round
            case rel => exact ⟨j + 1, by omega, by go_num, HK⟩
            case measure => simp [intOf]; omega
          · obtain rfl := HJ.out.2 (by omega)
            have hz' : 100 < (n : Int) := by omega
            clear HJ hz
            go_wp2
            go_ret
            exact ⟨rfl, b0⟩
        · obtain rfl : j = rows.length := by omega
          obtain rfl : R = true := by rw [← HB.out]; exact allTo_true hok.out
          go_wp2
          go_ret
          exact ⟨rfl, b0⟩
    · rw [decide_eq_false (fun h => h2 h.2), Bool.false_and]
      have h1' : (st.length : Int) ≤ 100 := by omega
      have h2' : 100 < (rows.length : Int) := by omega
      clear h1 h2 hl
      go_enter Tryz.func29, Tryz.ntmps29
      go_wp2
      go_ret
      exact ⟨rfl, (Below.refl _ _).alloc (Nat.le_refl _) _⟩
  · rw [decide_eq_false (fun h => h1 h.1), Bool.false_and]
    have h1' : 100 < (st.length : Int) := by omega
    clear h1 hl
    go_enter Tryz.func29, Tryz.ntmps29
    go_wp2
    go_ret
    exact ⟨rfl, (Below.refl _ _).alloc (Nat.le_refl _) _⟩
end Go.Proofs.YtbgdlokegibkmaaGreat.Frame

namespace Go.Proofs.YtbgdlokegibkmaaGreat.Lease
open Go.RowKit
open _root_.Go.Proofs.YtbgdlokegibkmaaGreat.Codec (lt_of_heap frozen_of heap_set own_below)
/-- What a step of the program leaves alone: the document's blocks. -/
structure Off (w w' : World) : Prop where
  size : w.heap.size ≤ w'.heap.size
  block : ∀ (g : Nat) (cs : Array Value) (t : TypeId) (z : Nat × Nat), w.heap[g]? = some (Obj.cells cs t z) → t ∈ [92, 131] → w'.heap[g]? = some (Obj.cells cs t z)
theorem Off.wl {w w' : World} {B v : Nat} {l : List Lz} (ho : Off w w') (h : Wl B w v l) : Wl B w' v l := by
  obtain ⟨h0, y, h1, h2, h3⟩ := h
  refine ⟨h0, y, ho.block v _ _ _ h1 (by simp), h2, ?_⟩
  rcases h3 with h3 | ⟨g, cap, cur, rfl, k1, k2, k3⟩
  · exact .inl h3
  · exact .inr ⟨g, cap, cur, rfl, k1, ho.block g _ _ _ k2 (by simp), k3⟩
abbrev Pw := Nat → World → Nat → List Lz → Prop
/-- The program's wallet moves. -/
structure Moved (PW : Pw) (B : Nat) (w : World) (q : Nat) (l : List Lz) (w' : World) : Prop where
  pw : PW B w' q l
  off : Off w w'
  below : Below B w w'
def x1 : Lz := ⟨3, 7, 5, 0, 20⟩
def x2 : Lz := ⟨3, 7, 5, 4, 20⟩
end Go.Proofs.YtbgdlokegibkmaaGreat.Lease

namespace Go.Proofs.YtbgdlokegibkmaaGreat.Demand
open Go.RowKit
open _root_.Go.Proofs.YtbgdlokegibkmaaGreat.Codec (lt_of_heap frozen_of heap_set own_below)
open _root_.Go.Proofs.YtbgdlokegibkmaaGreat.Kit (Enc Lies Own At Kept Laid Off cell_on lt_heap take_snoc below_drewN ints)
/-- The document's blocks. -/
abbrev mine : List TypeId := [95, 244]
abbrev Pw := Nat → World → Nat → List Nt → Prop
/-- The program's estimates move. -/
structure Moved (PW : Pw) (B : Nat) (w : World) (q : Nat) (l : List Nt) (w' : World) : Prop where
  pw : PW B w' q l
  off : Off mine w w'
  below : Below B w w'
theorem lay (w : World) (o : Obj) : Below w.heap.size w (w.alloc o) := (Below.refl _ w).alloc (Nat.le_refl _) o
def n1 : List Nt := [] ++ [⟨3, 9⟩]
def n2 : List Nt := n1 ++ [⟨3, 2⟩]
end Go.Proofs.YtbgdlokegibkmaaGreat.Demand

namespace Go.Proofs.YtbgdlokegibkmaaGreat.Token
open Go.RowKit
open _root_.Go.Proofs.YtbgdlokegibkmaaGreat.Frame (Rw Tb noRow LeasesAt RowAt RowsAt cell_on allTo_true sameTable)
open _root_.Go.Proofs.YtbgdlokegibkmaaGreat.Codec (lt_of_heap frozen_of heap_set)
def Num (x : Int) : Prop := -9223372036854775808 ≤ x ∧ x ≤ 9223372036854775807
/-- What lies: boxes (a block's number, its cells, its type), rows, leases. -/
structure Mem (w : World) (bs : List (Nat × Array Value × TypeId)) (rs : List (Option Addr × List Rw)) (ls : List (Option Addr × List (Int × Int))) (u : World) : Prop where
  boxes : ∀ (i : Nat) (g : Nat) (vs : Array Value) (T : TypeId), bs[i]? = some (g, vs, T) → u.heap[g]? = some (.cells vs T (0, 0))
  rows : ∀ (i : Nat) (p : Option Addr) (l : List Rw), rs[i]? = some (p, l) → RowsAt u p l
  leases : ∀ (i : Nat) (p : Option Addr) (l : List (Int × Int)), ls[i]? = some (p, l) → LeasesAt u p l
  below : Below w.heap.size w u
section
variable {w u u' : World} {bs : List (Nat × Array Value × TypeId)} {rs : List (Option Addr × List Rw)} {ls : List (Option Addr × List (Int × Int))}
theorem Mem.start (w : World) : Mem w [] [] [] w := ⟨fun i g vs T h => by simp at h, fun i p l h => by simp at h, fun i p l h => by simp at h, Below.refl _ _⟩
theorem Mem.on (h : Mem w bs rs ls u) (hb : Below u.heap.size u u') : Mem w bs rs ls u' :=
  ⟨fun i g vs T e => (hb.block _ (lt_of_heap (h.boxes i g vs T e))).trans (h.boxes i g vs T e), fun i p l e => (h.rows i p l e).below hb, fun i p l e => (h.leases i p l e).below hb, h.below.trans (hb.mono h.below.size)⟩
theorem Mem.drew (h : Mem w bs rs ls u) : Mem w bs rs ls u.drew := h.on (Below.refl _ _).drew
theorem Mem.box (h : Mem w bs rs ls u) (vs : Array Value) (T : TypeId) : Mem w ((u.heap.size, vs, T) :: bs) rs ls (u.alloc (.cells vs T)) := by
  have h' := h.on ((Below.refl _ _).alloc (Nat.le_refl _) (.cells vs T))
  refine ⟨fun i g vs' T' e => ?_, h'.rows, h'.leases, h'.below⟩
  cases i with
  | zero =>
    simp only [List.getElem?_cons_zero, Option.some.injEq, Prod.mk.injEq] at e
    obtain ⟨rfl, rfl, rfl⟩ := e
    exact heap_alloc_new _ _
  | succ i => exact h'.boxes i g vs' T' (by simpa using e)
end
theorem size_alloc (u : World) (o : Obj) : (u.alloc o).heap.size = u.heap.size + 1 := by simp
theorem box5 {w : World} {b : Nat} {v0 v1 v2 v3 v4 : Value} {T : TypeId} (h : w.heap[b]? = some (.cells #[v0, v1, v2, v3, v4] T (0, 0))) : w.cell? ⟨b, 0, none⟩ = some v0 ∧ w.cell? ⟨b, 1, none⟩ = some v1 ∧ w.cell? ⟨b, 2, none⟩ = some v2 ∧ w.cell? ⟨b, 3, none⟩ = some v3 ∧ w.cell? ⟨b, 4, none⟩ = some v4 :=
  ⟨by rw [cell_of_row w b 0 _ _ (0, 0) h]; rfl, by rw [cell_of_row w b 1 _ _ (0, 0) h]; rfl, by rw [cell_of_row w b 2 _ _ (0, 0) h]; rfl, by rw [cell_of_row w b 3 _ _ (0, 0) h]; rfl, by rw [cell_of_row w b 4 _ _ (0, 0) h]; rfl⟩
theorem infoI : (Tryz.prog.info? 3).map (fun i => (i.zero, i.size, i.bytes)) = some (some (.int .i64 0), 1, 8) := by kernel_rfl
def cellsI (l : List Int) : List Value := l.map (Value.int .i64)
/-- Ints that a call owns. -/
def OwnI (B : Nat) (w : World) (v : Value) (l : List Int) : Prop := w.ownsRow B 3 1 v l.length (cellsI l)
theorem OwnI.app {B n : Nat} {w : World} {v : Value} {l xs : List Int} (h : w.ownsRow B 3 1 v (l.length + n) (cellsI l ++ cellsI xs)) (hn : xs.length = n) : OwnI B w v (l ++ xs) := by
  unfold OwnI
  rw [List.length_append, hn]
  simpa [cellsI] using h
theorem OwnI.ints {B : Nat} {w : World} {v : Value} {l : List Int} (h : OwnI B w v l) : ∃ p c, v = .slice p l.length c ∧ ∀ k : Nat, k < l.length → ∃ b o, p = some ⟨b, o, none⟩ ∧ w.cell? ⟨b, o + k, none⟩ = some (.int .i64 (l.getD k 0)) := by
  rcases h.2 with ⟨rfl, h0⟩ | ⟨g, cap, cur, rfl, h1, h2, h3, h4, h5, h6⟩
  · exact ⟨none, 0, by rw [h0], fun k hk => by omega⟩
  · refine ⟨_, cap, rfl, fun k hk => ⟨g, 0, rfl, ?_⟩⟩
    have := World.ownsRow.cells (g := g) h rfl k (.int .i64 (l.getD k 0)) (by simp [cellsI, List.getD, hk])
    rwa [Codec.add_at] at this
theorem own_heap {B : Nat} {u : World} {v : Value} {l : List Int} (h : OwnI B u v l) {b : Nat} (hb : v.ownBlock = some b) : ∃ cur, u.heap[b]? = some (.cells cur 3 (0, 0)) := by
  rcases h.2 with ⟨rfl, -⟩ | ⟨g, cap, cur, rfl, h1, h2, -⟩
  · simp [Value.ownBlock] at hb
  · simp only [Value.ownBlock, Option.some.injEq] at hb
    subst hb
    exact ⟨cur, h2⟩
theorem own_keep {B : Nat} {u u' : World} {v : Value} {l : List Int} (h : OwnI B u v l) (hk : ∀ b, v.ownBlock = some b → u'.heap[b]? = u.heap[b]?) : OwnI B u' v l := by
  refine ⟨h.1, ?_⟩
  rcases h.2 with h0 | ⟨g, cap, cur, rfl, h1, h2, h3⟩
  · exact .inl h0
  · exact .inr ⟨g, cap, cur, rfl, h1, (hk g rfl).trans h2, h3⟩
theorem push_int {u : World} {ops : Array Oper} {rest : List Oper} {o : Oper} {a : Act} {Q : Exit → Act → World → Prop} (hgd : o.guard = none) (s y : Operand)
    (ho : o.op = .call { callee := .builtin .append, args := #[s, y], argTypes := #[25, 25] })
    (B : Nat) (v : Value) (hs : a.eval s = v) (l : List Int) (n : Nat) (hn : l.length = n) (hown : OwnI B u v l) (hB : B ≤ u.heap.size)
    (g : Nat) (x : Int) (hy : a.eval y = .slice (some ⟨g, 0, Option.none⟩) 1 1) (hg : u.heap[g]? = some (.cells #[.int .i64 x] 3 (0, 0))) (hlen : n ≤ 100000)
    (h : ∀ p c w', Hid (OwnI B w' (.slice p (n + 1) c) (l ++ [x])) → u.grownBy w' v.ownBlock → ((Value.slice p (n + 1) c).ownBlock = v.ownBlock ∨ (Value.slice p (n + 1) c).ownBlock = some u.heap.size) → wpList Tryz.prog ops Q rest (a.put o.dst (.slice p (n + 1) c)) w') : wpList Tryz.prog ops Q (o :: rest) a u := by
  subst hn
  obtain ⟨i0, hi, hz0, hz1, hz2⟩ := info_parts infoI
  refine wpList_append_own_at _ hgd s y 25 ho B 3 i0 (.int .i64 0) 1 8 Tryz.underlying25 hi hz0 hz1 hz2 rfl (by decide) v l.length (cellsI l) hs hown ⟨g, 0, Option.none⟩ 1 1 [.int .i64 x] hy rfl (World.news_of_block hg) ?_ (by unfold maxLen; omega) (by omega) hB ?_
  · intro z hz
    simp at hz
    rw [hz]; rfl
  · intro v' w' ho2 hg2 _ hat
    have R : OwnI B w' v' (l ++ [x]) := OwnI.app (xs := [x]) ho2 rfl
    obtain ⟨p, c, rfl⟩ : ∃ p c, v' = .slice p (l.length + 1) c := by
      rcases ho2.2 with ⟨_, h0⟩ | ⟨g, cap, cur, rfl, _⟩
      · omega
      · exact ⟨_, cap, rfl⟩
    exact h p c w' R hg2 hat
end Go.Proofs.YtbgdlokegibkmaaGreat.Token

namespace Go.Proofs.YtbgdlokegibkmaaGreat.Token
open Go.RowKit
open _root_.Go.Proofs.YtbgdlokegibkmaaGreat.Frame (Rw Tb Tk noRow LeasesAt RowAt RowsAt cell_on Asked tokenOk)
open _root_.Go.Proofs.YtbgdlokegibkmaaGreat.Codec (Ints lt_of_heap frozen_of heap_set)
def tokVal (t : Tk) (ps : Option Addr) (cs : Nat) (p : Option Addr) (c : Nat) : Value := .agg #[.int .i64 t.gen, .int .i64 t.hop, .slice ps t.stamps.length cs, .int .i64 t.table.start, .slice p t.table.rows.length c]
end Go.Proofs.YtbgdlokegibkmaaGreat.Token

namespace Go.Proofs.YtbgdlokegibkmaaGreat.Token
open Go.RowKit
open _root_.Go.Proofs.YtbgdlokegibkmaaGreat.Frame (Rw Tb Tk noRow LeasesAt RowAt RowsAt cell_on Asked tokenOk)
open _root_.Go.Proofs.YtbgdlokegibkmaaGreat.Codec (Ints lt_of_heap frozen_of heap_set)
theorem box5f {w : World} {b : Nat} {v0 v1 v2 v3 v4 : Value} {T : TypeId} (h : w.heap[b]? = some (.cells #[v0, v1, v2, v3, v4] T (0, 0))) : w.cell? ⟨b, 0, none⟩ = some v0 ∧ w.cell? ⟨b, 1, none⟩ = some v1 ∧ w.cell? ⟨b, 2, none⟩ = some v2 ∧ w.cell? ⟨b, 3, none⟩ = some v3 ∧ w.cell? ⟨b, 4, none⟩ = some v4 ∧ ∀ o, w.frozen? ⟨b, o, none⟩ = false := by
  obtain ⟨h0, h1, h2, h3, h4⟩ := box5 h
  exact ⟨h0, h1, h2, h3, h4, fun _ => frozen_of h⟩
/-- What lies while stamps are laid. -/
structure Fst (w : World) (gen now : Int) (v : Value) (l : List Int) (u : World) : Prop where
  own : OwnI w.heap.size u v l
  res : u.heap[w.heap.size]? = some (.cells #[.int .i64 0, .int .i64 0, .slice none 0 0, .int .i64 0, .slice none 0 0] 30 (0, 0))
  box : u.heap[w.heap.size + 1]? = some (.cells #[.int .i64 gen, .int .i64 0, v, .int .i64 now, .slice none 0 0] 30 (0, 0))
  below : Below w.heap.size w u
theorem token_int : (30 : TypeId) ≠ 3 := by decide
theorem own_ints {B : Nat} {u : World} {p : Option Addr} {n c : Nat} {l : List Int} (h : OwnI B u (.slice p n c) l) : Ints u p l := by
  obtain ⟨p', c', e, hc⟩ := OwnI.ints h
  simp only [Value.slice.injEq] at e
  obtain ⟨rfl, -, -⟩ := e
  by_cases h0 : l = []
  · exact .inl h0
  · obtain ⟨b, o, e, -⟩ := hc 0 (List.length_pos_iff.2 h0)
    refine .inr ⟨b, o, e, fun k hk => ?_⟩
    obtain ⟨b', o', e', hcell⟩ := hc k hk
    rw [e] at e'
    simp only [Option.some.injEq, Addr.mk.injEq, and_true] at e'
    obtain ⟨rfl, rfl⟩ := e'
    exact hcell
/-- The result is set. -/
theorem Fst.out {w u : World} {gen now : Int} {v : Value} {l : List Int} (h : Fst w gen now v l u) (y0 y1 y2 y3 y4 : Value) : OwnI w.heap.size (((((u.setCell ⟨w.heap.size, 0, none⟩ y0).setCell ⟨w.heap.size, 1, none⟩ y1).setCell ⟨w.heap.size, 2, none⟩ y2).setCell ⟨w.heap.size, 3, none⟩ y3).setCell ⟨w.heap.size, 4, none⟩ y4) v l ∧ Below w.heap.size w (((((u.setCell ⟨w.heap.size, 0, none⟩ y0).setCell ⟨w.heap.size, 1, none⟩ y1).setCell ⟨w.heap.size, 2, none⟩ y2).setCell ⟨w.heap.size, 3, none⟩ y3).setCell ⟨w.heap.size, 4, none⟩ y4) := by
  refine ⟨own_keep h.own fun b e => ?_, ((((h.below.setCell (Nat.le_refl _) _).setCell (Nat.le_refl _) _).setCell (Nat.le_refl _) _).setCell (Nat.le_refl _) _).setCell (Nat.le_refl _) _⟩
  have hne : b ≠ w.heap.size := by
    rintro rfl
    obtain ⟨cur, hc⟩ := own_heap h.own e
    rw [h.res] at hc
    simp only [Option.some.injEq, Obj.cells.injEq] at hc
    exact token_int hc.2.1
  exact (Below.heap_setCell _ _ _ _ hne).trans ((Below.heap_setCell _ _ _ _ hne).trans ((Below.heap_setCell _ _ _ _ hne).trans ((Below.heap_setCell _ _ _ _ hne).trans (Below.heap_setCell _ _ _ _ hne))))
end Go.Proofs.YtbgdlokegibkmaaGreat.Token

namespace Go.Proofs.YtbgdlokegibkmaaGreat.Frame
open Go.RowKit Codec
theorem within_any (x lo hi : Int) (w : World) : Calls Tryz.prog 142 #[.int .i64 x, .int .i64 lo, .int .i64 hi] w fun e w' => e = .returned (.bool (isIn x lo hi)) ∧ w = w' := by
  cases h : isIn x lo hi with
  | true =>
    obtain ⟨h0, h1⟩ := isIn_yes h
    clear h
    go_enter Tryz.func142, Tryz.ntmps142
    go_wp2
    go_ret
    exact ⟨rfl, rfl⟩
  | false =>
    rcases isIn_no h with h0 | ⟨h0, h1⟩
    · have h2 : decide (lo ≤ x) = false := by simp; omega
      clear h h0
      go_enter Tryz.func142, Tryz.ntmps142
      go_wp2
      go_ret
      exact ⟨rfl, rfl⟩
    · have h2 : decide (x ≤ hi) = false := by simp; omega
      clear h h1
      go_enter Tryz.func142, Tryz.ntmps142
      go_wp2
      go_ret
      exact ⟨rfl, rfl⟩
theorem cwithin_any (x lo hi : Int) (w : World) : Calls Tryz.prog 133 #[.int .i64 x, .int .i64 lo, .int .i64 hi] w fun e w' => e = .returned (.bool (isIn x lo hi)) ∧ w = w' := by
  cases h : isIn x lo hi with
  | true =>
    obtain ⟨h0, h1⟩ := isIn_yes h
    clear h
    go_enter Tryz.func133, Tryz.ntmps133
    go_wp2
    go_ret
    exact ⟨rfl, rfl⟩
  | false =>
    rcases isIn_no h with h0 | ⟨h0, h1⟩
    · have h2 : decide (lo ≤ x) = false := by simp; omega
      clear h h0
      go_enter Tryz.func133, Tryz.ntmps133
      go_wp2
      go_ret
      exact ⟨rfl, rfl⟩
    · have h2 : decide (x ≤ hi) = false := by simp; omega
      clear h h1
      go_enter Tryz.func133, Tryz.ntmps133
      go_wp2
      go_ret
      exact ⟨rfl, rfl⟩
theorem ckey_any (x : Int) (w : World) : Calls Tryz.prog 134 #[.int .i64 x] w fun e w' => e = .returned (.bool (isKey x)) ∧ w = w' := by
  have hk : isIn x 0 524287 = isKey x := by
    unfold isIn isKey
    congr 1
    apply propext
    omega
  have hc := fun u => cwithin_any x 0 524287 u
  rw [hk] at hc
  generalize isKey x = b at hc ⊢
  clear hk
  go_enter Tryz.func134, Tryz.ntmps134
  go_wp2_with (go_at_call 133; (with_reducible refine (hc _).mono ?_); rintro e w1 ⟨rfl, rfl⟩)
  go_ret
  exact ⟨rfl, rfl⟩
theorem isnode_any (x : Int) (w : World) : Calls Tryz.prog 211 #[.int .i64 x] w fun e w' => e = .returned (.bool (isIn x 0 63)) ∧ w = w' := by
  have hc := fun u => within_any x 0 63 u
  generalize isIn x 0 63 = b at hc ⊢
  go_enter Tryz.func211, Tryz.ntmps211
  go_wp2_with (go_at_call 142; (with_reducible refine (hc _).mono ?_); rintro e w1 ⟨rfl, rfl⟩)
  go_ret
  exact ⟨rfl, rfl⟩
theorem gen_any (x : Int) (w : World) : Calls Tryz.prog 93 #[.int .i64 x] w fun e w' => e = .returned (.bool (isIn x 1 1099511627776)) ∧ w = w' := by
  have hc := fun u => within_any x 1 1099511627776 u
  generalize isIn x 1 1099511627776 = b at hc ⊢
  go_enter Tryz.func93, Tryz.ntmps93
  go_wp2_with (go_at_call 142; (with_reducible refine (hc _).mono ?_); rintro e w1 ⟨rfl, rfl⟩)
  go_ret
  exact ⟨rfl, rfl⟩
theorem hop_any (x : Int) (w : World) : Calls Tryz.prog 94 #[.int .i64 x] w fun e w' => e = .returned (.bool (isIn x 0 1099511627776)) ∧ w = w' := by
  have hc := fun u => within_any x 0 1099511627776 u
  generalize isIn x 0 1099511627776 = b at hc ⊢
  go_enter Tryz.func94, Tryz.ntmps94
  go_wp2_with (go_at_call 142; (with_reducible refine (hc _).mono ?_); rintro e w1 ⟨rfl, rfl⟩)
  go_ret
  exact ⟨rfl, rfl⟩
/-! The parts that a kind has, as a number. -/
end Go.Proofs.YtbgdlokegibkmaaGreat.Frame
