/-
  The document's in, a key, and a row: each returns what the plain functions of FramePlain give; of what lay when the call began nothing has turned; any ints, any leases.
  The document's Table, of any table: it returns what the plain function of FramePlain gives; of what lay when the call began nothing has turned.
  The document's Token and none, of any token: each returns what the plain functions of FramePlain give; of what lay when the call began nothing has turned.
  The document's Right, of any frame: it returns what the plain function of FramePlain gives; of what lay when the call began nothing has turned.
-/
import Derived.Outline
import Derived.Deep.QuietTactic
import Derived.BigQuiet
import Derived.Deep.RegionHeld3
import Derived.Test.YtcnnepmhdccipaaChecked
import Derived.Test.YtcnnepmhdccipaaMgB
namespace Go.Proofs.Ytcnnepmhdccipaa.Frame
open Go.RowKit Codec

theorem in_yes (x lo hi : Int) (w : World) (h : isIn x lo hi = true) : Calls Try.prog 52 #[.int .i64 x, .int .i64 lo, .int .i64 hi] w fun e w' => e = .returned (.bool true) ∧ w = w' := by
  obtain ⟨h0, h1⟩ := isIn_yes h
  clear h
  go_enter Try.func52, Try.ntmps52
  go_wp2
  go_ret
  exact ⟨rfl, rfl⟩
theorem in_no (x lo hi : Int) (w : World) (h : isIn x lo hi = false) : Calls Try.prog 52 #[.int .i64 x, .int .i64 lo, .int .i64 hi] w fun e w' => e = .returned (.bool false) ∧ w = w' := by
  rcases isIn_no h with h0 | ⟨h0, h1⟩
  · clear h
    go_enter Try.func52, Try.ntmps52
    go_wp2
    go_ret
    exact ⟨rfl, rfl⟩
  · have h2 : decide (x ≤ hi) = false := by simp; omega
    clear h h1
    go_enter Try.func52, Try.ntmps52
    go_wp2
    go_ret
    exact ⟨rfl, rfl⟩
theorem in_any (x lo hi : Int) (w : World) : Calls Try.prog 52 #[.int .i64 x, .int .i64 lo, .int .i64 hi] w fun e w' => e = .returned (.bool (isIn x lo hi)) ∧ w = w' := by
  cases h : isIn x lo hi with
  | true => exact in_yes x lo hi w h
  | false => exact in_no x lo hi w h
theorem key_any (x : Int) (w : World) : Calls Try.prog 51 #[.int .i64 x] w fun e w' => e = .returned (.bool (isKey x)) ∧ w = w' := by
  by_cases h0 : x < 0
  · have e : isKey x = false := by simp [isKey]; omega
    rw [e]
    clear e
    go_enter Try.func51, Try.ntmps51
    go_wp2
    go_ret
    exact ⟨rfl, rfl⟩
  · have h1 : 0 ≤ x := by omega
    have e : isKey x = decide (x < 524288) := by simp [isKey]; omega
    rw [e]
    clear e h0
    go_enter Try.func51, Try.ntmps51
    go_wp2
    go_ret
    exact ⟨rfl, rfl⟩

theorem below_drewN {B : Nat} {a w : World} (h : Below B a w) (n : Nat) : Below B a (w.drewN n) := ⟨h.os, h.tape, h.output, h.size, h.block⟩

/-- What a call tells that only asks. -/
def Asked (w : World) (b : Bool) (e : Ending) (w' : World) : Prop := e = .returned (.bool b) ∧ Below w.heap.size w w'

set_option maxRecDepth 100000 in
set_option maxHeartbeats 1000000 in
/-- The head of a row says no. -/
theorem row_no (k a m start : Int) (p : Option Addr) (n c : Nat) (w : World) (hn : (n : Int) ≤ 9223372036854775807) (h : (isKey k && isIn a 0 2147483648 && isIn m start 4611686018427387904 && decide (n ≤ 64)) = false) :
    Calls Try.prog 53 #[.agg #[.int .i64 k, .int .i64 a, .int .i64 m, .slice p n c], .int .i64 start] w (Asked w false) := by
  have ck := fun u => key_any k u
  have ca := fun u => in_any a 0 2147483648 u
  have cm := fun u => in_any m start 4611686018427387904 u
  generalize isKey k = bk at ck h
  generalize isIn a 0 2147483648 = ba at ca h
  generalize isIn m start 4611686018427387904 = bm at cm h
  have h4 : bk = false ∨ (bk = true ∧ ba = false) ∨ (bk = true ∧ ba = true ∧ bm = false) ∨ (bk = true ∧ ba = true ∧ bm = true ∧ 64 < (n : Int)) := by
    cases bk <;> cases ba <;> cases bm <;> simp at h ⊢
    omega
  clear h
  rcases h4 with rfl | ⟨rfl, rfl⟩ | ⟨rfl, rfl, rfl⟩ | ⟨rfl, rfl, rfl, h5⟩
  · go_enter Try.func53, Try.ntmps53
    go_wp2_with (first
      | (go_at_call 51; (with_reducible refine (ck _).mono ?_); rintro e w1 ⟨rfl, rfl⟩)
      | (go_at_call 52; (with_reducible refine (ca _).mono ?_); rintro e w1 ⟨rfl, rfl⟩)
      | (go_at_call 52; (with_reducible refine (cm _).mono ?_); rintro e w1 ⟨rfl, rfl⟩))
    go_ret
    exact ⟨rfl, (Below.refl _ _).alloc (Nat.le_refl _) _⟩
  · go_enter Try.func53, Try.ntmps53
    go_wp2_with (first
      | (go_at_call 51; (with_reducible refine (ck _).mono ?_); rintro e w1 ⟨rfl, rfl⟩)
      | (go_at_call 52; (with_reducible refine (ca _).mono ?_); rintro e w1 ⟨rfl, rfl⟩)
      | (go_at_call 52; (with_reducible refine (cm _).mono ?_); rintro e w1 ⟨rfl, rfl⟩))
    go_ret
    exact ⟨rfl, (Below.refl _ _).alloc (Nat.le_refl _) _⟩
  · go_enter Try.func53, Try.ntmps53
    go_wp2_with (first
      | (go_at_call 51; (with_reducible refine (ck _).mono ?_); rintro e w1 ⟨rfl, rfl⟩)
      | (go_at_call 52; (with_reducible refine (ca _).mono ?_); rintro e w1 ⟨rfl, rfl⟩)
      | (go_at_call 52; (with_reducible refine (cm _).mono ?_); rintro e w1 ⟨rfl, rfl⟩))
    go_ret
    exact ⟨rfl, (Below.refl _ _).alloc (Nat.le_refl _) _⟩
  · go_enter Try.func53, Try.ntmps53
    go_wp2_with (first
      | (go_at_call 51; (with_reducible refine (ck _).mono ?_); rintro e w1 ⟨rfl, rfl⟩)
      | (go_at_call 52; (with_reducible refine (ca _).mono ?_); rintro e w1 ⟨rfl, rfl⟩)
      | (go_at_call 52; (with_reducible refine (cm _).mono ?_); rintro e w1 ⟨rfl, rfl⟩))
    go_ret
    exact ⟨rfl, (Below.refl _ _).alloc (Nat.le_refl _) _⟩

theorem lease_false {l : List (Int × Int)} {i : Nat} (h : isIn (l.getD i (0, 0)).1 0 63 = false ∨ isIn (l.getD i (0, 0)).2 1 2147483648 = false ∨ (0 < i ∧ (l.getD i (0, 0)).1 ≤ (l.getD (i - 1) (0, 0)).1)) : leaseAt l i = false := by
  unfold leaseAt
  rcases h with h | h | ⟨h0, h1⟩
  · rw [h]; simp
  · rw [h]; simp
  · have : (i == 0 || decide ((l.getD (i - 1) (0, 0)).1 < (l.getD i (0, 0)).1)) = false := by
      rw [Bool.or_eq_false_iff]
      exact ⟨by simp; omega, decide_eq_false (by omega)⟩
    rw [this]; simp
theorem lease_true {l : List (Int × Int)} {i : Nat} (h0 : isIn (l.getD i (0, 0)).1 0 63 = true) (h1 : isIn (l.getD i (0, 0)).2 1 2147483648 = true) (h2 : i = 0 ∨ (l.getD (i - 1) (0, 0)).1 < (l.getD i (0, 0)).1) : leaseAt l i = true := by
  unfold leaseAt
  rw [h0, h1, Bool.and_true, Bool.true_and, Bool.or_eq_true]
  rcases h2 with h2 | h2
  · exact .inl (by simp [h2])
  · exact .inr (decide_eq_true h2)

theorem in_quiet (x lo hi : Int) (w : World) (b : Bool) (h : isIn x lo hi = b) : Calls Try.prog 52 #[.int .i64 x, .int .i64 lo, .int .i64 hi] w fun e w' => e = .returned (.bool b) ∧ w' = w := by
  rw [← h]
  exact (in_any x lo hi w).mono fun _ _ ⟨a, c⟩ => ⟨a, c.symm⟩

set_option maxRecDepth 100000 in
set_option maxHeartbeats 2000000 in
/-- The head of a row says yes. -/
theorem row_yes (k a m start : Int) (p : Option Addr) (l : List (Int × Int)) (c : Nat) (w : World) (h : (isKey k && isIn a 0 2147483648 && isIn m start 4611686018427387904) = true) (hn : l.length ≤ 64) (hl : LeasesAt w p l) :
    Calls Try.prog 53 #[.agg #[.int .i64 k, .int .i64 a, .int .i64 m, .slice p l.length c], .int .i64 start] w (Asked w (allTo (leaseAt l) l.length)) := by
  have ck := fun u => key_any k u
  have ca := fun u => in_any a 0 2147483648 u
  have cm := fun u => in_any m start 4611686018427387904 u
  simp only [Bool.and_eq_true] at h
  rw [h.1.1] at ck
  rw [h.1.2] at ca
  rw [h.2] at cm
  have HL := Lib.hid hl
  clear h hl
  generalize hB : allTo (leaseAt l) l.length = R
  have HB := Lib.hid hB
  clear hB
  go_enter Try.func53, Try.ntmps53
  go_wp2_with (first
      | (go_at_call 51; (with_reducible refine (ck _).mono ?_); rintro e w1 ⟨rfl, rfl⟩)
      | (go_at_call 52; (with_reducible refine (ca _).mono ?_); rintro e w1 ⟨rfl, rfl⟩)
      | (go_at_call 52; (with_reducible refine (cm _).mono ?_); rintro e w1 ⟨rfl, rfl⟩))
  generalize hw0 : w.alloc (.cells #[.int .i64 k, .int .i64 a, .int .i64 m, .slice p l.length c] 38) = w0
  have b0 : Below w.heap.size w w0 := by rw [← hw0]; exact (Below.refl _ _).alloc (Nat.le_refl _) _
  have z0 : w0.heap.size = w.heap.size + 1 := by rw [← hw0]; simp
  have k3 : w0.cell? ⟨w.heap.size, 3, none⟩ = some (.slice p l.length c) := by
    rw [← hw0, cell_of_row _ _ 3 _ _ (0, 0) (heap_alloc_new w _)]; rfl
  have HK := Lib.hid k3
  have HZ := Lib.hid z0
  clear hw0 k3 z0 ck ca cm
  go_loopw [6] (fun i wr => ∃ j : Nat, j ≤ l.length ∧ i = .int .i64 (j : Int) ∧ Hid (∀ q, q < j → leaseAt l q = true) ∧ Below w0.heap.size w0 wr) (fun i _ => l.length - (intOf i).toNat)
  case atStart => exact ⟨0, by omega, rfl, (by intro q hq; omega), Below.refl _ _⟩
  case round =>
    obtain ⟨j, hj, rfl, hok, hb⟩ := hrel
    have c3 : wr.cell? ⟨w.heap.size, 3, none⟩ = some (.slice p l.length c) := cell_on HK.out hb
    have hlw : LeasesAt wr p l := (HL.out.below b0).below hb
    by_cases hlt : j < l.length
    · obtain ⟨g, o, rfl, hc⟩ : ∃ g o, p = some ⟨g, o, none⟩ ∧ ∀ j, j < l.length → wr.cell? ⟨g, o + j * 2, none⟩ = some (.int .i64 (l.getD j (0, 0)).1) ∧ wr.cell? ⟨g, o + j * 2 + 1, none⟩ = some (.int .i64 (l.getD j (0, 0)).2) := by
        rcases hlw with h | h
        · rw [h] at hlt; simp at hlt
        · exact h
      have hc0 := (hc j hlt).1
      have hc1 := (hc j hlt).2
      have hcp : 0 < j → wr.cell? ⟨g, o + (j - 1) * 2, none⟩ = some (.int .i64 (l.getD (j - 1) (0, 0)).1) := fun _ => (hc (j - 1) (by omega)).1
      have hwl : w.heap.size < wr.heap.size := by have := hb.size; have := HZ.out; omega
      have hgl : g < wr.heap.size := World.block_lt_of_cell? _ _ hc0
      have hlf := Lib.hid (lease_false (l := l) (i := j))
      have hlt2 := Lib.hid (lease_true (l := l) (i := j))
      generalize (l.getD j (0, 0)).1 = x at hc0 hlf hlt2
      generalize (l.getD j (0, 0)).2 = y at hc1 hlf hlt2
      generalize (l.getD (j - 1) (0, 0)).1 = z at hcp hlf hlt2
      clear hlw hc
      have hb1 : Below w0.heap.size w0 (wr.alloc (.cells #[.int .i64 x, .int .i64 y] 78)) := hb.alloc hb.size _
      cases hx : isIn x 0 63 with
      | false =>
        obtain rfl : R = false := by rw [← HB.out]; exact allTo_false hlt (hlf.out (.inl hx))
        have q1 := fun u => in_quiet x 0 63 u false hx
        clear hx hcp hlf hlt2
        go_wp2
        go_quiet ((go_at_call 52; exact Calls.quiet_of_same (q1 _)))
        go_wp2
        go_ret
        exact ⟨rfl, b0.trans ((below_drewN hb1 _).mono b0.size)⟩
      | true =>
        have q1 := fun u => in_quiet x 0 63 u true hx
        cases hy : isIn y 1 2147483648 with
        | false =>
          obtain rfl : R = false := by rw [← HB.out]; exact allTo_false hlt (hlf.out (.inr (.inl hy)))
          have q2 := fun u => in_quiet y 1 2147483648 u false hy
          clear hx hy hcp hlf hlt2
          go_wp2
          go_quiet ((first | (go_at_call 52; with_reducible exact Calls.quiet_of_same (q1 _)) | (go_at_call 52; with_reducible exact Calls.quiet_of_same (q2 _))))
          go_wp2
          go_ret
          exact ⟨rfl, b0.trans ((below_drewN hb1 _).mono b0.size)⟩
        | true =>
          have q2 := fun u => in_quiet y 1 2147483648 u true hy
          by_cases h0 : 0 < j
          · have hp := hcp h0
            have h0' : (0 : Int) < (j : Int) := by omega
            by_cases hz : x ≤ z
            · obtain rfl : R = false := by rw [← HB.out]; exact allTo_false hlt (hlf.out (.inr (.inr ⟨h0, hz⟩)))
              have hd : decide (x ≤ z) = true := decide_eq_true hz
              clear hx hy hcp hlf hlt2 hz
              go_wp2
              have hlt' : (j : Int) < (l.length : Int) := by omega
              have e2 : 0 ≤ (j : Int) - 1 := by omega
              have e4 : (j : Int) - 1 < (l.length : Int) := by omega
              have e3 : ((j : Int) - 1).toNat = j - 1 := by omega
              have e1 : IntKind.i64.wrap ((j : Int) - 1) = (j : Int) - 1 := IntWalk.i64_in _ (by omega)
              go_quiet ((first | (go_at_call 52; with_reducible exact Calls.quiet_of_same (q1 _)) | (go_at_call 52; with_reducible exact Calls.quiet_of_same (q2 _))))
              clear e1 e3
              go_wp2
              go_ret
              exact ⟨rfl, b0.trans ((below_drewN hb1 _).mono b0.size)⟩
            · have HJ := Lib.hid (hlt2.out hx hy (.inr (by omega)))
              have hd : decide (x ≤ z) = false := decide_eq_false hz
              clear hx hy hcp hlf hlt2 hz
              go_wp2
              have hlt' : (j : Int) < (l.length : Int) := by omega
              have e2 : 0 ≤ (j : Int) - 1 := by omega
              have e4 : (j : Int) - 1 < (l.length : Int) := by omega
              have e3 : ((j : Int) - 1).toNat = j - 1 := by omega
              have e1 : IntKind.i64.wrap ((j : Int) - 1) = (j : Int) - 1 := IntWalk.i64_in _ (by omega)
              go_quiet ((first | (go_at_call 52; with_reducible exact Calls.quiet_of_same (q1 _)) | (go_at_call 52; with_reducible exact Calls.quiet_of_same (q2 _))))
              clear e1 e3
              go_wp2
              go_roundw
              case rel => exact ⟨j + 1, by omega, by go_num, (by intro q hq; rcases Nat.lt_succ_iff_lt_or_eq.1 hq with h | h; exact hok.out q h; rw [h]; exact HJ.out), below_drewN hb1 _⟩
              case measure => simp [intOf]; omega
          · have HJ := Lib.hid (hlt2.out hx hy (.inl (by omega)))
            have h0' : decide ((0 : Int) < (j : Int)) = false := by simp; omega
            clear hx hy hcp hlf hlt2
            go_wp2
            go_quiet ((first | (go_at_call 52; with_reducible exact Calls.quiet_of_same (q1 _)) | (go_at_call 52; with_reducible exact Calls.quiet_of_same (q2 _))))
            go_wp2
            go_roundw
            case rel => exact ⟨j + 1, by omega, by go_num, (by intro q hq; rcases Nat.lt_succ_iff_lt_or_eq.1 hq with h | h; exact hok.out q h; rw [h]; exact HJ.out), below_drewN hb1 _⟩
            case measure => simp [intOf]; omega
    · obtain rfl : j = l.length := by omega
      obtain rfl : R = true := by rw [← HB.out]; exact allTo_true hok.out
      go_wp2
      go_ret
      exact ⟨rfl, b0.trans (hb.mono b0.size)⟩

/-- A row, whole. -/
theorem row_any (r : Rw) (start : Int) (p : Option Addr) (c : Nat) (w : World) (hn : (r.out.length : Int) ≤ 9223372036854775807) (hl : LeasesAt w p r.out) :
    Calls Try.prog 53 #[.agg #[.int .i64 r.key, .int .i64 r.avail, .int .i64 r.mark, .slice p r.out.length c], .int .i64 start] w (Asked w (rowOk r start)) := by
  unfold rowOk
  cases h : (isKey r.key && isIn r.avail 0 2147483648 && isIn r.mark start 4611686018427387904 && decide (r.out.length ≤ 64)) with
  | false =>
    rw [Bool.false_and]
    exact row_no _ _ _ _ _ _ _ _ hn h
  | true =>
    rw [Bool.true_and]
    rw [Bool.and_eq_true] at h
    exact row_yes _ _ _ _ _ _ _ _ h.1 (of_decide_eq_true h.2) hl
end Go.Proofs.Ytcnnepmhdccipaa.Frame

namespace Go.Proofs.Ytcnnepmhdccipaa.Frame
open Go.RowKit Codec

set_option maxRecDepth 100000 in
theorem table_no (start : Int) (p : Option Addr) (n c : Nat) (w : World) (h : (isIn start 0 4611686018427387904 && decide (n ≤ 16)) = false) :
    Calls Try.prog 28 #[.agg #[.int .i64 start, .slice p n c]] w (Asked w false) := by
  have ci := fun u => in_any start 0 4611686018427387904 u
  generalize isIn start 0 4611686018427387904 = b at ci h
  have h4 : b = false ∨ (b = true ∧ 16 < (n : Int)) := by
    cases b <;> simp at h ⊢
    omega
  clear h
  rcases h4 with rfl | ⟨rfl, h5⟩
  · go_enter Try.func28, Try.ntmps28
    go_wp2_with (go_at_call 52; (with_reducible refine (ci _).mono ?_); rintro e w1 ⟨rfl, rfl⟩)
    go_ret
    exact ⟨rfl, (Below.refl _ _).alloc (Nat.le_refl _) _⟩
  · go_enter Try.func28, Try.ntmps28
    go_wp2_with (go_at_call 52; (with_reducible refine (ci _).mono ?_); rintro e w1 ⟨rfl, rfl⟩)
    go_ret
    exact ⟨rfl, (Below.refl _ _).alloc (Nat.le_refl _) _⟩

theorem undrew {w w' : World} (h : Below w.drew.heap.size w.drew w') : Below w.heap.size w w' := ⟨h.os, h.tape, h.output, h.size, h.block⟩

theorem rowAt_false {l : List Rw} {s : Int} {i : Nat} (h : rowOk (l.getD i noRow) s = false ∨ (0 < i ∧ (l.getD i noRow).key ≤ (l.getD (i - 1) noRow).key)) : rowAt l s i = false := by
  unfold rowAt
  rcases h with h | ⟨h0, h1⟩
  · rw [h]; simp
  · have : (i == 0 || decide ((l.getD (i - 1) noRow).key < (l.getD i noRow).key)) = false := by
      rw [Bool.or_eq_false_iff]
      exact ⟨by simp; omega, decide_eq_false (by omega)⟩
    rw [this]; simp
theorem rowAt_true {l : List Rw} {s : Int} {i : Nat} (h0 : rowOk (l.getD i noRow) s = true) (h2 : i = 0 ∨ (l.getD (i - 1) noRow).key < (l.getD i noRow).key) : rowAt l s i = true := by
  unfold rowAt
  rw [h0, Bool.true_and, Bool.or_eq_true]
  rcases h2 with h2 | h2
  · exact .inl (by simp [h2])
  · exact .inr (decide_eq_true h2)

set_option maxRecDepth 100000 in
set_option maxHeartbeats 2000000 in
theorem table_yes (start : Int) (p : Option Addr) (l : List Rw) (c : Nat) (w : World) (h : isIn start 0 4611686018427387904 = true) (hn : l.length ≤ 16) (hl : RowsAt w p l) (hs : ∀ r ∈ l, (r.out.length : Int) ≤ 9223372036854775807) :
    Calls Try.prog 28 #[.agg #[.int .i64 start, .slice p l.length c]] w (Asked w (allTo (rowAt l start) l.length)) := by
  have ci := fun u => in_any start 0 4611686018427387904 u
  rw [h] at ci
  have HL := Lib.hid hl
  have HS := Lib.hid hs
  clear h hl hs
  generalize hB : allTo (rowAt l start) l.length = R
  have HB := Lib.hid hB
  clear hB
  go_enter Try.func28, Try.ntmps28
  go_wp2_with (go_at_call 52; (with_reducible refine (ci _).mono ?_); rintro e w1 ⟨rfl, rfl⟩)
  generalize hw0 : w.alloc (.cells #[.int .i64 start, .slice p l.length c] 24) = w0
  have b0 : Below w.heap.size w w0 := by rw [← hw0]; exact (Below.refl _ _).alloc (Nat.le_refl _) _
  have k0 : w0.cell? ⟨w.heap.size, 0, none⟩ = some (.int .i64 start) := by
    rw [← hw0, cell_of_row _ _ 0 _ _ (0, 0) (heap_alloc_new w _)]; rfl
  have k1 : w0.cell? ⟨w.heap.size, 1, none⟩ = some (.slice p l.length c) := by
    rw [← hw0, cell_of_row _ _ 1 _ _ (0, 0) (heap_alloc_new w _)]; rfl
  have HK0 := Lib.hid k0
  have HK1 := Lib.hid k1
  clear hw0 k0 k1 ci
  go_loopw [4] (fun i wr => ∃ j : Nat, j ≤ l.length ∧ i = .int .i64 (j : Int) ∧ Hid (∀ q, q < j → rowAt l start q = true) ∧ Below w0.heap.size w0 wr) (fun i _ => l.length - (intOf i).toNat)
  case atStart => exact ⟨0, by omega, rfl, (by intro q hq; omega), Below.refl _ _⟩
  case round =>
    obtain ⟨j, hj, rfl, hok, hb⟩ := hrel
    have c0 : wr.cell? ⟨w.heap.size, 0, none⟩ = some (.int .i64 start) := cell_on HK0.out hb
    have c1 : wr.cell? ⟨w.heap.size, 1, none⟩ = some (.slice p l.length c) := cell_on HK1.out hb
    have hlw : RowsAt wr p l := (HL.out.below b0).below hb
    by_cases hlt : j < l.length
    · obtain ⟨g, o, rfl, hc⟩ : ∃ g o, p = some ⟨g, o, none⟩ ∧ ∀ j, j < l.length → RowAt wr g (o + j * 4) (l.getD j noRow) := by
        rcases hlw with h | h
        · rw [h] at hlt; simp at hlt
        · exact h
      obtain ⟨d0, d1, d2, p3, c3, d3, hle⟩ := hc j hlt
      have hcp : 0 < j → wr.cell? ⟨g, o + (j - 1) * 4, none⟩ = some (.int .i64 (l.getD (j - 1) noRow).key) := fun _ => (hc (j - 1) (by omega)).1
      have hro := HS.out (l.getD j noRow) (by simp [List.getD, hlt])
      have hrow := fun (u : World) (hu : Below wr.heap.size wr u) => row_any (l.getD j noRow) start p3 c3 u hro (hle.below hu)
      have hrf := Lib.hid (rowAt_false (l := l) (s := start) (i := j))
      have hrt := Lib.hid (rowAt_true (l := l) (s := start) (i := j))
      generalize (l.getD (j - 1) noRow).key = z at hcp hrf hrt
      generalize l.getD j noRow = r at d0 d1 d2 d3 hle hrow hrf hrt hro
      obtain ⟨x, av, mk, out⟩ := r
      simp only at d0 d1 d2 d3 hle hrow hrf hrt hro
      have hlt' : (j : Int) < (l.length : Int) := by omega
      clear hlw hc hle hro
      generalize hR : rowOk ⟨x, av, mk, out⟩ start = br at hrow hrf hrt
      clear hR
      go_wp2
      go_region_held3 (fun u => u.cell? ⟨w.heap.size, 0, none⟩ = some (.int .i64 start) ∧ u.cell? ⟨w.heap.size, 1, none⟩ = some (.slice (some ⟨g, o, none⟩) l.length c) ∧ u.cell? ⟨g, o + j * 4, none⟩ = some (.int .i64 x) ∧ u.cell? ⟨g, o + j * 4 + 1, none⟩ = some (.int .i64 av) ∧ u.cell? ⟨g, o + j * 4 + 2, none⟩ = some (.int .i64 mk) ∧ u.cell? ⟨g, o + j * 4 + 3, none⟩ = some (.slice p3 out.length c3)) (first | assumption | exact ⟨c0, c1, d0, d1, d2, d3⟩) (first
        | (go_at_call 53; (with_reducible refine (hrow _ (Below.refl _ _).drew).mono ?_); rintro e u1 ⟨rfl, hb1⟩; have HB1 := Lib.hid (undrew hb1); clear hb1; have s1 : u1.cell? ⟨w.heap.size, 0, none⟩ = some (.int .i64 start) ∧ u1.cell? ⟨w.heap.size, 1, none⟩ = some (.slice (some ⟨g, o, none⟩) l.length c) ∧ u1.cell? ⟨g, o + j * 4, none⟩ = some (.int .i64 x) ∧ u1.cell? ⟨g, o + j * 4 + 1, none⟩ = some (.int .i64 av) ∧ u1.cell? ⟨g, o + j * 4 + 2, none⟩ = some (.int .i64 mk) ∧ u1.cell? ⟨g, o + j * 4 + 3, none⟩ = some (.slice p3 out.length c3) := ⟨cell_on c0 HB1.out, cell_on c1 HB1.out, cell_on d0 HB1.out, cell_on d1 HB1.out, cell_on d2 HB1.out, cell_on d3 HB1.out⟩))
      obtain ⟨s0, s1', s2, _, _, _⟩ := s1
      have hb2 : Below w0.heap.size w0 u1 := hb.trans (HB1.out.mono hb.size)
      have hp1 : 0 < j → u1.cell? ⟨g, o + (j - 1) * 4, none⟩ = some (.int .i64 z) := fun h => cell_on (hcp h) HB1.out
      clear c0 c1 d0 d1 d2 d3 hrow hcp
      cases br with
      | false =>
        obtain rfl : R = false := by rw [← HB.out]; exact allTo_false hlt (hrf.out (.inl rfl))
        clear hrf hrt hp1
        go_wp2
        go_quiet (fail)
        go_wp2
        go_ret
        exact ⟨rfl, b0.trans ((below_drewN hb2 _).mono b0.size)⟩
      | true =>
        by_cases h0 : 0 < j
        · have hp := hp1 h0
          have h0' : (0 : Int) < (j : Int) := by omega
          clear hp1
          by_cases hz : x ≤ z
          · obtain rfl : R = false := by rw [← HB.out]; exact allTo_false hlt (hrf.out (.inr ⟨h0, hz⟩))
            have hd : decide (x ≤ z) = true := decide_eq_true hz
            clear hrf hrt hz
            go_wp2
            have e2 : 0 ≤ (j : Int) - 1 := by omega
            have e4 : (j : Int) - 1 < (l.length : Int) := by omega
            have e3 : ((j : Int) - 1).toNat = j - 1 := by omega
            have e1 : IntKind.i64.wrap ((j : Int) - 1) = (j : Int) - 1 := IntWalk.i64_in _ (by omega)
            go_quiet (fail)
            clear e1 e3
            go_wp2
            go_ret
            exact ⟨rfl, b0.trans ((below_drewN hb2 _).mono b0.size)⟩
          · have HJ := Lib.hid (hrt.out rfl (.inr (by omega)))
            have hd : decide (x ≤ z) = false := decide_eq_false hz
            clear hrf hrt hz
            go_wp2
            have e2 : 0 ≤ (j : Int) - 1 := by omega
            have e4 : (j : Int) - 1 < (l.length : Int) := by omega
            have e3 : ((j : Int) - 1).toNat = j - 1 := by omega
            have e1 : IntKind.i64.wrap ((j : Int) - 1) = (j : Int) - 1 := IntWalk.i64_in _ (by omega)
            go_quiet (fail)
            clear e1 e3
            go_wp2
            go_roundw
            case rel => exact ⟨j + 1, by omega, by go_num, (by intro q hq; rcases Nat.lt_succ_iff_lt_or_eq.1 hq with h | h; exact hok.out q h; rw [h]; exact HJ.out), below_drewN hb2 _⟩
            case measure => simp [intOf]; omega
        · have HJ := Lib.hid (hrt.out rfl (.inl (by omega)))
          have h0' : decide ((0 : Int) < (j : Int)) = false := by simp; omega
          clear hrf hrt hp1
          go_wp2
          go_quiet (fail)
          go_wp2
          go_roundw
          case rel => exact ⟨j + 1, by omega, by go_num, (by intro q hq; rcases Nat.lt_succ_iff_lt_or_eq.1 hq with h | h; exact hok.out q h; rw [h]; exact HJ.out), below_drewN hb2 _⟩
          case measure => simp [intOf]; omega
    · obtain rfl : j = l.length := by omega
      obtain rfl : R = true := by rw [← HB.out]; exact allTo_true hok.out
      go_wp2
      go_ret
      exact ⟨rfl, b0.trans (hb.mono b0.size)⟩

/-- The rows' leases are no longer than a slice may be. -/
def Small (l : List Rw) : Prop := ∀ r ∈ l, (r.out.length : Int) ≤ 9223372036854775807

/-- Table, of any. -/
theorem table_any (t : Tb) (p : Option Addr) (c : Nat) (w : World) (hl : RowsAt w p t.rows) (hs : Small t.rows) :
    Calls Try.prog 28 #[.agg #[.int .i64 t.start, .slice p t.rows.length c]] w (Asked w (tableOk t)) := by
  unfold tableOk
  cases h : (isIn t.start 0 4611686018427387904 && decide (t.rows.length ≤ 16)) with
  | false =>
    rw [Bool.false_and]
    exact table_no _ _ _ _ _ h
  | true =>
    rw [Bool.true_and]
    rw [Bool.and_eq_true] at h
    exact table_yes _ _ _ _ _ h.1 (of_decide_eq_true h.2) hl hs
end Go.Proofs.Ytcnnepmhdccipaa.Frame

namespace Go.Proofs.Ytcnnepmhdccipaa.Frame
open Go.RowKit Codec

theorem stamps_succ (l : List Int) (n : Nat) : stampsOk l (n + 1) = (stampsOk l n && isIn (l.getD n 0) (-1) 4611686018427387903) := allTo_succ _ n


theorem none_ways (gen hop start : Int) (n m : Nat) (R : Bool) (h : (gen == 0 && hop == 0 && n == 0 && start == 0 && m == 0) = R) :
    (gen ≠ 0 ∧ R = false) ∨ (gen = 0 ∧ hop ≠ 0 ∧ R = false) ∨ (gen = 0 ∧ hop = 0 ∧ 0 < n ∧ R = false) ∨ (gen = 0 ∧ hop = 0 ∧ n = 0 ∧ start ≠ 0 ∧ R = false) ∨ (gen = 0 ∧ hop = 0 ∧ n = 0 ∧ start = 0 ∧ 0 < m ∧ R = false) ∨ (gen = 0 ∧ hop = 0 ∧ n = 0 ∧ start = 0 ∧ m = 0 ∧ R = true) := by
  subst h
  by_cases h1 : gen = 0
  · by_cases h2 : hop = 0
    · by_cases h3 : n = 0
      · by_cases h4 : start = 0
        · by_cases h5 : m = 0
          · exact .inr (.inr (.inr (.inr (.inr ⟨h1, h2, h3, h4, h5, by simp [h1, h2, h3, h4, h5]⟩))))
          · exact .inr (.inr (.inr (.inr (.inl ⟨h1, h2, h3, h4, by omega, by simp [h5]⟩))))
        · exact .inr (.inr (.inr (.inl ⟨h1, h2, h3, h4, by simp [h4]⟩)))
      · exact .inr (.inr (.inl ⟨h1, h2, by omega, by simp [h3]⟩))
    · exact .inr (.inl ⟨h1, h2, by simp [h2]⟩)
  · exact .inl ⟨h1, by simp [h1]⟩

end Go.Proofs.Ytcnnepmhdccipaa.Frame

namespace Go.Proofs.Ytcnnepmhdccipaa.Frame
open Go.RowKit Codec

theorem and4 {a b c d R : Bool} (h : (a && b && c && d) = R) : (a = false ∧ R = false) ∨ (a = true ∧ b = false ∧ R = false) ∨ (a = true ∧ b = true ∧ c = false ∧ R = false) ∨ (a = true ∧ b = true ∧ c = true ∧ d = false ∧ R = false) ∨ (a = true ∧ b = true ∧ c = true ∧ d = true ∧ R = true) := by
  subst h
  cases a <;> cases b <;> cases c <;> cases d <;> simp
theorem and3 {a b c R : Bool} (h : (a && b && c) = R) : (a = false ∧ R = false) ∨ (a = true ∧ b = false ∧ R = false) ∨ (a = true ∧ b = true ∧ c = false ∧ R = false) ∨ (a = true ∧ b = true ∧ c = true ∧ R = true) := by
  subst h
  cases a <;> cases b <;> cases c <;> simp

/-- The frame's own cells. -/
def FrameBox (w : World) (B : Nat) (kind gen hop bits tg th ts : Int) (ps p : Option Addr) (n cs m c : Nat) : Prop :=
  w.cell? ⟨B, 0, none⟩ = some (.int .i64 kind) ∧ w.cell? ⟨B, 3, none⟩ = some (.int .i64 gen) ∧ w.cell? ⟨B, 4, none⟩ = some (.int .i64 hop) ∧ w.cell? ⟨B, 5, none⟩ = some (.int .u64 bits) ∧
    w.cell? ⟨B, 6, none⟩ = some (.int .i64 tg) ∧ w.cell? ⟨B, 7, none⟩ = some (.int .i64 th) ∧ w.cell? ⟨B, 8, none⟩ = some (.slice ps n cs) ∧ w.cell? ⟨B, 9, none⟩ = some (.int .i64 ts) ∧ w.cell? ⟨B, 10, none⟩ = some (.slice p m c)
theorem FrameBox.below {w w' : World} {B : Nat} {kind gen hop bits tg th ts : Int} {ps p : Option Addr} {n cs m c : Nat} (h : FrameBox w B kind gen hop bits tg th ts ps p n cs m c) (hb : Below w.heap.size w w') : FrameBox w' B kind gen hop bits tg th ts ps p n cs m c := by
  obtain ⟨h0, h1, h2, h3, h4, h5, h6, h7, h8⟩ := h
  exact ⟨cell_on h0 hb, cell_on h1 hb, cell_on h2 hb, cell_on h3 hb, cell_on h4 hb, cell_on h5 hb, cell_on h6 hb, cell_on h7 hb, cell_on h8 hb⟩



/-- A frame, and where its parts lie. -/
structure Lying (w : World) (f : Fr) (ps p : Option Addr) : Prop where
  stamps : Ints w ps f.token.stamps
  rows : RowsAt w p f.token.table.rows
  small : Small f.token.table.rows
  few : (f.token.stamps.length : Int) ≤ 9223372036854775807
  many : (f.token.table.rows.length : Int) ≤ 9223372036854775807
/-- A frame as a value. -/
def frameVal (f : Fr) (ps p : Option Addr) (cs c : Nat) : Value :=
  .agg #[.int .i64 f.kind, .int .i64 f.src, .int .i64 f.dst, .int .i64 f.gen, .int .i64 f.hop, .int .u64 f.bits, .int .i64 f.token.gen, .int .i64 f.token.hop, .slice ps f.token.stamps.length cs, .int .i64 f.token.table.start, .slice p f.token.table.rows.length c]

end Go.Proofs.Ytcnnepmhdccipaa.Frame
