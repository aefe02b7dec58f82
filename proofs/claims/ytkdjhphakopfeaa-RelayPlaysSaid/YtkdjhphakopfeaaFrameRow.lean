/-
  The document's in, a key, and a row: each returns what the plain functions of FramePlain give; of what lay when the call began nothing has turned; any ints, any leases.
-/
import Derived.Test.YtkdjhphakopfeaaChecked
import Derived.Test.YtkdjhphakopfeaaFrameWords
import Derived.Outline
import Derived.Deep.QuietTactic
import Derived.BigQuiet
namespace Go.Proofs.Ytkdjhphakopfeaa.Frame
open Go.RowKit Codec

theorem in_yes (x lo hi : Int) (w : World) (h : isIn x lo hi = true) : Calls Try.prog 44 #[.int .i64 x, .int .i64 lo, .int .i64 hi] w fun e w' => e = .returned (.bool true) ∧ w = w' := by
  obtain ⟨h0, h1⟩ := isIn_yes h
  clear h
  go_enter Try.func44, Try.ntmps44
  go_wp2
  go_ret
  exact ⟨rfl, rfl⟩
theorem in_no (x lo hi : Int) (w : World) (h : isIn x lo hi = false) : Calls Try.prog 44 #[.int .i64 x, .int .i64 lo, .int .i64 hi] w fun e w' => e = .returned (.bool false) ∧ w = w' := by
  rcases isIn_no h with h0 | ⟨h0, h1⟩
  · clear h
    go_enter Try.func44, Try.ntmps44
    go_wp2
    go_ret
    exact ⟨rfl, rfl⟩
  · have h2 : decide (x ≤ hi) = false := by simp; omega
    clear h h1
    go_enter Try.func44, Try.ntmps44
    go_wp2
    go_ret
    exact ⟨rfl, rfl⟩
theorem in_any (x lo hi : Int) (w : World) : Calls Try.prog 44 #[.int .i64 x, .int .i64 lo, .int .i64 hi] w fun e w' => e = .returned (.bool (isIn x lo hi)) ∧ w = w' := by
  cases h : isIn x lo hi with
  | true => exact in_yes x lo hi w h
  | false => exact in_no x lo hi w h
theorem key_any (x : Int) (w : World) : Calls Try.prog 68 #[.int .i64 x] w fun e w' => e = .returned (.bool (isKey x)) ∧ w = w' := by
  by_cases h0 : x < 0
  · have e : isKey x = false := by simp [isKey]; omega
    rw [e]
    clear e
    go_enter Try.func68, Try.ntmps68
    go_wp2
    go_ret
    exact ⟨rfl, rfl⟩
  · have h1 : 0 ≤ x := by omega
    have e : isKey x = decide (x < 524288) := by simp [isKey]; omega
    rw [e]
    clear e h0
    go_enter Try.func68, Try.ntmps68
    go_wp2
    go_ret
    exact ⟨rfl, rfl⟩

theorem below_drewN {B : Nat} {a w : World} (h : Below B a w) (n : Nat) : Below B a (w.drewN n) := ⟨h.os, h.tape, h.output, h.size, h.block⟩

/-- What a call tells that only asks. -/
def Asked (w : World) (b : Bool) (e : Ending) (w' : World) : Prop := e = .returned (.bool b) ∧ Below w.heap.size w w'

set_option maxRecDepth 100000 in
set_option maxHeartbeats 1000000 in
/-- The head of a row says no. -/
theorem row_no (k a m start : Int) (p : Option Addr) (n c : Nat) (w : World) (hn : (n : Int) ≤ 9223372036854775807) (h : (isKey k && isIn a 0 2147483648 && isIn m start 4611686018427387904 && decide (n ≤ 64)) = false) :
    Calls Try.prog 64 #[.agg #[.int .i64 k, .int .i64 a, .int .i64 m, .slice p n c], .int .i64 start] w (Asked w false) := by
  have ck := fun u => key_any k u
  have ca := fun u => in_any a 0 2147483648 u
  have cm := fun u => in_any m start 4611686018427387904 u
  generalize isKey k = bk at ck h
  generalize isIn a 0 2147483648 = ba at ca h
  generalize isIn m start 4611686018427387904 = bm at cm h
  have h4 : bk = false ∨ (bk = true ∧ ba = false) ∨ (bk = true ∧ ba = true ∧ bm = false) ∨ (bk = true ∧ ba = true ∧ bm = true ∧ 64 < (n : Int)) := by
    cases bk <;> cases ba <;> cases bm <;> simp at h ⊢
    omega
  clear h
  rcases h4 with rfl | ⟨rfl, rfl⟩ | ⟨rfl, rfl, rfl⟩ | ⟨rfl, rfl, rfl, h5⟩
  · go_enter Try.func64, Try.ntmps64
    go_wp2_with (first
      | (go_at_call 68; (with_reducible refine (ck _).mono ?_); rintro e w1 ⟨rfl, rfl⟩)
      | (go_at_call 44; (with_reducible refine (ca _).mono ?_); rintro e w1 ⟨rfl, rfl⟩)
      | (go_at_call 44; (with_reducible refine (cm _).mono ?_); rintro e w1 ⟨rfl, rfl⟩))
    go_ret
    exact ⟨rfl, (Below.refl _ _).alloc (Nat.le_refl _) _⟩
  · go_enter Try.func64, Try.ntmps64
    go_wp2_with (first
      | (go_at_call 68; (with_reducible refine (ck _).mono ?_); rintro e w1 ⟨rfl, rfl⟩)
      | (go_at_call 44; (with_reducible refine (ca _).mono ?_); rintro e w1 ⟨rfl, rfl⟩)
      | (go_at_call 44; (with_reducible refine (cm _).mono ?_); rintro e w1 ⟨rfl, rfl⟩))
    go_ret
    exact ⟨rfl, (Below.refl _ _).alloc (Nat.le_refl _) _⟩
  · go_enter Try.func64, Try.ntmps64
    go_wp2_with (first
      | (go_at_call 68; (with_reducible refine (ck _).mono ?_); rintro e w1 ⟨rfl, rfl⟩)
      | (go_at_call 44; (with_reducible refine (ca _).mono ?_); rintro e w1 ⟨rfl, rfl⟩)
      | (go_at_call 44; (with_reducible refine (cm _).mono ?_); rintro e w1 ⟨rfl, rfl⟩))
    go_ret
    exact ⟨rfl, (Below.refl _ _).alloc (Nat.le_refl _) _⟩
  · go_enter Try.func64, Try.ntmps64
    go_wp2_with (first
      | (go_at_call 68; (with_reducible refine (ck _).mono ?_); rintro e w1 ⟨rfl, rfl⟩)
      | (go_at_call 44; (with_reducible refine (ca _).mono ?_); rintro e w1 ⟨rfl, rfl⟩)
      | (go_at_call 44; (with_reducible refine (cm _).mono ?_); rintro e w1 ⟨rfl, rfl⟩))
    go_ret
    exact ⟨rfl, (Below.refl _ _).alloc (Nat.le_refl _) _⟩

theorem lease_false {l : List (Int × Int)} {i : Nat} (h : isIn (l.getD i (0, 0)).1 0 63 = false ∨ isIn (l.getD i (0, 0)).2 1 2147483648 = false ∨ (0 < i ∧ (l.getD i (0, 0)).1 ≤ (l.getD (i - 1) (0, 0)).1)) : leaseAt l i = false := by
  unfold leaseAt
  rcases h with h | h | ⟨h0, h1⟩
  · rw [h]; simp
  · rw [h]; simp
  · have : (i == 0 || decide ((l.getD (i - 1) (0, 0)).1 < (l.getD i (0, 0)).1)) = false := by
      rw [Bool.or_eq_false_iff]
      exact ⟨by simp; omega, decide_eq_false (by omega)⟩
    rw [this]; simp
theorem lease_true {l : List (Int × Int)} {i : Nat} (h0 : isIn (l.getD i (0, 0)).1 0 63 = true) (h1 : isIn (l.getD i (0, 0)).2 1 2147483648 = true) (h2 : i = 0 ∨ (l.getD (i - 1) (0, 0)).1 < (l.getD i (0, 0)).1) : leaseAt l i = true := by
  unfold leaseAt
  rw [h0, h1, Bool.and_true, Bool.true_and, Bool.or_eq_true]
  rcases h2 with h2 | h2
  · exact .inl (by simp [h2])
  · exact .inr (decide_eq_true h2)

theorem in_quiet (x lo hi : Int) (w : World) (b : Bool) (h : isIn x lo hi = b) : Calls Try.prog 44 #[.int .i64 x, .int .i64 lo, .int .i64 hi] w fun e w' => e = .returned (.bool b) ∧ w' = w := by
  rw [← h]
  exact (in_any x lo hi w).mono fun _ _ ⟨a, c⟩ => ⟨a, c.symm⟩

set_option maxRecDepth 100000 in
set_option maxHeartbeats 2000000 in
/-- The head of a row says yes. -/
theorem row_yes (k a m start : Int) (p : Option Addr) (l : List (Int × Int)) (c : Nat) (w : World) (h : (isKey k && isIn a 0 2147483648 && isIn m start 4611686018427387904) = true) (hn : l.length ≤ 64) (hl : LeasesAt w p l) :
    Calls Try.prog 64 #[.agg #[.int .i64 k, .int .i64 a, .int .i64 m, .slice p l.length c], .int .i64 start] w (Asked w (allTo (leaseAt l) l.length)) := by
  have ck := fun u => key_any k u
  have ca := fun u => in_any a 0 2147483648 u
  have cm := fun u => in_any m start 4611686018427387904 u
  simp only [Bool.and_eq_true] at h
  rw [h.1.1] at ck
  rw [h.1.2] at ca
  rw [h.2] at cm
  have HL := Lib.hid hl
  clear h hl
  generalize hB : allTo (leaseAt l) l.length = R
  have HB := Lib.hid hB
  clear hB
  go_enter Try.func64, Try.ntmps64
  go_wp2_with (first
      | (go_at_call 68; (with_reducible refine (ck _).mono ?_); rintro e w1 ⟨rfl, rfl⟩)
      | (go_at_call 44; (with_reducible refine (ca _).mono ?_); rintro e w1 ⟨rfl, rfl⟩)
      | (go_at_call 44; (with_reducible refine (cm _).mono ?_); rintro e w1 ⟨rfl, rfl⟩))
  generalize hw0 : w.alloc (.cells #[.int .i64 k, .int .i64 a, .int .i64 m, .slice p l.length c] 89) = w0
  have b0 : Below w.heap.size w w0 := by rw [← hw0]; exact (Below.refl _ _).alloc (Nat.le_refl _) _
  have z0 : w0.heap.size = w.heap.size + 1 := by rw [← hw0]; simp
  have k3 : w0.cell? ⟨w.heap.size, 3, none⟩ = some (.slice p l.length c) := by
    rw [← hw0, cell_of_row _ _ 3 _ _ (0, 0) (heap_alloc_new w _)]; rfl
  have HK := Lib.hid k3
  have HZ := Lib.hid z0
  clear hw0 k3 z0 ck ca cm
  go_loopw [6] (fun i wr => ∃ j : Nat, j ≤ l.length ∧ i = .int .i64 (j : Int) ∧ Hid (∀ q, q < j → leaseAt l q = true) ∧ Below w0.heap.size w0 wr) (fun i _ => l.length - (intOf i).toNat)
  case atStart => exact ⟨0, by omega, rfl, (by intro q hq; omega), Below.refl _ _⟩
  case round =>
    obtain ⟨j, hj, rfl, hok, hb⟩ := hrel
    have c3 : wr.cell? ⟨w.heap.size, 3, none⟩ = some (.slice p l.length c) := cell_on HK.out hb
    have hlw : LeasesAt wr p l := (HL.out.below b0).below hb
    by_cases hlt : j < l.length
    · obtain ⟨g, o, rfl, hc⟩ : ∃ g o, p = some ⟨g, o, none⟩ ∧ ∀ j, j < l.length → wr.cell? ⟨g, o + j * 2, none⟩ = some (.int .i64 (l.getD j (0, 0)).1) ∧ wr.cell? ⟨g, o + j * 2 + 1, none⟩ = some (.int .i64 (l.getD j (0, 0)).2) := by
        rcases hlw with h | h
        · rw [h] at hlt; simp at hlt
        · exact h
      have hc0 := (hc j hlt).1
      have hc1 := (hc j hlt).2
      have hcp : 0 < j → wr.cell? ⟨g, o + (j - 1) * 2, none⟩ = some (.int .i64 (l.getD (j - 1) (0, 0)).1) := fun _ => (hc (j - 1) (by omega)).1
      have hwl : w.heap.size < wr.heap.size := by have := hb.size; have := HZ.out; omega
      have hgl : g < wr.heap.size := World.block_lt_of_cell? _ _ hc0
      have hlf := Lib.hid (lease_false (l := l) (i := j))
      have hlt2 := Lib.hid (lease_true (l := l) (i := j))
      generalize (l.getD j (0, 0)).1 = x at hc0 hlf hlt2
      generalize (l.getD j (0, 0)).2 = y at hc1 hlf hlt2
      generalize (l.getD (j - 1) (0, 0)).1 = z at hcp hlf hlt2
      clear hlw hc
      have hb1 : Below w0.heap.size w0 (wr.alloc (.cells #[.int .i64 x, .int .i64 y] 97)) := hb.alloc hb.size _
      cases hx : isIn x 0 63 with
      | false =>
        obtain rfl : R = false := by rw [← HB.out]; exact allTo_false hlt (hlf.out (.inl hx))
        have q1 := fun u => in_quiet x 0 63 u false hx
        clear hx hcp hlf hlt2
        go_wp2
        go_quiet ((go_at_call 44; exact Calls.quiet_of_same (q1 _)))
        go_wp2
        go_ret
        exact ⟨rfl, b0.trans ((below_drewN hb1 _).mono b0.size)⟩
      | true =>
        have q1 := fun u => in_quiet x 0 63 u true hx
        cases hy : isIn y 1 2147483648 with
        | false =>
          obtain rfl : R = false := by rw [← HB.out]; exact allTo_false hlt (hlf.out (.inr (.inl hy)))
          have q2 := fun u => in_quiet y 1 2147483648 u false hy
          clear hx hy hcp hlf hlt2
          go_wp2
          go_quiet ((first | (go_at_call 44; with_reducible exact Calls.quiet_of_same (q1 _)) | (go_at_call 44; with_reducible exact Calls.quiet_of_same (q2 _))))
          go_wp2
          go_ret
          exact ⟨rfl, b0.trans ((below_drewN hb1 _).mono b0.size)⟩
        | true =>
          have q2 := fun u => in_quiet y 1 2147483648 u true hy
          by_cases h0 : 0 < j
          · have hp := hcp h0
            have h0' : (0 : Int) < (j : Int) := by omega
            by_cases hz : x ≤ z
            · obtain rfl : R = false := by rw [← HB.out]; exact allTo_false hlt (hlf.out (.inr (.inr ⟨h0, hz⟩)))
              have hd : decide (x ≤ z) = true := decide_eq_true hz
              clear hx hy hcp hlf hlt2 hz
              go_wp2
              have hlt' : (j : Int) < (l.length : Int) := by omega
              have e2 : 0 ≤ (j : Int) - 1 := by omega
              have e4 : (j : Int) - 1 < (l.length : Int) := by omega
              have e3 : ((j : Int) - 1).toNat = j - 1 := by omega
              have e1 : IntKind.i64.wrap ((j : Int) - 1) = (j : Int) - 1 := IntWalk.i64_in _ (by omega)
              go_quiet ((first | (go_at_call 44; with_reducible exact Calls.quiet_of_same (q1 _)) | (go_at_call 44; with_reducible exact Calls.quiet_of_same (q2 _))))
              clear e1 e3
              go_wp2
              go_ret
              exact ⟨rfl, b0.trans ((below_drewN hb1 _).mono b0.size)⟩
            · have HJ := Lib.hid (hlt2.out hx hy (.inr (by omega)))
              have hd : decide (x ≤ z) = false := decide_eq_false hz
              clear hx hy hcp hlf hlt2 hz
              go_wp2
              have hlt' : (j : Int) < (l.length : Int) := by omega
              have e2 : 0 ≤ (j : Int) - 1 := by omega
              have e4 : (j : Int) - 1 < (l.length : Int) := by omega
              have e3 : ((j : Int) - 1).toNat = j - 1 := by omega
              have e1 : IntKind.i64.wrap ((j : Int) - 1) = (j : Int) - 1 := IntWalk.i64_in _ (by omega)
              go_quiet ((first | (go_at_call 44; with_reducible exact Calls.quiet_of_same (q1 _)) | (go_at_call 44; with_reducible exact Calls.quiet_of_same (q2 _))))
              clear e1 e3
              go_wp2
              go_roundw
              case rel => exact ⟨j + 1, by omega, by go_num, (by intro q hq; rcases Nat.lt_succ_iff_lt_or_eq.1 hq with h | h; exact hok.out q h; rw [h]; exact HJ.out), below_drewN hb1 _⟩
              case measure => simp [intOf]; omega
          · have HJ := Lib.hid (hlt2.out hx hy (.inl (by omega)))
            have h0' : decide ((0 : Int) < (j : Int)) = false := by simp; omega
            clear hx hy hcp hlf hlt2
            go_wp2
            go_quiet ((first | (go_at_call 44; with_reducible exact Calls.quiet_of_same (q1 _)) | (go_at_call 44; with_reducible exact Calls.quiet_of_same (q2 _))))
            go_wp2
            go_roundw
            case rel => exact ⟨j + 1, by omega, by go_num, (by intro q hq; rcases Nat.lt_succ_iff_lt_or_eq.1 hq with h | h; exact hok.out q h; rw [h]; exact HJ.out), below_drewN hb1 _⟩
            case measure => simp [intOf]; omega
    · obtain rfl : j = l.length := by omega
      obtain rfl : R = true := by rw [← HB.out]; exact allTo_true hok.out
      go_wp2
      go_ret
      exact ⟨rfl, b0.trans (hb.mono b0.size)⟩

/-- A row, whole. -/
theorem row_any (r : Rw) (start : Int) (p : Option Addr) (c : Nat) (w : World) (hn : (r.out.length : Int) ≤ 9223372036854775807) (hl : LeasesAt w p r.out) :
    Calls Try.prog 64 #[.agg #[.int .i64 r.key, .int .i64 r.avail, .int .i64 r.mark, .slice p r.out.length c], .int .i64 start] w (Asked w (rowOk r start)) := by
  unfold rowOk
  cases h : (isKey r.key && isIn r.avail 0 2147483648 && isIn r.mark start 4611686018427387904 && decide (r.out.length ≤ 64)) with
  | false =>
    rw [Bool.false_and]
    exact row_no _ _ _ _ _ _ _ _ hn h
  | true =>
    rw [Bool.true_and]
    rw [Bool.and_eq_true] at h
    exact row_yes _ _ _ _ _ _ _ _ h.1 (of_decide_eq_true h.2) hl
end Go.Proofs.Ytkdjhphakopfeaa.Frame
