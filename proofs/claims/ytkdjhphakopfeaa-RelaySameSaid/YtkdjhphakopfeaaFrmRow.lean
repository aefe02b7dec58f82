/-
  The program's stampsMayBe, leasesMayBe and rowMayBe: each returns what the plain functions of FramePlain give; of what lay when the call began nothing has turned.
-/
import Derived.Test.YtkdjhphakopfeaaFrmAsk
namespace Go.Proofs.Ytkdjhphakopfeaa.Frame
open Go.RowKit Codec

/-- The node ahead of the j-th lease. -/
def lastOf (l : List (Int × Int)) (j : Nat) : Int := if j = 0 then -1 else (l.getD (j - 1) (0, 0)).1
theorem lease_no {l : List (Int × Int)} {j : Nat} (h : (l.getD j (0, 0)).1 ≤ lastOf l j ∨ isIn (l.getD j (0, 0)).1 0 63 = false ∨ isIn (l.getD j (0, 0)).2 1 2147483648 = false) : leaseAt l j = false := by
  rcases h with h | h | h
  · unfold lastOf at h
    by_cases hj : j = 0
    · rw [if_pos hj] at h
      exact lease_false (.inl (by unfold isIn; exact decide_eq_false (by omega)))
    · rw [if_neg hj] at h
      exact lease_false (.inr (.inr ⟨by omega, h⟩))
  · exact lease_false (.inl h)
  · exact lease_false (.inr (.inl h))
theorem lease_yes {l : List (Int × Int)} {j : Nat} (h : lastOf l j < (l.getD j (0, 0)).1) (h0 : isIn (l.getD j (0, 0)).1 0 63 = true) (h1 : isIn (l.getD j (0, 0)).2 1 2147483648 = true) : leaseAt l j = true := by
  refine lease_true h0 h1 ?_
  unfold lastOf at h
  by_cases hj : j = 0
  · exact .inl hj
  · rw [if_neg hj] at h
    exact .inr h
theorem lastOf_succ (l : List (Int × Int)) (j : Nat) : lastOf l (j + 1) = (l.getD j (0, 0)).1 := by simp [lastOf]
theorem leases_rise (l : List (Int × Int)) (n : Nat) (h : ∀ q, q < n → leaseAt l q = true) : ∀ q, q < n → (q : Int) ≤ (l.getD q (0, 0)).1 ∧ (l.getD q (0, 0)).1 ≤ 63 := by
  intro q
  induction q with
  | zero =>
    intro hq
    have := h 0 hq
    unfold leaseAt at this
    simp only [Bool.and_eq_true] at this
    have := isIn_yes this.1.1
    omega
  | succ q ih =>
    intro hq
    have h1 := ih (by omega)
    have := h (q + 1) hq
    unfold leaseAt at this
    simp only [Bool.and_eq_true, Bool.or_eq_true, Nat.add_sub_cancel] at this
    have h2 := isIn_yes this.1.1
    rcases this.2 with h3 | h3
    · simp at h3
    · have := of_decide_eq_true h3
      omega
theorem leases_few (l : List (Int × Int)) (h : allTo (leaseAt l) l.length = true) : l.length ≤ 64 := by
  by_cases h0 : l.length = 0
  · omega
  · have h1 : ∀ q, q < l.length → leaseAt l q = true := by
      intro q hq
      rw [allTo, List.all_eq_true] at h
      exact h q (List.mem_range.2 hq)
    have := leases_rise l l.length h1 (l.length - 1) (by omega)
    omega
theorem rowOk_eq (r : Rw) (start : Int) : rowOk r start = (isKey r.key && isIn r.avail 0 2147483648 && isIn r.mark start 4611686018427387904 && allTo (leaseAt r.out) r.out.length) := by
  unfold rowOk
  cases h : allTo (leaseAt r.out) r.out.length with
  | false => simp
  | true =>
    have := leases_few r.out h
    rw [decide_eq_true this, Bool.and_true]

set_option maxRecDepth 100000 in
set_option maxHeartbeats 1000000 in
theorem leases_any (p : Option Addr) (l : List (Int × Int)) (c : Nat) (w : World) (hn : (l.length : Int) ≤ 9223372036854775807) (hl : LeasesAt w p l) :
    Calls Try.prog 71 #[.slice p l.length c] w (Asked w (allTo (leaseAt l) l.length)) := by
  generalize hB : allTo (leaseAt l) l.length = R
  have HB := Lib.hid hB
  have HL := Lib.hid hl
  clear hB hl
  go_enter Try.func71, Try.ntmps71
  go_wp2
  go_loopw [3, 8] (fun la i wr => ∃ j : Nat, j ≤ l.length ∧ la = .int .i64 (lastOf l j) ∧ i = .int .i64 (j : Int) ∧ Hid (∀ q, q < j → leaseAt l q = true) ∧ Below w.heap.size w wr) (fun _ i _ => l.length - (intOf i).toNat)
  case atStart => exact ⟨0, by omega, rfl, rfl, (by intro q hq; omega), Below.refl _ _⟩
  case round =>
    obtain ⟨j, hj, rfl, rfl, hok, hb⟩ := hrel
    have hlw : LeasesAt wr p l := HL.out.below hb
    by_cases hlt : j < l.length
    · obtain ⟨g, o, rfl, hc⟩ : ∃ g o, p = some ⟨g, o, none⟩ ∧ ∀ j, j < l.length → wr.cell? ⟨g, o + j * 2, none⟩ = some (.int .i64 (l.getD j (0, 0)).1) ∧ wr.cell? ⟨g, o + j * 2 + 1, none⟩ = some (.int .i64 (l.getD j (0, 0)).2) := by
        rcases hlw with h | h
        · rw [h] at hlt; simp at hlt
        · exact h
      have hc0 := (hc j hlt).1
      have hc1 := (hc j hlt).2
      have hgl : g < wr.heap.size := World.block_lt_of_cell? _ _ hc0
      have hlf := Lib.hid (lease_no (l := l) (j := j))
      have hlt2 := Lib.hid (lease_yes (l := l) (j := j))
      have hls := Lib.hid (lastOf_succ l j)
      generalize (l.getD j (0, 0)).1 = x at hc0 hlf hlt2 hls
      generalize (l.getD j (0, 0)).2 = y at hc1 hlf hlt2
      generalize lastOf l j = z at hlf hlt2
      clear hlw hc
      have hb1 : Below w.heap.size w (wr.alloc (.cells #[.int .i64 x, .int .i64 y] 97)) := hb.alloc hb.size _
      have HB1 := Lib.hid hb1
      have c1 := fun u => isnode_any x u
      have c2 := fun u => within_any y 1 2147483648 u
      clear hb1
      by_cases hz : x ≤ z
      · obtain rfl : R = false := by rw [← HB.out]; exact allTo_false hlt (hlf.out (.inl hz))
        have hd : decide (x ≤ z) = true := decide_eq_true hz
        clear hlf hlt2 hz hls c1 c2
        go_wp2
        go_ret
        exact ⟨rfl, HB1.out⟩
      · have hd : decide (x ≤ z) = false := decide_eq_false hz
        cases hx : isIn x 0 63 with
        | false =>
          obtain rfl : R = false := by rw [← HB.out]; exact allTo_false hlt (hlf.out (.inr (.inl hx)))
          rw [hx] at c1
          clear hlf hlt2 hz hls hx
          go_wp2_with (go_at_call 36; (with_reducible refine (c1 _).mono ?_); rintro e w1 ⟨rfl, rfl⟩)
          go_ret
          exact ⟨rfl, HB1.out⟩
        | true =>
          cases hy : isIn y 1 2147483648 with
          | false =>
            obtain rfl : R = false := by rw [← HB.out]; exact allTo_false hlt (hlf.out (.inr (.inr hy)))
            rw [hx] at c1
            rw [hy] at c2
            clear hlf hlt2 hz hls hx hy
            go_wp2_with (first
              | (go_at_call 36; (with_reducible refine (c1 _).mono ?_); rintro e w1 ⟨rfl, rfl⟩)
              | (go_at_call 50; (with_reducible refine (c2 _).mono ?_); rintro e w1 ⟨rfl, rfl⟩))
            go_ret
            exact ⟨rfl, HB1.out⟩
          | true =>
            have HJ := Lib.hid (hlt2.out (by omega) hx hy)
            rw [hx] at c1
            rw [hy] at c2
            clear hlf hlt2 hz hx hy
            go_wp2_with (first
              | (go_at_call 36; (with_reducible refine (c1 _).mono ?_); rintro e w1 ⟨rfl, rfl⟩)
              | (go_at_call 50; (with_reducible refine (c2 _).mono ?_); rintro e w1 ⟨rfl, rfl⟩))
            go_roundw
            case rel => exact ⟨j + 1, by omega, by rw [hls.out], by go_num, (by intro q hq; rcases Nat.lt_succ_iff_lt_or_eq.1 hq with h | h; exact hok.out q h; rw [h]; exact HJ.out), HB1.out⟩
            case measure => simp [intOf]; omega
    · obtain rfl : j = l.length := by omega
      obtain rfl : R = true := by rw [← HB.out]; exact allTo_true hok.out
      go_wp2
      go_ret
      exact ⟨rfl, hb⟩

set_option maxRecDepth 100000 in
set_option maxHeartbeats 1000000 in
theorem stamps_any (p : Option Addr) (l : List Int) (c : Nat) (w : World) (hn : (l.length : Int) ≤ 9223372036854775807) (hl : Ints w p l) :
    Calls Try.prog 61 #[.slice p l.length c] w fun e w' => e = .returned (.bool (isIn l.length 1 64 && stampsOk l l.length)) ∧ w = w' := by
  have c0 := fun u => within_any l.length 1 64 u
  generalize isIn l.length 1 64 = h at c0 ⊢
  cases h with
  | false =>
    rw [Bool.false_and]
    clear hl
    go_enter Try.func61, Try.ntmps61
    go_wp2_with (go_at_call 50; (with_reducible refine (c0 _).mono ?_); rintro e w1 ⟨rfl, rfl⟩)
    go_ret
    exact ⟨rfl, rfl⟩
  | true =>
    rw [Bool.true_and]
    unfold stampsOk
    generalize hB : allTo (fun i => isIn (l.getD i 0) (-1) 4611686018427387903) l.length = R
    have HB := Lib.hid hB
    have HL := Lib.hid hl
    clear hB hl
    go_enter Try.func61, Try.ntmps61
    go_wp2_with (go_at_call 50; (with_reducible refine (c0 _).mono ?_); rintro e w1 ⟨rfl, rfl⟩)
    clear c0
    go_loop [11] (fun i => ∃ j : Nat, j ≤ l.length ∧ i = .int .i64 (j : Int) ∧ Hid (∀ q, q < j → isIn (l.getD q 0) (-1) 4611686018427387903 = true)) (fun i => l.length - (intOf i).toNat)
    case atStart => exact ⟨0, by omega, rfl, (by intro q hq; omega)⟩
    case round =>
      obtain ⟨j, hj, rfl, hok⟩ := hrel
      by_cases hlt : j < l.length
      · obtain ⟨g, o, rfl, hc⟩ : ∃ g o, p = some ⟨g, o, none⟩ ∧ ∀ j, j < l.length → w.cell? ⟨g, o + j, none⟩ = some (.int .i64 (l.getD j 0)) := by
          rcases HL.out with h | h
          · rw [h] at hlt; simp at hlt
          · exact h
        have hcj := hc j hlt
        have ci := fun u => within_any (l.getD j 0) (-1) 4611686018427387903 u
        have HJ := Lib.hid (show ∀ bo, isIn (l.getD j 0) (-1) 4611686018427387903 = bo → (bo = false → R = false) ∧ (bo = true → ∀ q, q < j + 1 → isIn (l.getD q 0) (-1) 4611686018427387903 = true) from fun bo hbo =>
          ⟨fun h => by rw [← HB.out]; exact allTo_false hlt (by rw [hbo]; exact h), fun h q hq => by
            rcases Nat.lt_succ_iff_lt_or_eq.1 hq with h1 | h1
            · exact hok.out q h1
            · rw [h1, hbo]; exact h⟩)
        have HJ2 := Lib.hid (HJ.out _ rfl)
        generalize isIn (l.getD j 0) (-1) 4611686018427387903 = b at ci HJ2
        generalize l.getD j 0 = x at hcj ci
        clear hc HJ
        cases b with
        | false =>
          obtain rfl := HJ2.out.1 rfl
          clear HJ2
          go_wp2_with (go_at_call 50; (with_reducible refine (ci _).mono ?_); rintro e w1 ⟨rfl, rfl⟩)
          go_ret
          exact ⟨rfl, rfl⟩
        | true =>
          have HK := Lib.hid (HJ2.out.2 rfl)
          clear HJ2
          go_wp2_with (go_at_call 50; (with_reducible refine (ci _).mono ?_); rintro e w1 ⟨rfl, rfl⟩)
          go_round
          case rel => exact ⟨j + 1, by omega, by go_num, HK⟩
          case measure => simp [intOf]; omega
      · obtain rfl : j = l.length := by omega
        obtain rfl : R = true := by rw [← HB.out]; exact allTo_true hok.out
        go_wp2
        go_ret
        exact ⟨rfl, rfl⟩

set_option maxRecDepth 100000 in
set_option maxHeartbeats 1000000 in
theorem prow_core (k a m start : Int) (p : Option Addr) (n c : Nat) (w : World) (b0 b1 b2 b3 R : Bool) (h1 : isKey k = b0) (h2 : isIn a 0 2147483648 = b1) (h3 : isIn m start 4611686018427387904 = b2)
    (hl : ∀ u, Below w.heap.size w u → Calls Try.prog 71 #[.slice p n c] u (Asked u b3)) (hR : (b0 && b1 && b2 && b3) = R) :
    Calls Try.prog 67 #[.agg #[.int .i64 k, .int .i64 a, .int .i64 m, .slice p n c], .int .i64 start] w (Asked w R) := by
  have ck := fun u => ckey_any k u
  have ca := fun u => within_any a 0 2147483648 u
  have cm := fun u => within_any m start 4611686018427387904 u
  rw [h1] at ck
  rw [h2] at ca
  rw [h3] at cm
  clear h1 h2 h3
  have fin : Below w.heap.size w (w.alloc (.cells #[.int .i64 k, .int .i64 a, .int .i64 m, .slice p n c] 89)) := (Below.refl _ _).alloc (Nat.le_refl _) _
  have hl2 := hl _ fin
  clear hl
  rcases and4 hR with ⟨rfl, rfl⟩ | ⟨rfl, rfl, rfl⟩ | ⟨rfl, rfl, rfl, rfl⟩ | ⟨rfl, rfl, rfl, rfl, rfl⟩ | ⟨rfl, rfl, rfl, rfl, rfl⟩
  all_goals
    clear hR
    go_enter Try.func67, Try.ntmps67
    go_wp2_with (first
      | (go_at_call 70; (with_reducible refine (ck _).mono ?_); rintro e w1 ⟨rfl, rfl⟩)
      | (go_at_call 50; (with_reducible refine (ca _).mono ?_); rintro e w1 ⟨rfl, rfl⟩)
      | (go_at_call 50; (with_reducible refine (cm _).mono ?_); rintro e w1 ⟨rfl, rfl⟩)
      | (go_at_call 71; (with_reducible refine hl2.mono ?_); rintro e w1 ⟨rfl, hb1⟩; replace fin := fin.trans (hb1.mono fin.size); clear hb1))
    go_ret
    exact ⟨rfl, fin⟩

/-- rowMayBe, whole. -/
theorem prow_any (r : Rw) (start : Int) (p : Option Addr) (c : Nat) (w : World) (hn : (r.out.length : Int) ≤ 9223372036854775807) (hl : LeasesAt w p r.out) :
    Calls Try.prog 67 #[.agg #[.int .i64 r.key, .int .i64 r.avail, .int .i64 r.mark, .slice p r.out.length c], .int .i64 start] w (Asked w (rowOk r start)) :=
  prow_core _ _ _ _ _ _ _ _ _ _ _ _ _ rfl rfl rfl (fun u hu => leases_any p r.out c u hn (hl.below hu)) (rowOk_eq r start).symm
end Go.Proofs.Ytkdjhphakopfeaa.Frame
