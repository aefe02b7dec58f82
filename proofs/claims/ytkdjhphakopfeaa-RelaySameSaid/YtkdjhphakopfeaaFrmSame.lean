/-
  The program's slices.Equal of ints and of leases, sameRow, slices.EqualFunc of rows by sameRow, SameTable, SameToken, Same: each returns what the plain functions of FramePlain give, of any two; of what lay when the call began nothing has turned.
-/
import Derived.Test.YtkdjhphakopfeaaFrmTable
namespace Go.Proofs.Ytkdjhphakopfeaa.Frame
open Go.RowKit Codec

set_option maxRecDepth 100000 in
set_option maxHeartbeats 1000000 in
/-- slices.Equal, of any two lists of ints. -/
theorem eqints_any (a b : List Int) (p q : Option Addr) (c d : Nat) (w : World) (hn : (a.length : Int) ≤ 9223372036854775807) (ha : Ints w p a) (hb : Ints w q b) :
    Calls Try.prog 59 #[.slice p a.length c, .slice q b.length d] w (Asked w (sameInts a b)) := by
  unfold sameInts
  by_cases hl : a.length = b.length
  · have e : (a.length == b.length) = true := by simpa using hl
    rw [e, Bool.true_and, ← hl]
    have HLN := Lib.hid hl
    clear e hl
    generalize hB : allTo (fun i => a.getD i 0 == b.getD i 0) a.length = R
    have HB := Lib.hid hB
    have HA := Lib.hid ha
    have HBB := Lib.hid hb
    clear hB ha hb
    go_enter Try.func59, Try.ntmps59
    go_wp2
    go_loopw [13] (fun i wr => ∃ j : Nat, j ≤ a.length ∧ i = .int .i64 (j : Int) ∧ Hid (∀ q, q < j → (a.getD q 0 == b.getD q 0) = true) ∧ Below w.heap.size w wr) (fun i _ => a.length - (intOf i).toNat)
    case atStart => exact ⟨0, by omega, rfl, (by intro q hq; omega), Below.refl _ _⟩
    case round =>
      obtain ⟨j, hj, rfl, hok, hbw⟩ := hrel
      by_cases hlt : j < a.length
      · obtain ⟨g, o, rfl, hc⟩ : ∃ g o, p = some ⟨g, o, none⟩ ∧ ∀ j, j < a.length → w.cell? ⟨g, o + j, none⟩ = some (.int .i64 (a.getD j 0)) := by
          rcases HA.out with h | h
          · rw [h] at hlt; simp at hlt
          · exact h
        obtain ⟨g', o', rfl, hc'⟩ : ∃ g o, q = some ⟨g, o, none⟩ ∧ ∀ j, j < b.length → w.cell? ⟨g, o + j, none⟩ = some (.int .i64 (b.getD j 0)) := by
          rcases HBB.out with h | h
          · have := HLN.out; rw [h] at this; simp at this; rw [this] at hlt; simp at hlt
          · exact h
        have c1 := cell_on (hc j hlt) hbw
        have c2 := cell_on (hc' j (by rw [← HLN.out]; exact hlt)) hbw
        have hlt' : (j : Int) < (a.length : Int) := by omega
        clear hc hc'
        have HJ := Lib.hid (show ∀ bo, (a.getD j 0 == b.getD j 0) = bo → (bo = false → R = false) ∧ (bo = true → ∀ q, q < j + 1 → (a.getD q 0 == b.getD q 0) = true) from fun bo hbo =>
          ⟨fun h => by rw [← HB.out]; exact allTo_false hlt (by rw [hbo]; exact h), fun h q hq => by
            rcases Nat.lt_succ_iff_lt_or_eq.1 hq with h1 | h1
            · exact hok.out q h1
            · rw [h1, hbo]; exact h⟩)
        generalize a.getD j 0 = x at c1 HJ
        generalize b.getD j 0 = y at c2 HJ
        by_cases hxy : x = y
        · have HK := Lib.hid ((HJ.out true (by simpa using hxy)).2 rfl)
          have hd : (x != y) = false := by simpa using hxy
          clear hxy HJ
          go_wp2
          go_quiet (fail)
          go_wp2
          go_roundw
          case rel => exact ⟨j + 1, by omega, by go_num, HK, below_drewN hbw _⟩
          case measure => simp [intOf]; omega
        · obtain rfl := (HJ.out false (by simpa using hxy)).1 rfl
          have hd : (x != y) = true := by simpa using hxy
          clear hxy HJ
          go_wp2
          go_quiet (fail)
          go_wp2
          go_ret
          exact ⟨rfl, below_drewN hbw _⟩
      · obtain rfl : j = a.length := by omega
        obtain rfl : R = true := by rw [← HB.out]; exact allTo_true hok.out
        go_wp2
        go_ret
        exact ⟨rfl, hbw⟩
  · have e : (a.length == b.length) = false := by simpa using hl
    rw [e, Bool.false_and]
    have hd : ((a.length : Int) != (b.length : Int)) = true := by simp; omega
    clear e hl ha hb
    generalize a.length = n at hd hn ⊢
    generalize b.length = m at hd ⊢
    go_enter Try.func59, Try.ntmps59
    go_wp2
    go_ret
    exact ⟨rfl, Below.refl _ _⟩

set_option maxRecDepth 100000 in
set_option maxHeartbeats 1000000 in
/-- slices.Equal, of any two lists of leases. -/
theorem eqleases_any (l l' : List (Int × Int)) (p p' : Option Addr) (c c' : Nat) (w : World) (hn : (l.length : Int) ≤ 9223372036854775807) (ha : LeasesAt w p l) (hb : LeasesAt w p' l') :
    Calls Try.prog 69 #[.slice p l.length c, .slice p' l'.length c'] w (Asked w (l.length == l'.length && sameLeases l l')) := by
  unfold sameLeases
  by_cases hl : l.length = l'.length
  · have e : (l.length == l'.length) = true := by simpa using hl
    rw [e, Bool.true_and, ← hl]
    have HLN := Lib.hid hl
    clear e hl
    generalize hB : allTo (fun i => samePair (l.getD i (0, 0)) (l'.getD i (0, 0))) l.length = R
    have HB := Lib.hid hB
    have HA := Lib.hid ha
    have HBB := Lib.hid hb
    clear hB ha hb
    go_enter Try.func69, Try.ntmps69
    go_wp2
    go_loopw [13] (fun i wr => ∃ j : Nat, j ≤ l.length ∧ i = .int .i64 (j : Int) ∧ Hid (∀ q, q < j → samePair (l.getD q (0, 0)) (l'.getD q (0, 0)) = true) ∧ Below w.heap.size w wr) (fun i _ => l.length - (intOf i).toNat)
    case atStart => exact ⟨0, by omega, rfl, (by intro q hq; omega), Below.refl _ _⟩
    case round =>
      obtain ⟨j, hj, rfl, hok, hbw⟩ := hrel
      by_cases hlt : j < l.length
      · obtain ⟨g, o, rfl, hc⟩ : ∃ g o, p = some ⟨g, o, none⟩ ∧ ∀ j, j < l.length → w.cell? ⟨g, o + j * 2, none⟩ = some (.int .i64 (l.getD j (0, 0)).1) ∧ w.cell? ⟨g, o + j * 2 + 1, none⟩ = some (.int .i64 (l.getD j (0, 0)).2) := by
          rcases HA.out with h | h
          · rw [h] at hlt; simp at hlt
          · exact h
        obtain ⟨g', o', rfl, hc'⟩ : ∃ g o, p' = some ⟨g, o, none⟩ ∧ ∀ j, j < l'.length → w.cell? ⟨g, o + j * 2, none⟩ = some (.int .i64 (l'.getD j (0, 0)).1) ∧ w.cell? ⟨g, o + j * 2 + 1, none⟩ = some (.int .i64 (l'.getD j (0, 0)).2) := by
          rcases HBB.out with h | h
          · have := HLN.out; rw [h] at this; simp at this; rw [this] at hlt; simp at hlt
          · exact h
        have f1 := cell_on (hc j hlt).1 hbw
        have f2 := cell_on (hc j hlt).2 hbw
        have f3 := cell_on (hc' j (by rw [← HLN.out]; exact hlt)).1 hbw
        have f4 := cell_on (hc' j (by rw [← HLN.out]; exact hlt)).2 hbw
        have hlt' : (j : Int) < (l.length : Int) := by omega
        clear hc hc'
        have HJ := Lib.hid (show ∀ bo, samePair (l.getD j (0, 0)) (l'.getD j (0, 0)) = bo → (bo = false → R = false) ∧ (bo = true → ∀ q, q < j + 1 → samePair (l.getD q (0, 0)) (l'.getD q (0, 0)) = true) from fun bo hbo =>
          ⟨fun h => by rw [← HB.out]; exact allTo_false hlt (by rw [hbo]; exact h), fun h q hq => by
            rcases Nat.lt_succ_iff_lt_or_eq.1 hq with h1 | h1
            · exact hok.out q h1
            · rw [h1, hbo]; exact h⟩)
        generalize l.getD j (0, 0) = x at f1 f2 HJ
        generalize l'.getD j (0, 0) = y at f3 f4 HJ
        obtain ⟨x, u⟩ := x
        obtain ⟨y, v⟩ := y
        simp only at f1 f2 f3 f4
        cases hxy : samePair (x, u) (y, v) with
        | true =>
          have HK := Lib.hid ((HJ.out true hxy).2 rfl)
          have nq : ∀ W, (binOp .neq 97 (.agg #[.int .i64 x, .int .i64 u]) (.agg #[.int .i64 y, .int .i64 v])).run Try.prog W = .ok (.bool false) W := fun W => by rw [neq_lease, show (x == y && u == v) = true from hxy]; rfl
          clear hxy HJ
          go_wp2
          go_quiet (fail)
          go_wp2
          go_roundw
          case rel => exact ⟨j + 1, by omega, by go_num, HK, below_drewN hbw _⟩
          case measure => simp [intOf]; omega
        | false =>
          obtain rfl := (HJ.out false hxy).1 rfl
          have nq : ∀ W, (binOp .neq 97 (.agg #[.int .i64 x, .int .i64 u]) (.agg #[.int .i64 y, .int .i64 v])).run Try.prog W = .ok (.bool true) W := fun W => by rw [neq_lease, show (x == y && u == v) = false from hxy]; rfl
          clear hxy HJ
          go_wp2
          go_quiet (fail)
          go_wp2
          go_ret
          exact ⟨rfl, below_drewN hbw _⟩
      · obtain rfl : j = l.length := by omega
        obtain rfl : R = true := by rw [← HB.out]; exact allTo_true hok.out
        go_wp2
        go_ret
        exact ⟨rfl, hbw⟩
  · have e : (l.length == l'.length) = false := by simpa using hl
    rw [e, Bool.false_and]
    have hd : ((l.length : Int) != (l'.length : Int)) = true := by simp; omega
    clear e hl ha hb
    generalize l.length = n at hd hn ⊢
    generalize l'.length = m at hd ⊢
    go_enter Try.func69, Try.ntmps69
    go_wp2
    go_ret
    exact ⟨rfl, Below.refl _ _⟩

set_option maxRecDepth 100000 in
set_option maxHeartbeats 1000000 in
theorem psamerow_core (k a m k' a' m' : Int) (p p' : Option Addr) (n n' c c' : Nat) (w : World) (b R : Bool)
    (hl : ∀ u, Below w.heap.size w u → Calls Try.prog 69 #[.slice p n c, .slice p' n' c'] u (Asked u b)) (hR : (k == k' && a == a' && m == m' && b) = R) :
    Calls Try.prog 66 #[.agg #[.int .i64 k, .int .i64 a, .int .i64 m, .slice p n c], .agg #[.int .i64 k', .int .i64 a', .int .i64 m', .slice p' n' c']] w (Asked w R) := by
  have fin : Below w.heap.size w ((w.alloc (.cells #[.int .i64 k, .int .i64 a, .int .i64 m, .slice p n c] 89)).alloc (.cells #[.int .i64 k', .int .i64 a', .int .i64 m', .slice p' n' c'] 89)) := ((Below.refl _ _).alloc (Nat.le_refl _) _).alloc (by simp) _
  have hl2 := hl _ fin
  clear hl
  rcases and4 hR with ⟨d0, rfl⟩ | ⟨d0, d1, rfl⟩ | ⟨d0, d1, d2, rfl⟩ | ⟨d0, d1, d2, rfl, rfl⟩ | ⟨d0, d1, d2, rfl, rfl⟩
  all_goals
    clear hR
    go_enter Try.func66, Try.ntmps66
    go_wp2_with (go_at_call 69; (with_reducible refine hl2.mono ?_); rintro e w1 ⟨rfl, hb1⟩; replace fin := fin.trans (hb1.mono fin.size); clear hb1)
    go_ret
    exact ⟨rfl, fin⟩

/-- sameRow, of any two. -/
theorem psamerow_any (r s : Rw) (p p' : Option Addr) (c c' : Nat) (w : World) (hn : (r.out.length : Int) ≤ 9223372036854775807) (ha : LeasesAt w p r.out) (hb : LeasesAt w p' s.out) :
    Calls Try.prog 66 #[.agg #[.int .i64 r.key, .int .i64 r.avail, .int .i64 r.mark, .slice p r.out.length c], .agg #[.int .i64 s.key, .int .i64 s.avail, .int .i64 s.mark, .slice p' s.out.length c']] w (Asked w (sameRow r s)) :=
  psamerow_core _ _ _ _ _ _ _ _ _ _ _ _ _ _ _ (fun u hu => eqleases_any r.out s.out p p' c c' u hn (ha.below hu) (hb.below hu)) (by unfold sameRow; simp only [Bool.and_assoc])

def sameRows (a b : List Rw) : Bool := a.length == b.length && allTo (fun i => sameRow (a.getD i noRow) (b.getD i noRow)) a.length

set_option maxRecDepth 100000 in
set_option maxHeartbeats 2000000 in
/-- slices.EqualFunc by sameRow, of any two. -/
theorem eqrows_any (l l' : List Rw) (p p' : Option Addr) (c c' : Nat) (w : World) (hn : (l.length : Int) ≤ 9223372036854775807) (ha : RowsAt w p l) (hb : RowsAt w p' l') (hs : Small l) :
    Calls Try.prog 65 #[.slice p l.length c, .slice p' l'.length c', .func (.func 66) #[] #[]] w (Asked w (sameRows l l')) := by
  unfold sameRows
  by_cases hl : l.length = l'.length
  · have e : (l.length == l'.length) = true := by simpa using hl
    rw [e, Bool.true_and, ← hl]
    have HLN := Lib.hid hl
    clear e hl
    generalize hB : allTo (fun i => sameRow (l.getD i noRow) (l'.getD i noRow)) l.length = R
    have HB := Lib.hid hB
    have HA := Lib.hid ha
    have HBB := Lib.hid hb
    have HS := Lib.hid hs
    clear hB ha hb hs
    go_enter Try.func65, Try.ntmps65
    go_wp2
    go_loopw [17] (fun i wr => ∃ j : Nat, j ≤ l.length ∧ i = .int .i64 (j : Int) ∧ Hid (∀ q, q < j → sameRow (l.getD q noRow) (l'.getD q noRow) = true) ∧ Below w.heap.size w wr) (fun i _ => l.length - (intOf i).toNat)
    case atStart => exact ⟨0, by omega, rfl, (by intro q hq; omega), Below.refl _ _⟩
    case round =>
      obtain ⟨j, hj, rfl, hok, hbw⟩ := hrel
      by_cases hlt : j < l.length
      · obtain ⟨g, o, rfl, hc⟩ : ∃ g o, p = some ⟨g, o, none⟩ ∧ ∀ j, j < l.length → RowAt wr g (o + j * 4) (l.getD j noRow) := by
          rcases HA.out.below hbw with h | h
          · rw [h] at hlt; simp at hlt
          · exact h
        obtain ⟨g', o', rfl, hc'⟩ : ∃ g o, p' = some ⟨g, o, none⟩ ∧ ∀ j, j < l'.length → RowAt wr g (o + j * 4) (l'.getD j noRow) := by
          rcases HBB.out.below hbw with h | h
          · have := HLN.out; rw [h] at this; simp at this; rw [this] at hlt; simp at hlt
          · exact h
        obtain ⟨f0, f1, f2, q3, r3, f3, hle⟩ := hc j hlt
        obtain ⟨f0', f1', f2', q3', r3', f3', hle'⟩ := hc' j (by rw [← HLN.out]; exact hlt)
        have hro := HS.out (l.getD j noRow) (by simp [List.getD, hlt])
        have hrow := fun (u : World) (hu : Below wr.heap.size wr u) => psamerow_any (l.getD j noRow) (l'.getD j noRow) q3 q3' r3 r3' u hro (hle.below hu) (hle'.below hu)
        have hlt' : (j : Int) < (l.length : Int) := by omega
        clear hc hc'
        have HJ := Lib.hid (show ∀ bo, sameRow (l.getD j noRow) (l'.getD j noRow) = bo → (bo = false → R = false) ∧ (bo = true → ∀ q, q < j + 1 → sameRow (l.getD q noRow) (l'.getD q noRow) = true) from fun bo hbo =>
          ⟨fun h => by rw [← HB.out]; exact allTo_false hlt (by rw [hbo]; exact h), fun h q hq => by
            rcases Nat.lt_succ_iff_lt_or_eq.1 hq with h1 | h1
            · exact hok.out q h1
            · rw [h1, hbo]; exact h⟩)
        generalize l.getD j noRow = x at f0 f1 f2 f3 hle hro hrow HJ
        generalize l'.getD j noRow = y at f0' f1' f2' f3' hle' hrow HJ
        obtain ⟨x0, x1, x2, x3⟩ := x
        obtain ⟨y0, y1, y2, y3⟩ := y
        simp only at f0 f1 f2 f3 f0' f1' f2' f3' hrow
        have hg : g < wr.heap.size := World.block_lt_of_cell? _ _ f0
        have hg' : g' < wr.heap.size := World.block_lt_of_cell? _ _ f0'
        clear hle hle' hro
        have HJ2 := Lib.hid (HJ.out _ rfl)
        clear HJ
        generalize sameRow ⟨x0, x1, x2, x3⟩ ⟨y0, y1, y2, y3⟩ = br at hrow HJ2
        have h0 : Below wr.heap.size wr ((wr.alloc (.cells #[.int .i64 x0, .int .i64 x1, .int .i64 x2, .slice q3 x3.length r3] 89)).alloc (.cells #[.int .i64 y0, .int .i64 y1, .int .i64 y2, .slice q3' y3.length r3'] 89)) := ((Below.refl _ _).alloc (Nat.le_refl _) _).alloc (by simp) _
        have hrow2 := hrow _ h0
        have H0 := Lib.hid h0
        clear hrow h0
        cases br with
        | true =>
          have HK := Lib.hid (HJ2.out.2 rfl)
          clear HJ2
          go_wp2_with (go_at_call 66; (with_reducible refine hrow2.mono ?_); rintro e u1 ⟨rfl, hb1⟩; have HB1 := Lib.hid hb1; clear hb1)
          go_roundw
          case rel => exact ⟨j + 1, by omega, by go_num, HK, hbw.trans ((H0.out.trans (HB1.out.mono H0.out.size)).mono hbw.size)⟩
          case measure => simp [intOf]; omega
        | false =>
          obtain rfl := HJ2.out.1 rfl
          clear HJ2
          go_wp2_with (go_at_call 66; (with_reducible refine hrow2.mono ?_); rintro e u1 ⟨rfl, hb1⟩; have HB1 := Lib.hid hb1; clear hb1)
          go_ret
          exact ⟨rfl, hbw.trans ((H0.out.trans (HB1.out.mono H0.out.size)).mono hbw.size)⟩
      · obtain rfl : j = l.length := by omega
        obtain rfl : R = true := by rw [← HB.out]; exact allTo_true hok.out
        go_wp2
        go_ret
        exact ⟨rfl, hbw⟩
  · have e : (l.length == l'.length) = false := by simpa using hl
    rw [e, Bool.false_and]
    have hd : ((l.length : Int) != (l'.length : Int)) = true := by simp; omega
    clear e hl ha hb hs
    generalize l.length = n at hd hn ⊢
    generalize l'.length = m at hd ⊢
    go_enter Try.func65, Try.ntmps65
    go_wp2
    go_ret
    exact ⟨rfl, Below.refl _ _⟩

set_option maxRecDepth 100000 in
set_option maxHeartbeats 1000000 in
theorem psametable_core (s s' : Int) (p p' : Option Addr) (n n' c c' : Nat) (w : World) (b R : Bool)
    (hl : ∀ u, Below w.heap.size w u → Calls Try.prog 65 #[.slice p n c, .slice p' n' c', .func (.func 66) #[] #[]] u (Asked u b)) (hR : (s == s' && b) = R) :
    Calls Try.prog 60 #[.agg #[.int .i64 s, .slice p n c], .agg #[.int .i64 s', .slice p' n' c']] w (Asked w R) := by
  have fin : Below w.heap.size w ((w.alloc (.cells #[.int .i64 s, .slice p n c] 37)).alloc (.cells #[.int .i64 s', .slice p' n' c'] 37)) := ((Below.refl _ _).alloc (Nat.le_refl _) _).alloc (by simp) _
  have hl2 := hl _ fin
  clear hl
  have ways : ((s == s') = false ∧ R = false) ∨ ((s == s') = true ∧ b = R) := by
    subst hR
    cases (s == s') <;> simp
  clear hR
  rcases ways with ⟨d0, rfl⟩ | ⟨d0, rfl⟩
  all_goals
    go_enter Try.func60, Try.ntmps60
    go_wp2_with (go_at_call 65; (with_reducible refine hl2.mono ?_); rintro e w1 ⟨rfl, hb1⟩; replace fin := fin.trans (hb1.mono fin.size); clear hb1)
    go_ret
    exact ⟨rfl, fin⟩

/-- SameTable, of any two. -/
theorem psametable_any (a b : Tb) (p p' : Option Addr) (c c' : Nat) (w : World) (hn : (a.rows.length : Int) ≤ 9223372036854775807) (ha : RowsAt w p a.rows) (hb : RowsAt w p' b.rows) (hs : Small a.rows) :
    Calls Try.prog 60 #[.agg #[.int .i64 a.start, .slice p a.rows.length c], .agg #[.int .i64 b.start, .slice p' b.rows.length c']] w (Asked w (sameTable a b)) :=
  psametable_core _ _ _ _ _ _ _ _ _ _ _ (fun u hu => eqrows_any a.rows b.rows p p' c c' u hn (ha.below hu) (hb.below hu) hs) (by unfold sameTable sameRows; simp only [Bool.and_assoc])

set_option maxRecDepth 100000 in
set_option maxHeartbeats 1000000 in
theorem psametoken_core (g h s g' h' s' : Int) (sp p sp' p' : Option Addr) (sn sc n c sn' sc' n' c' : Nat) (w : World) (b1 b2 R : Bool)
    (c1 : ∀ u, Below w.heap.size w u → Calls Try.prog 59 #[.slice sp sn sc, .slice sp' sn' sc'] u (Asked u b1))
    (c2 : ∀ u, Below w.heap.size w u → Calls Try.prog 60 #[.agg #[.int .i64 s, .slice p n c], .agg #[.int .i64 s', .slice p' n' c']] u (Asked u b2))
    (hR : (g == g' && h == h' && b1 && b2) = R) :
    Calls Try.prog 51 #[.agg #[.int .i64 g, .int .i64 h, .slice sp sn sc, .int .i64 s, .slice p n c], .agg #[.int .i64 g', .int .i64 h', .slice sp' sn' sc', .int .i64 s', .slice p' n' c']] w (Asked w R) := by
  obtain ⟨b0, ka, kb⟩ := two_boxes w #[.int .i64 g, .int .i64 h, .slice sp sn sc, .int .i64 s, .slice p n c] #[.int .i64 g', .int .i64 h', .slice sp' sn' sc', .int .i64 s', .slice p' n' c'] 39
  have HA := Lib.hid (show ∀ u, Below ((w.alloc (.cells #[.int .i64 g, .int .i64 h, .slice sp sn sc, .int .i64 s, .slice p n c] 39)).alloc (.cells #[.int .i64 g', .int .i64 h', .slice sp' sn' sc', .int .i64 s', .slice p' n' c'] 39)).heap.size ((w.alloc (.cells #[.int .i64 g, .int .i64 h, .slice sp sn sc, .int .i64 s, .slice p n c] 39)).alloc (.cells #[.int .i64 g', .int .i64 h', .slice sp' sn' sc', .int .i64 s', .slice p' n' c'] 39)) u →
      u.cell? ⟨w.heap.size, 3, none⟩ = some (.int .i64 s) ∧ u.cell? ⟨w.heap.size, 4, none⟩ = some (.slice p n c) ∧
      u.cell? ⟨w.heap.size + 1, 3, none⟩ = some (.int .i64 s') ∧ u.cell? ⟨w.heap.size + 1, 4, none⟩ = some (.slice p' n' c') from fun u hu =>
    ⟨cell_on (ka 3) hu, cell_on (ka 4) hu, cell_on (kb 3) hu, cell_on (kb 4) hu⟩)
  have fin := b0
  clear ka kb
  rcases and4 hR with ⟨d0, rfl⟩ | ⟨d0, d1, rfl⟩ | ⟨d0, d1, rfl, rfl⟩ | ⟨d0, d1, rfl, rfl, rfl⟩ | ⟨d0, d1, rfl, rfl, rfl⟩
  all_goals
    clear hR
    go_enter Try.func51, Try.ntmps51
    go_wp2_with (first
      | (go_at_call 59; (with_reducible refine (c1 _ b0).mono ?_); rintro e u1 ⟨rfl, hb1⟩; clear c1; have hbw := b0.trans (hb1.mono b0.size); replace fin := hbw; obtain ⟨x3, x4, y3, y4⟩ := HA.out u1 hb1; clear hb1)
      | (go_at_call 60; (with_reducible refine (c2 _ hbw).mono ?_); rintro e u2 ⟨rfl, hb2⟩; clear c2; replace fin := hbw.trans (hb2.mono hbw.size); clear hb2))
    go_ret
    exact ⟨rfl, fin⟩

/-- SameToken, of any two. -/
theorem psametoken_any (a b : Tk) (sp p sp' p' : Option Addr) (sc c sc' c' : Nat) (w : World) (hm : (a.stamps.length : Int) ≤ 9223372036854775807) (hn : (a.table.rows.length : Int) ≤ 9223372036854775807) (ha : Ints w sp a.stamps) (hb : Ints w sp' b.stamps) (ra : RowsAt w p a.table.rows) (rb : RowsAt w p' b.table.rows) (hs : Small a.table.rows) :
    Calls Try.prog 51 #[.agg #[.int .i64 a.gen, .int .i64 a.hop, .slice sp a.stamps.length sc, .int .i64 a.table.start, .slice p a.table.rows.length c], .agg #[.int .i64 b.gen, .int .i64 b.hop, .slice sp' b.stamps.length sc', .int .i64 b.table.start, .slice p' b.table.rows.length c']] w (Asked w (sameToken a b)) :=
  psametoken_core _ _ _ _ _ _ _ _ _ _ _ _ _ _ _ _ _ _ w _ _ _ (fun u hu => eqints_any a.stamps b.stamps sp sp' sc sc' u hm (ha.below hu) (hb.below hu)) (fun u hu => psametable_any a.table b.table p p' c c' u hn (ra.below hu) (rb.below hu) hs) rfl


end Go.Proofs.Ytkdjhphakopfeaa.Frame
