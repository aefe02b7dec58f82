/-
  The program's Table and Token: each returns what the plain functions of FramePlain give; of what lay when the call began nothing has turned.
-/
import Derived.Test.YtkdjhphakopfeaaFrmRow
namespace Go.Proofs.Ytkdjhphakopfeaa.Frame
open Go.RowKit Codec

/-- The key ahead of the j-th row. -/
def lastKey (l : List Rw) (j : Nat) : Int := if j = 0 then -1 else (l.getD (j - 1) noRow).key
theorem rowAt_no {l : List Rw} {s : Int} {j : Nat} (h : (l.getD j noRow).key ≤ lastKey l j ∨ rowOk (l.getD j noRow) s = false) : rowAt l s j = false := by
  rcases h with h | h
  · unfold lastKey at h
    by_cases hj : j = 0
    · rw [if_pos hj] at h
      refine rowAt_false (.inl ?_)
      have : isKey (l.getD j noRow).key = false := by unfold isKey; exact decide_eq_false (by omega)
      rw [rowOk_eq, this]
      rfl
    · rw [if_neg hj] at h
      exact rowAt_false (.inr ⟨by omega, h⟩)
  · exact rowAt_false (.inl h)
theorem rowAt_yes {l : List Rw} {s : Int} {j : Nat} (h : lastKey l j < (l.getD j noRow).key) (h0 : rowOk (l.getD j noRow) s = true) : rowAt l s j = true := by
  refine rowAt_true h0 ?_
  unfold lastKey at h
  by_cases hj : j = 0
  · exact .inl hj
  · rw [if_neg hj] at h
    exact .inr h
theorem lastKey_succ (l : List Rw) (j : Nat) : lastKey l (j + 1) = (l.getD j noRow).key := by simp [lastKey]

set_option maxRecDepth 100000 in
theorem ptable_no (start : Int) (p : Option Addr) (n c : Nat) (w : World) (h : (isIn start 0 4611686018427387904 && decide (n ≤ 16)) = false) :
    Calls Try.prog 62 #[.agg #[.int .i64 start, .slice p n c]] w (Asked w false) := by
  have ci := fun u => within_any start 0 4611686018427387904 u
  generalize isIn start 0 4611686018427387904 = b at ci h
  have h4 : b = false ∨ (b = true ∧ 16 < (n : Int)) := by
    cases b <;> simp at h ⊢
    omega
  clear h
  rcases h4 with rfl | ⟨rfl, h5⟩
  · go_enter Try.func62, Try.ntmps62
    go_wp2_with (go_at_call 50; (with_reducible refine (ci _).mono ?_); rintro e w1 ⟨rfl, rfl⟩)
    go_ret
    exact ⟨rfl, (Below.refl _ _).alloc (Nat.le_refl _) _⟩
  · go_enter Try.func62, Try.ntmps62
    go_wp2_with (go_at_call 50; (with_reducible refine (ci _).mono ?_); rintro e w1 ⟨rfl, rfl⟩)
    go_ret
    exact ⟨rfl, (Below.refl _ _).alloc (Nat.le_refl _) _⟩

set_option maxRecDepth 100000 in
set_option maxHeartbeats 2000000 in
theorem ptable_yes (start : Int) (p : Option Addr) (l : List Rw) (c : Nat) (w : World) (h : isIn start 0 4611686018427387904 = true) (hn : l.length ≤ 16) (hl : RowsAt w p l) (hs : ∀ r ∈ l, (r.out.length : Int) ≤ 9223372036854775807) :
    Calls Try.prog 62 #[.agg #[.int .i64 start, .slice p l.length c]] w (Asked w (allTo (rowAt l start) l.length)) := by
  have ci := fun u => within_any start 0 4611686018427387904 u
  rw [h] at ci
  have HL := Lib.hid hl
  have HS := Lib.hid hs
  clear h hl hs
  generalize hB : allTo (rowAt l start) l.length = R
  have HB := Lib.hid hB
  clear hB
  go_enter Try.func62, Try.ntmps62
  go_wp2_with (go_at_call 50; (with_reducible refine (ci _).mono ?_); rintro e w1 ⟨rfl, rfl⟩)
  generalize hw0 : w.alloc (.cells #[.int .i64 start, .slice p l.length c] 37) = w0
  have b0 : Below w.heap.size w w0 := by rw [← hw0]; exact (Below.refl _ _).alloc (Nat.le_refl _) _
  have k0 : w0.cell? ⟨w.heap.size, 0, none⟩ = some (.int .i64 start) := by
    rw [← hw0, cell_of_row _ _ 0 _ _ (0, 0) (heap_alloc_new w _)]; rfl
  have HK0 := Lib.hid k0
  clear hw0 k0 ci
  go_loopw [3, 19] (fun la i wr => ∃ j : Nat, j ≤ l.length ∧ la = .int .i64 (lastKey l j) ∧ i = .int .i64 (j : Int) ∧ Hid (∀ q, q < j → rowAt l start q = true) ∧ Below w0.heap.size w0 wr) (fun _ i _ => l.length - (intOf i).toNat)
  case atStart => exact ⟨0, by omega, rfl, rfl, (by intro q hq; omega), Below.refl _ _⟩
  case round =>
    obtain ⟨j, hj, rfl, rfl, hok, hb⟩ := hrel
    have c0 : wr.cell? ⟨w.heap.size, 0, none⟩ = some (.int .i64 start) := cell_on HK0.out hb
    have hlw : RowsAt wr p l := (HL.out.below b0).below hb
    by_cases hlt : j < l.length
    · obtain ⟨g, o, rfl, hc⟩ : ∃ g o, p = some ⟨g, o, none⟩ ∧ ∀ j, j < l.length → RowAt wr g (o + j * 4) (l.getD j noRow) := by
        rcases hlw with h | h
        · rw [h] at hlt; simp at hlt
        · exact h
      obtain ⟨d0, d1, d2, p3, c3, d3, hle⟩ := hc j hlt
      have hro := HS.out (l.getD j noRow) (by simp [List.getD, hlt])
      have hrow := fun (u : World) (hu : Below wr.heap.size wr u) => prow_any (l.getD j noRow) start p3 c3 u hro (hle.below hu)
      have hrf := Lib.hid (rowAt_no (l := l) (s := start) (j := j))
      have hrt := Lib.hid (rowAt_yes (l := l) (s := start) (j := j))
      have hks := Lib.hid (lastKey_succ l j)
      generalize lastKey l j = z at hrf hrt
      generalize l.getD j noRow = r at d0 d1 d2 d3 hle hrow hrf hrt hro hks
      obtain ⟨x, av, mk, out⟩ := r
      simp only at d0 d1 d2 d3 hle hrow hrf hrt hro hks
      have hgl : g < wr.heap.size := World.block_lt_of_cell? _ _ d0
      have hwl : w.heap.size < wr.heap.size := World.block_lt_of_cell? _ _ c0
      clear hlw hc hle hro
      generalize hR : rowOk ⟨x, av, mk, out⟩ start = br at hrow hrf hrt
      clear hR
      have hb1 : Below wr.heap.size wr (wr.alloc (.cells #[.int .i64 x, .int .i64 av, .int .i64 mk, .slice p3 out.length c3] 89)) := (Below.refl _ _).alloc (Nat.le_refl _) _
      have hrow2 := hrow _ hb1
      have HB1 := Lib.hid hb1
      have knew : (wr.alloc (.cells #[.int .i64 x, .int .i64 av, .int .i64 mk, .slice p3 out.length c3] 89)).cell? ⟨wr.heap.size, 0, none⟩ = some (.int .i64 x) := by
        rw [cell_of_row _ _ 0 _ _ (0, 0) (heap_alloc_new wr _)]; rfl
      have HKN := Lib.hid knew
      clear hrow hb1 knew
      by_cases hz : x ≤ z
      · obtain rfl : R = false := by rw [← HB.out]; exact allTo_false hlt (hrf.out (.inl hz))
        have hd : decide (x ≤ z) = true := decide_eq_true hz
        clear hrf hrt hz hks hrow2
        go_wp2
        go_ret
        exact ⟨rfl, b0.trans ((hb.trans (HB1.out.mono hb.size)).mono b0.size)⟩
      · have hd : decide (x ≤ z) = false := decide_eq_false hz
        cases br with
        | false =>
          obtain rfl : R = false := by rw [← HB.out]; exact allTo_false hlt (hrf.out (.inr rfl))
          clear hrf hrt hz hks
          go_wp2_with (go_at_call 67; (with_reducible refine hrow2.mono ?_); rintro e w1 ⟨rfl, hb2⟩; have HB2 := Lib.hid hb2; clear hb2)
          go_ret
          exact ⟨rfl, b0.trans ((hb.trans ((HB1.out.trans (HB2.out.mono HB1.out.size)).mono hb.size)).mono b0.size)⟩
        | true =>
          have HJ := Lib.hid (hrt.out (by omega) rfl)
          clear hrf hrt hz
          go_wp2_with (go_at_call 67; (with_reducible refine hrow2.mono ?_); rintro e w1 ⟨rfl, hb2⟩; have HB2 := Lib.hid hb2; have kx := cell_on HKN.out hb2; clear hb2)
          go_roundw
          case rel => exact ⟨j + 1, by omega, by rw [hks.out], by go_num, (by intro q hq; rcases Nat.lt_succ_iff_lt_or_eq.1 hq with h | h; exact hok.out q h; rw [h]; exact HJ.out), hb.trans ((HB1.out.trans (HB2.out.mono HB1.out.size)).mono hb.size)⟩
          case measure => simp [intOf]; omega
    · obtain rfl : j = l.length := by omega
      obtain rfl : R = true := by rw [← HB.out]; exact allTo_true hok.out
      go_wp2
      go_ret
      exact ⟨rfl, b0.trans (hb.mono b0.size)⟩

/-- Table, of any. -/
theorem ptable_any (t : Tb) (p : Option Addr) (c : Nat) (w : World) (hl : RowsAt w p t.rows) (hs : Small t.rows) :
    Calls Try.prog 62 #[.agg #[.int .i64 t.start, .slice p t.rows.length c]] w (Asked w (tableOk t)) := by
  unfold tableOk
  cases h : (isIn t.start 0 4611686018427387904 && decide (t.rows.length ≤ 16)) with
  | false =>
    rw [Bool.false_and]
    exact ptable_no _ _ _ _ _ h
  | true =>
    rw [Bool.true_and]
    rw [Bool.and_eq_true] at h
    exact ptable_yes _ _ _ _ _ h.1 (of_decide_eq_true h.2) hl hs

set_option maxRecDepth 100000 in
set_option maxHeartbeats 1000000 in
theorem ptoken_core (g h s : Int) (ps p : Option Addr) (n cs m c : Nat) (w : World) (b0 b1 b2 b3 R : Bool) (h0 : isIn g 1 1099511627776 = b0) (h1 : isIn h 0 1099511627776 = b1)
    (hst : ∀ u, Below w.heap.size w u → Calls Try.prog 61 #[.slice ps n cs] u fun e w' => e = .returned (.bool b2) ∧ u = w')
    (htb : ∀ u, Below w.heap.size w u → Calls Try.prog 62 #[.agg #[.int .i64 s, .slice p m c]] u (Asked u b3)) (hR : (b0 && b1 && b2 && b3) = R) :
    Calls Try.prog 52 #[.agg #[.int .i64 g, .int .i64 h, .slice ps n cs, .int .i64 s, .slice p m c]] w (Asked w R) := by
  have cg := fun u => gen_any g u
  have ch := fun u => hop_any h u
  rw [h0] at cg
  rw [h1] at ch
  clear h0 h1
  have fin : Below w.heap.size w (w.alloc (.cells #[.int .i64 g, .int .i64 h, .slice ps n cs, .int .i64 s, .slice p m c] 39)) := (Below.refl _ _).alloc (Nat.le_refl _) _
  have hs2 := hst _ fin
  have ht2 := htb _ fin
  clear hst htb
  rcases and4 hR with ⟨rfl, rfl⟩ | ⟨rfl, rfl, rfl⟩ | ⟨rfl, rfl, rfl, rfl⟩ | ⟨rfl, rfl, rfl, rfl, rfl⟩ | ⟨rfl, rfl, rfl, rfl, rfl⟩
  all_goals
    clear hR
    go_enter Try.func52, Try.ntmps52
    go_wp2_with (first
      | (go_at_call 53; (with_reducible refine (cg _).mono ?_); rintro e w1 ⟨rfl, rfl⟩)
      | (go_at_call 54; (with_reducible refine (ch _).mono ?_); rintro e w1 ⟨rfl, rfl⟩)
      | (go_at_call 61; (with_reducible refine hs2.mono ?_); rintro e w1 ⟨rfl, rfl⟩)
      | (go_at_call 62; (with_reducible refine ht2.mono ?_); rintro e w1 ⟨rfl, hb1⟩; replace fin := fin.trans (hb1.mono fin.size); clear hb1))
    go_ret
    exact ⟨rfl, fin⟩

/-- Token, of any. -/
theorem ptoken_any (t : Tk) (ps p : Option Addr) (cs c : Nat) (w : World) (hn : (t.stamps.length : Int) ≤ 9223372036854775807) (hst : Ints w ps t.stamps) (hl : RowsAt w p t.table.rows) (hs : Small t.table.rows) :
    Calls Try.prog 52 #[.agg #[.int .i64 t.gen, .int .i64 t.hop, .slice ps t.stamps.length cs, .int .i64 t.table.start, .slice p t.table.rows.length c]] w (Asked w (tokenOk t)) :=
  ptoken_core _ _ _ _ _ _ _ _ _ _ _ _ _ _ _ rfl rfl (fun u hu => stamps_any ps t.stamps cs u hn (hst.below hu)) (fun u hu => ptable_any t.table p c u (hl.below hu) hs) (by
    unfold tokenOk tokenHead
    simp only [Bool.and_assoc])
end Go.Proofs.Ytkdjhphakopfeaa.Frame
