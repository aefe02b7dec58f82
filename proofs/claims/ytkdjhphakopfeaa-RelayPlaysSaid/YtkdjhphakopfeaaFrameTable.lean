/-
  The document's Table, of any table: it returns what the plain function of FramePlain gives; of what lay when the call began nothing has turned.
-/
import Derived.Test.YtkdjhphakopfeaaFrameRow
import Derived.Deep.RegionHeld3
namespace Go.Proofs.Ytkdjhphakopfeaa.Frame
open Go.RowKit Codec

set_option maxRecDepth 100000 in
theorem table_no (start : Int) (p : Option Addr) (n c : Nat) (w : World) (h : (isIn start 0 4611686018427387904 && decide (n ≤ 16)) = false) :
    Calls Try.prog 58 #[.agg #[.int .i64 start, .slice p n c]] w (Asked w false) := by
  have ci := fun u => in_any start 0 4611686018427387904 u
  generalize isIn start 0 4611686018427387904 = b at ci h
  have h4 : b = false ∨ (b = true ∧ 16 < (n : Int)) := by
    cases b <;> simp at h ⊢
    omega
  clear h
  rcases h4 with rfl | ⟨rfl, h5⟩
  · go_enter Try.func58, Try.ntmps58
    go_wp2_with (go_at_call 44; (with_reducible refine (ci _).mono ?_); rintro e w1 ⟨rfl, rfl⟩)
    go_ret
    exact ⟨rfl, (Below.refl _ _).alloc (Nat.le_refl _) _⟩
  · go_enter Try.func58, Try.ntmps58
    go_wp2_with (go_at_call 44; (with_reducible refine (ci _).mono ?_); rintro e w1 ⟨rfl, rfl⟩)
    go_ret
    exact ⟨rfl, (Below.refl _ _).alloc (Nat.le_refl _) _⟩

theorem undrew {w w' : World} (h : Below w.drew.heap.size w.drew w') : Below w.heap.size w w' := ⟨h.os, h.tape, h.output, h.size, h.block⟩

theorem rowAt_false {l : List Rw} {s : Int} {i : Nat} (h : rowOk (l.getD i noRow) s = false ∨ (0 < i ∧ (l.getD i noRow).key ≤ (l.getD (i - 1) noRow).key)) : rowAt l s i = false := by
  unfold rowAt
  rcases h with h | ⟨h0, h1⟩
  · rw [h]; simp
  · have : (i == 0 || decide ((l.getD (i - 1) noRow).key < (l.getD i noRow).key)) = false := by
      rw [Bool.or_eq_false_iff]
      exact ⟨by simp; omega, decide_eq_false (by omega)⟩
    rw [this]; simp
theorem rowAt_true {l : List Rw} {s : Int} {i : Nat} (h0 : rowOk (l.getD i noRow) s = true) (h2 : i = 0 ∨ (l.getD (i - 1) noRow).key < (l.getD i noRow).key) : rowAt l s i = true := by
  unfold rowAt
  rw [h0, Bool.true_and, Bool.or_eq_true]
  rcases h2 with h2 | h2
  · exact .inl (by simp [h2])
  · exact .inr (decide_eq_true h2)

set_option maxRecDepth 100000 in
set_option maxHeartbeats 2000000 in
theorem table_yes (start : Int) (p : Option Addr) (l : List Rw) (c : Nat) (w : World) (h : isIn start 0 4611686018427387904 = true) (hn : l.length ≤ 16) (hl : RowsAt w p l) (hs : ∀ r ∈ l, (r.out.length : Int) ≤ 9223372036854775807) :
    Calls Try.prog 58 #[.agg #[.int .i64 start, .slice p l.length c]] w (Asked w (allTo (rowAt l start) l.length)) := by
  have ci := fun u => in_any start 0 4611686018427387904 u
  rw [h] at ci
  have HL := Lib.hid hl
  have HS := Lib.hid hs
  clear h hl hs
  generalize hB : allTo (rowAt l start) l.length = R
  have HB := Lib.hid hB
  clear hB
  go_enter Try.func58, Try.ntmps58
  go_wp2_with (go_at_call 44; (with_reducible refine (ci _).mono ?_); rintro e w1 ⟨rfl, rfl⟩)
  generalize hw0 : w.alloc (.cells #[.int .i64 start, .slice p l.length c] 37) = w0
  have b0 : Below w.heap.size w w0 := by rw [← hw0]; exact (Below.refl _ _).alloc (Nat.le_refl _) _
  have k0 : w0.cell? ⟨w.heap.size, 0, none⟩ = some (.int .i64 start) := by
    rw [← hw0, cell_of_row _ _ 0 _ _ (0, 0) (heap_alloc_new w _)]; rfl
  have k1 : w0.cell? ⟨w.heap.size, 1, none⟩ = some (.slice p l.length c) := by
    rw [← hw0, cell_of_row _ _ 1 _ _ (0, 0) (heap_alloc_new w _)]; rfl
  have HK0 := Lib.hid k0
  have HK1 := Lib.hid k1
  clear hw0 k0 k1 ci
  go_loopw [4] (fun i wr => ∃ j : Nat, j ≤ l.length ∧ i = .int .i64 (j : Int) ∧ Hid (∀ q, q < j → rowAt l start q = true) ∧ Below w0.heap.size w0 wr) (fun i _ => l.length - (intOf i).toNat)
  case atStart => exact ⟨0, by omega, rfl, (by intro q hq; omega), Below.refl _ _⟩
  case round =>
    obtain ⟨j, hj, rfl, hok, hb⟩ := hrel
    have c0 : wr.cell? ⟨w.heap.size, 0, none⟩ = some (.int .i64 start) := cell_on HK0.out hb
    have c1 : wr.cell? ⟨w.heap.size, 1, none⟩ = some (.slice p l.length c) := cell_on HK1.out hb
    have hlw : RowsAt wr p l := (HL.out.below b0).below hb
    by_cases hlt : j < l.length
    · obtain ⟨g, o, rfl, hc⟩ : ∃ g o, p = some ⟨g, o, none⟩ ∧ ∀ j, j < l.length → RowAt wr g (o + j * 4) (l.getD j noRow) := by
        rcases hlw with h | h
        · rw [h] at hlt; simp at hlt
        · exact h
      obtain ⟨d0, d1, d2, p3, c3, d3, hle⟩ := hc j hlt
      have hcp : 0 < j → wr.cell? ⟨g, o + (j - 1) * 4, none⟩ = some (.int .i64 (l.getD (j - 1) noRow).key) := fun _ => (hc (j - 1) (by omega)).1
      have hro := HS.out (l.getD j noRow) (by simp [List.getD, hlt])
      have hrow := fun (u : World) (hu : Below wr.heap.size wr u) => row_any (l.getD j noRow) start p3 c3 u hro (hle.below hu)
      have hrf := Lib.hid (rowAt_false (l := l) (s := start) (i := j))
      have hrt := Lib.hid (rowAt_true (l := l) (s := start) (i := j))
      generalize (l.getD (j - 1) noRow).key = z at hcp hrf hrt
      generalize l.getD j noRow = r at d0 d1 d2 d3 hle hrow hrf hrt hro
      obtain ⟨x, av, mk, out⟩ := r
      simp only at d0 d1 d2 d3 hle hrow hrf hrt hro
      have hlt' : (j : Int) < (l.length : Int) := by omega
      clear hlw hc hle hro
      generalize hR : rowOk ⟨x, av, mk, out⟩ start = br at hrow hrf hrt
      clear hR
      go_wp2
      go_region_held3 (fun u => u.cell? ⟨w.heap.size, 0, none⟩ = some (.int .i64 start) ∧ u.cell? ⟨w.heap.size, 1, none⟩ = some (.slice (some ⟨g, o, none⟩) l.length c) ∧ u.cell? ⟨g, o + j * 4, none⟩ = some (.int .i64 x) ∧ u.cell? ⟨g, o + j * 4 + 1, none⟩ = some (.int .i64 av) ∧ u.cell? ⟨g, o + j * 4 + 2, none⟩ = some (.int .i64 mk) ∧ u.cell? ⟨g, o + j * 4 + 3, none⟩ = some (.slice p3 out.length c3)) (first | assumption | exact ⟨c0, c1, d0, d1, d2, d3⟩) (first
        | (go_at_call 64; (with_reducible refine (hrow _ (Below.refl _ _).drew).mono ?_); rintro e u1 ⟨rfl, hb1⟩; have HB1 := Lib.hid (undrew hb1); clear hb1; have s1 : u1.cell? ⟨w.heap.size, 0, none⟩ = some (.int .i64 start) ∧ u1.cell? ⟨w.heap.size, 1, none⟩ = some (.slice (some ⟨g, o, none⟩) l.length c) ∧ u1.cell? ⟨g, o + j * 4, none⟩ = some (.int .i64 x) ∧ u1.cell? ⟨g, o + j * 4 + 1, none⟩ = some (.int .i64 av) ∧ u1.cell? ⟨g, o + j * 4 + 2, none⟩ = some (.int .i64 mk) ∧ u1.cell? ⟨g, o + j * 4 + 3, none⟩ = some (.slice p3 out.length c3) := ⟨cell_on c0 HB1.out, cell_on c1 HB1.out, cell_on d0 HB1.out, cell_on d1 HB1.out, cell_on d2 HB1.out, cell_on d3 HB1.out⟩))
      obtain ⟨s0, s1', s2, _, _, _⟩ := s1
      have hb2 : Below w0.heap.size w0 u1 := hb.trans (HB1.out.mono hb.size)
      have hp1 : 0 < j → u1.cell? ⟨g, o + (j - 1) * 4, none⟩ = some (.int .i64 z) := fun h => cell_on (hcp h) HB1.out
      clear c0 c1 d0 d1 d2 d3 hrow hcp
      cases br with
      | false =>
        obtain rfl : R = false := by rw [← HB.out]; exact allTo_false hlt (hrf.out (.inl rfl))
        clear hrf hrt hp1
        go_wp2
        go_quiet (fail)
        go_wp2
        go_ret
        exact ⟨rfl, b0.trans ((below_drewN hb2 _).mono b0.size)⟩
      | true =>
        by_cases h0 : 0 < j
        · have hp := hp1 h0
          have h0' : (0 : Int) < (j : Int) := by omega
          clear hp1
          by_cases hz : x ≤ z
          · obtain rfl : R = false := by rw [← HB.out]; exact allTo_false hlt (hrf.out (.inr ⟨h0, hz⟩))
            have hd : decide (x ≤ z) = true := decide_eq_true hz
            clear hrf hrt hz
            go_wp2
            have e2 : 0 ≤ (j : Int) - 1 := by omega
            have e4 : (j : Int) - 1 < (l.length : Int) := by omega
            have e3 : ((j : Int) - 1).toNat = j - 1 := by omega
            have e1 : IntKind.i64.wrap ((j : Int) - 1) = (j : Int) - 1 := IntWalk.i64_in _ (by omega)
            go_quiet (fail)
            clear e1 e3
            go_wp2
            go_ret
            exact ⟨rfl, b0.trans ((below_drewN hb2 _).mono b0.size)⟩
          · have HJ := Lib.hid (hrt.out rfl (.inr (by omega)))
            have hd : decide (x ≤ z) = false := decide_eq_false hz
            clear hrf hrt hz
            go_wp2
            have e2 : 0 ≤ (j : Int) - 1 := by omega
            have e4 : (j : Int) - 1 < (l.length : Int) := by omega
            have e3 : ((j : Int) - 1).toNat = j - 1 := by omega
            have e1 : IntKind.i64.wrap ((j : Int) - 1) = (j : Int) - 1 := IntWalk.i64_in _ (by omega)
            go_quiet (fail)
            clear e1 e3
            go_wp2
            go_roundw
            case rel => exact ⟨j + 1, by omega, by go_num, (by intro q hq; rcases Nat.lt_succ_iff_lt_or_eq.1 hq with h | h; exact hok.out q h; rw [h]; exact HJ.out), below_drewN hb2 _⟩
            case measure => simp [intOf]; omega
        · have HJ := Lib.hid (hrt.out rfl (.inl (by omega)))
          have h0' : decide ((0 : Int) < (j : Int)) = false := by simp; omega
          clear hrf hrt hp1
          go_wp2
          go_quiet (fail)
          go_wp2
          go_roundw
          case rel => exact ⟨j + 1, by omega, by go_num, (by intro q hq; rcases Nat.lt_succ_iff_lt_or_eq.1 hq with h | h; exact hok.out q h; rw [h]; exact HJ.out), below_drewN hb2 _⟩
          case measure => simp [intOf]; omega
    · obtain rfl : j = l.length := by omega
      obtain rfl : R = true := by rw [← HB.out]; exact allTo_true hok.out
      go_wp2
      go_ret
      exact ⟨rfl, b0.trans (hb.mono b0.size)⟩

/-- The rows' leases are no longer than a slice may be. -/
def Small (l : List Rw) : Prop := ∀ r ∈ l, (r.out.length : Int) ≤ 9223372036854775807

/-- Table, of any. -/
theorem table_any (t : Tb) (p : Option Addr) (c : Nat) (w : World) (hl : RowsAt w p t.rows) (hs : Small t.rows) :
    Calls Try.prog 58 #[.agg #[.int .i64 t.start, .slice p t.rows.length c]] w (Asked w (tableOk t)) := by
  unfold tableOk
  cases h : (isIn t.start 0 4611686018427387904 && decide (t.rows.length ≤ 16)) with
  | false =>
    rw [Bool.false_and]
    exact table_no _ _ _ _ _ h
  | true =>
    rw [Bool.true_and]
    rw [Bool.and_eq_true] at h
    exact table_yes _ _ _ _ _ h.1 (of_decide_eq_true h.2) hl hs
end Go.Proofs.Ytkdjhphakopfeaa.Frame
