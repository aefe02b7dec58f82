/-
  FitsToken and Fits of annonalaw05: whether a frame is such as is gone through; of what lay when the call began nothing has turned.
-/
import Derived.Test.YtkdjhphakopfeaaFrameSameToken
namespace Go.Proofs.Ytkdjhphakopfeaa.Frame
open Go.RowKit Codec

def fitsTk (t : Tk) : Bool := decide (t.stamps.length ≤ 100 ∧ t.table.rows.length ≤ 100) && allTo (fun i => decide ((t.table.rows.getD i noRow).out.length ≤ 100)) t.table.rows.length

set_option maxRecDepth 100000 in
set_option maxHeartbeats 1000000 in
theorem fits_token (t : Tk) (ps p : Option Addr) (cs c : Nat) (w : World) (hn : (t.stamps.length : Int) ≤ 9223372036854775807) (hm : (t.table.rows.length : Int) ≤ 9223372036854775807) (hl : RowsAt w p t.table.rows) :
    Calls Try.prog 28 #[.agg #[.int .i64 t.gen, .int .i64 t.hop, .slice ps t.stamps.length cs, .int .i64 t.table.start, .slice p t.table.rows.length c]] w (Asked w (fitsTk t)) := by
  obtain ⟨gen, hop, st, start, rows⟩ := t
  simp only at hn hm hl ⊢
  unfold fitsTk
  simp only
  by_cases h1 : st.length ≤ 100
  · by_cases h2 : rows.length ≤ 100
    · rw [decide_eq_true (And.intro h1 h2), Bool.true_and]
      generalize hB : allTo (fun i => decide ((rows.getD i noRow).out.length ≤ 100)) rows.length = R
      have HB := Lib.hid hB
      have HL := Lib.hid hl
      clear hB hl
      have h1' : (st.length : Int) ≤ 100 := by omega
      have h2' : (rows.length : Int) ≤ 100 := by omega
      clear h1 h2
      go_enter Try.func28, Try.ntmps28
      go_wp2
      generalize hw0 : w.alloc (.cells #[.int .i64 gen, .int .i64 hop, .slice ps st.length cs, .int .i64 start, .slice p rows.length c] 39) = w0
      have b0 : Below w.heap.size w w0 := by rw [← hw0]; exact (Below.refl _ _).alloc (Nat.le_refl _) _
      have k4 : w0.cell? ⟨w.heap.size, 4, none⟩ = some (.slice p rows.length c) := by
        rw [← hw0, cell_of_row _ _ 4 _ _ (0, 0) (heap_alloc_new w _)]; rfl
      clear hw0
      go_loop [3] (fun i => ∃ j : Nat, j ≤ rows.length ∧ i = .int .i64 (j : Int) ∧ Hid (∀ q, q < j → decide ((rows.getD q noRow).out.length ≤ 100) = true)) (fun i => rows.length - (intOf i).toNat)
      case atStart => exact ⟨0, by omega, rfl, (by intro q hq; omega)⟩
      case round =>
        obtain ⟨j, hj, rfl, hok⟩ := hrel
        by_cases hlt : j < rows.length
        · obtain ⟨g, o, rfl, hc⟩ : ∃ g o, p = some ⟨g, o, none⟩ ∧ ∀ j, j < rows.length → RowAt w0 g (o + j * 4) (rows.getD j noRow) := by
            rcases HL.out.below b0 with h | h
            · rw [h] at hlt; simp at hlt
            · exact h
          obtain ⟨-, -, -, p3, c3, d3, -⟩ := hc j hlt
          have HJ := Lib.hid (show ((rows.getD j noRow).out.length ≤ 100 → ∀ q, q < j + 1 → decide ((rows.getD q noRow).out.length ≤ 100) = true) ∧ (100 < (rows.getD j noRow).out.length → R = false) from
            ⟨fun h q hq => by
              rcases Nat.lt_succ_iff_lt_or_eq.1 hq with h1 | h1
              · exact hok.out q h1
              · rw [h1]; exact decide_eq_true h, fun h => by rw [← HB.out]; exact allTo_false hlt (decide_eq_false (by omega))⟩)
          generalize (rows.getD j noRow).out.length = n at d3 HJ
          clear hc
          have hlt' : (j : Int) < (rows.length : Int) := by omega
          by_cases hz : n ≤ 100
          · have HK := Lib.hid (HJ.out.1 hz)
            have hz' : (n : Int) ≤ 100 := by omega
            clear HJ hz
            go_wp2
            go_round
            case rel => exact ⟨j + 1, by omega, by go_num, HK⟩
            case measure => simp [intOf]; omega
          · obtain rfl := HJ.out.2 (by omega)
            have hz' : 100 < (n : Int) := by omega
            clear HJ hz
            go_wp2
            go_ret
            exact ⟨rfl, b0⟩
        · obtain rfl : j = rows.length := by omega
          obtain rfl : R = true := by rw [← HB.out]; exact allTo_true hok.out
          go_wp2
          go_ret
          exact ⟨rfl, b0⟩
    · rw [decide_eq_false (fun h => h2 h.2), Bool.false_and]
      have h1' : (st.length : Int) ≤ 100 := by omega
      have h2' : 100 < (rows.length : Int) := by omega
      clear h1 h2 hl
      go_enter Try.func28, Try.ntmps28
      go_wp2
      go_ret
      exact ⟨rfl, (Below.refl _ _).alloc (Nat.le_refl _) _⟩
  · rw [decide_eq_false (fun h => h1 h.1), Bool.false_and]
    have h1' : 100 < (st.length : Int) := by omega
    clear h1 hl
    go_enter Try.func28, Try.ntmps28
    go_wp2
    go_ret
    exact ⟨rfl, (Below.refl _ _).alloc (Nat.le_refl _) _⟩

set_option maxRecDepth 100000 in
theorem fits_core (k fr to fg fh bi g h s : Int) (sp p : Option Addr) (sn sc n c : Nat) (w : World) (b : Bool)
    (c1 : ∀ u, Below w.heap.size w u → Calls Try.prog 28 #[.agg #[.int .i64 g, .int .i64 h, .slice sp sn sc, .int .i64 s, .slice p n c]] u (Asked u b)) :
    Calls Try.prog 14 #[.agg #[.int .i64 k, .int .i64 fr, .int .i64 to, .int .i64 fg, .int .i64 fh, .int .u64 bi, .int .i64 g, .int .i64 h, .slice sp sn sc, .int .i64 s, .slice p n c]] w (Asked w b) := by
  have b0 : Below w.heap.size w (w.alloc (.cells #[.int .i64 k, .int .i64 fr, .int .i64 to, .int .i64 fg, .int .i64 fh, .int .u64 bi, .int .i64 g, .int .i64 h, .slice sp sn sc, .int .i64 s, .slice p n c] 41)) := (Below.refl _ _).alloc (Nat.le_refl _) _
  have c2 := c1 _ b0
  clear c1
  go_enter Try.func14, Try.ntmps14
  go_wp2_with (go_at_call 28; (with_reducible refine c2.mono ?_); rintro e w1 ⟨rfl, hb1⟩; have hb2 := b0.trans (hb1.mono b0.size); clear hb1)
  go_ret
  exact ⟨rfl, hb2⟩
theorem fits_any (f : Fr) (ps p : Option Addr) (cs c : Nat) (w : World) (h : Lying w f ps p) :
    Calls Try.prog 14 #[frameVal f ps p cs c] w (Asked w (fitsTk f.token)) :=
  fits_core _ _ _ _ _ _ _ _ _ _ _ _ _ _ _ w _ (fun u hu => fits_token f.token ps p cs c u h.few h.many (h.rows.below hu))
end Go.Proofs.Ytkdjhphakopfeaa.Frame
