/-
  The program's writeRow and writeToken, of a row and a token whose numbers may be: all of them are written, in their order.
-/
import Derived.Test.YtnogfhjeckkckaaFrmWriter
namespace Go.Proofs.Ytnogfhjeckkckaa.Frame
open Go.RowKit Codec

theorem puts_append (a b : List Int) : puts (a ++ b) = puts a ++ puts b := by simp [puts]
theorem goods_of_append {a b : List Int} (h : goods (a ++ b) = true) : goods a = true ∧ goods b = true := by
  rw [goods_append, Bool.and_eq_true] at h
  exact h
theorem goods_lease (l : List (Int × Int)) (h : goods (leaseNums l) = true) (j : Nat) (hj : j < l.length) : goods [(l.getD j (0, 0)).1, (l.getD j (0, 0)).2] = true := by
  have e : l.getD j (0, 0) = l[j] := by simp [List.getD, hj]
  rw [e]
  simp only [goods, leaseNums, List.all_flatMap, List.all_eq_true] at h
  have := h l[j] (List.getElem_mem hj)
  simpa [goods] using this

set_option maxRecDepth 100000 in
set_option maxHeartbeats 1000000 in
theorem wrow_any (B b : Nat) (bs : List Int) (r : Rw) (p : Option Addr) (c : Nat) (w : World) (h : Wtr 71 5 B w b bs) (hl : bs.length ≤ 40000) (hBw : B ≤ w.heap.size) (hgood : goods (rowNums r) = true) (hn : r.out.length ≤ 64) (hle : LeasesS B w p r.out) :
    Calls Try.prog 75 #[.pointer (some ⟨b, 0, none⟩), .agg #[.int .i64 r.key, .int .i64 r.avail, .int .i64 r.mark, .slice p r.out.length c]] w (Wrote B b w (bs ++ puts (rowNums r)) (.tuple #[])) := by
  obtain ⟨key, av, mk, out⟩ := r
  simp only at hn hle ⊢
  obtain ⟨hg1, hg2⟩ := goods_of_append (show goods ([key, av, mk, (out.length : Int)] ++ leaseNums out) = true from hgood)
  have hb0 : Below w.heap.size w (w.alloc (.cells #[.int .i64 key, .int .i64 av, .int .i64 mk, .slice p out.length c] 52)) := (Below.refl _ _).alloc (Nat.le_refl _) _
  have hk0 := WK.below hBw hb0
  have hN := wnum4 B b (w.heap.size + 1) bs key av mk out.length (w.alloc (.cells #[.int .i64 key, .int .i64 av, .int .i64 mk, .slice p out.length c] 52)) (by simp) (Wtr.on h hb0) (by omega) hk0.size hg1
  have HBX := Lib.hid (heap_alloc_new w (.cells #[.int .i64 key, .int .i64 av, .int .i64 mk, .slice p out.length c] 52))
  have HLE := Lib.hid hle
  have HG := Lib.hid hg2
  have HK0 := Lib.hid hk0
  clear h hgood hg1 hg2 hle hb0 hk0
  go_enter Try.func75, Try.ntmps75
  go_wp2_with (go_at_call 63; (with_reducible refine hN.mono ?_); rintro e w1 ⟨rfl, hw1, hk1⟩; have B1 := hk1.2.2 52 (by decide) (by decide) _ _ _ HBX.out; have c3 : w1.cell? ⟨w.heap.size, 3, none⟩ = some (.slice p out.length c) := (by rw [cell_of_row _ _ 3 _ _ _ B1]; rfl); have HW1 := Lib.hid hw1; have HK1 := Lib.hid (HK0.out.trans hk1); clear hN hw1 hk1 B1)
  clear HK0 HBX c3
  go_loopw [21] (fun i wr => ∃ j : Nat, j ≤ out.length ∧ i = .int .i64 (j : Int) ∧ Hid (Wtr 71 5 B wr b (bs ++ puts [key, av, mk, (out.length : Int)] ++ puts (leaseNums (out.take j)))) ∧ Hid (WK B w wr)) (fun i _ => out.length - (intOf i).toNat)
  case atStart => exact ⟨0, by omega, rfl, (by simpa [puts, leaseNums] using HW1), HK1⟩
  case round =>
    obtain ⟨j, hj, rfl, hw, hk⟩ := hrel
    by_cases hlt : j < out.length
    · obtain ⟨g, o, rfl, hc⟩ : ∃ g o, p = some ⟨g, o, none⟩ ∧ ∀ j, j < out.length → wr.cell? ⟨g, o + j * 2, none⟩ = some (.int .i64 (out.getD j (0, 0)).1) ∧ wr.cell? ⟨g, o + j * 2 + 1, none⟩ = some (.int .i64 (out.getD j (0, 0)).2) := by
        rcases (HLE.out.keep (hk.out.kp (by decide) (by decide))).leases with h | h
        · rw [h] at hlt; simp at hlt
        · exact h
      have f0 := (hc j hlt).1
      have f1 := (hc j hlt).2
      have hgd := Lib.hid (goods_lease out HG.out j hlt)
      have HT := Lib.hid (leaseNums_take out j hlt)
      have hln : (bs ++ puts [key, av, mk, (out.length : Int)] ++ puts (leaseNums (out.take j))).length ≤ 50000 := by
        simp only [List.length_append, len_puts, len_leaseNums, List.length_take, List.length_cons, List.length_nil]
        omega
      have hgl : g < wr.heap.size := World.block_lt_of_cell? _ _ f0
      have HT2 := Lib.hid (show bs ++ puts [key, av, mk, (out.length : Int)] ++ puts (leaseNums (out.take (j + 1))) = (bs ++ puts [key, av, mk, (out.length : Int)] ++ puts (leaseNums (out.take j))) ++ puts [(out.getD j (0, 0)).1, (out.getD j (0, 0)).2] by rw [HT.out, puts_append]; simp only [List.append_assoc])
      generalize (out.getD j (0, 0)).1 = x at f0 hgd HT2
      generalize (out.getD j (0, 0)).2 = y at f1 hgd HT2
      generalize bs ++ puts [key, av, mk, (out.length : Int)] ++ puts (leaseNums (out.take j)) = L at hw hln HT2
      clear hc HT
      have hb1 : Below wr.heap.size wr (wr.alloc (.cells #[.int .i64 x, .int .i64 y] 49)) := (Below.refl _ _).alloc (Nat.le_refl _) _
      have hk1 := WK.below hk.out.size hb1
      have hN := wnum2 B b (wr.heap.size + 1) L x y (wr.alloc (.cells #[.int .i64 x, .int .i64 y] 49)) (by simp) (Wtr.on hw.out hb1) hln hk1.size hgd.out
      have HK1' := Lib.hid (hk.out.trans hk1)
      clear hb1 hk1 hw hgd
      go_wp2_with (go_at_call 63; (with_reducible refine hN.mono ?_); rintro e w2 ⟨rfl, hw2, hk2⟩; have R1 : Hid (Wtr 71 5 B w2 b (bs ++ puts [key, av, mk, (out.length : Int)] ++ puts (leaseNums (out.take (j + 1))))) := (by show Wtr _ _ _ _ _ _; rw [HT2.out]; exact hw2); have R2 := Lib.hid (HK1'.out.trans hk2); clear hN hw2 hk2)
      go_roundw
      case rel => exact ⟨j + 1, by omega, by go_num, R1, R2⟩
      case measure => simp [intOf]; omega
    · obtain rfl : j = out.length := by omega
      rw [List.take_length] at hw
      have R : Hid (Wtr 71 5 B wr b (bs ++ puts (rowNums ⟨key, av, mk, out⟩))) := (by
        show Wtr _ _ _ _ _ _
        have := hw.out
        rw [List.append_assoc, ← puts_append] at this
        exact this)
      clear hw
      go_wp2
      go_end0
      exact ⟨rfl, R.out, hk.out⟩

theorem goods_row_at (l : List Rw) (h : goods (l.flatMap rowNums) = true) (j : Nat) (hj : j < l.length) : goods (rowNums (l.getD j noRow)) = true := by
  have e : l.getD j noRow = l[j] := by simp [List.getD, hj]
  rw [e]
  simp only [goods, List.all_flatMap, List.all_eq_true] at h
  have := h l[j] (List.getElem_mem hj)
  simpa [goods, List.all_eq_true] using this
theorem goods_at (l : List Int) (h : goods (l.map (· + 1)) = true) (j : Nat) (hj : j < l.length) : goods [l.getD j 0 + 1] = true := by
  have e : l.getD j 0 = l[j] := by simp [List.getD, hj]
  rw [e]
  simp only [goods, List.all_map, List.all_eq_true, Function.comp_apply] at h
  simpa [goods] using h l[j] (List.getElem_mem hj)

set_option maxRecDepth 100000 in
set_option maxHeartbeats 2000000 in
theorem wtoken_any (B b : Nat) (bs : List Int) (t : Tk) (ps p : Option Addr) (cs c : Nat) (w : World) (h : Wtr 71 5 B w b bs) (hl : bs.length ≤ 100) (hBw : B ≤ w.heap.size) (hgood : goods (tokenNums t) = true) (hns : t.stamps.length ≤ 64) (hnr : t.table.rows.length ≤ 16) (hno : ∀ r ∈ t.table.rows, r.out.length ≤ 64)
    (hst : IntsS B w ps t.stamps) (hrw : RowsS B w p t.table.rows) :
    Calls Try.prog 64 #[.pointer (some ⟨b, 0, none⟩), .agg #[.int .i64 t.gen, .int .i64 t.hop, .slice ps t.stamps.length cs, .int .i64 t.table.start, .slice p t.table.rows.length c]] w (Wrote B b w (bs ++ puts (tokenNums t)) (.tuple #[])) := by
  obtain ⟨gen, hop, st, start, rows⟩ := t
  simp only at hns hnr hno hst hrw ⊢
  obtain ⟨hgA, hg4⟩ := goods_of_append (show goods ([gen, hop, (st.length : Int)] ++ st.map (· + 1) ++ [start, (rows.length : Int)] ++ rows.flatMap rowNums) = true from hgood)
  obtain ⟨hgB, hg3⟩ := goods_of_append hgA
  obtain ⟨hg1, hg2⟩ := goods_of_append hgB
  have hb0 : Below w.heap.size w (w.alloc (.cells #[.int .i64 gen, .int .i64 hop, .slice ps st.length cs, .int .i64 start, .slice p rows.length c] 29)) := (Below.refl _ _).alloc (Nat.le_refl _) _
  have hk0 := WK.below hBw hb0
  have hN := wnum3 B b (w.heap.size + 1) bs gen hop st.length (w.alloc (.cells #[.int .i64 gen, .int .i64 hop, .slice ps st.length cs, .int .i64 start, .slice p rows.length c] 29)) (by simp) (Wtr.on h hb0) (by omega) hk0.size hg1
  have HBX := Lib.hid (show ∀ u, WK B (w.alloc (.cells #[.int .i64 gen, .int .i64 hop, .slice ps st.length cs, .int .i64 start, .slice p rows.length c] 29)) u → u.cell? ⟨w.heap.size, 2, none⟩ = some (.slice ps st.length cs) ∧ u.cell? ⟨w.heap.size, 3, none⟩ = some (.int .i64 start) ∧ u.cell? ⟨w.heap.size, 4, none⟩ = some (.slice p rows.length c) from fun u hu =>
    ⟨hu.cell (heap_alloc_new w _) (by decide) (by decide), hu.cell (heap_alloc_new w _) (by decide) (by decide), hu.cell (heap_alloc_new w _) (by decide) (by decide)⟩)
  have HST := Lib.hid hst
  have HRW := Lib.hid hrw
  have HG2 := Lib.hid hg2
  have HG3 := Lib.hid hg3
  have HG4 := Lib.hid hg4
  have HK0 := Lib.hid hk0
  have HNO := Lib.hid hno
  clear h hgood hgA hgB hg1 hg2 hg3 hg4 hst hrw hb0 hk0 hno
  go_enter Try.func64, Try.ntmps64
  go_wp2_with (go_at_call 63; (with_reducible refine hN.mono ?_); rintro e w1 ⟨rfl, hw1, hk1⟩; obtain ⟨c2, c3, c4⟩ := HBX.out w1 hk1; have HW1 := Lib.hid hw1; have HK1 := Lib.hid hk1; clear hN hw1 hk1)
  clear c2 c3 c4
  generalize w.alloc (.cells #[.int .i64 gen, .int .i64 hop, .slice ps st.length cs, .int .i64 start, .slice p rows.length c] 29) = w0 at HBX HK0 HK1
  go_loopw [21] (fun i wr => ∃ j : Nat, j ≤ st.length ∧ i = .int .i64 (j : Int) ∧ Hid (Wtr 71 5 B wr b (bs ++ puts [gen, hop, (st.length : Int)] ++ puts ((st.take j).map (· + 1)))) ∧ Hid (WK B w0 wr)) (fun i _ => st.length - (intOf i).toNat)
  case atStart => exact ⟨0, by omega, rfl, (by simpa [puts] using HW1), HK1⟩
  case round =>
    obtain ⟨j, hj, rfl, hw, hk⟩ := hrel
    by_cases hlt : j < st.length
    · obtain ⟨g, o, rfl, hc⟩ : ∃ g o, ps = some ⟨g, o, none⟩ ∧ ∀ j, j < st.length → wr.cell? ⟨g, o + j, none⟩ = some (.int .i64 (st.getD j 0)) := by
        rcases (HST.out.keep ((HK0.out.trans hk.out).kp (by decide) (by decide))).ints with h | h
        · rw [h] at hlt; simp at hlt
        · exact h
      have f0 := hc j hlt
      have hgd := goods_at st HG2.out j hlt
      have HT := Lib.hid (stamps_take st j hlt)
      have hln : (bs ++ puts [gen, hop, (st.length : Int)] ++ puts ((st.take j).map (· + 1))).length ≤ 50000 := by
        simp only [List.length_append, len_puts, List.length_map, List.length_take, List.length_cons, List.length_nil]
        omega
      have HT2 := Lib.hid (show bs ++ puts [gen, hop, (st.length : Int)] ++ puts ((st.take (j + 1)).map (· + 1)) = (bs ++ puts [gen, hop, (st.length : Int)] ++ puts ((st.take j).map (· + 1))) ++ puts [st.getD j 0 + 1] by rw [HT.out, puts_append]; simp only [List.append_assoc])
      generalize st.getD j 0 = x at f0 hgd HT2
      have hx0 : -1 ≤ x ∧ x ≤ 4611686018427387903 := by
        simp [goods, good] at hgd
        omega
      obtain ⟨hx0, hx1⟩ := hx0
      generalize bs ++ puts [gen, hop, (st.length : Int)] ++ puts ((st.take j).map (· + 1)) = L at hw hln HT2
      clear hc HT
      have hN := wnum1 B b wr.heap.size L (x + 1) wr rfl hw.out hln hk.out.size hgd
      clear hw hgd
      go_wp2_with (go_at_call 63; (with_reducible refine hN.mono ?_); rintro e w2 ⟨rfl, hw2, hk2⟩; have R1 : Hid (Wtr 71 5 B w2 b (bs ++ puts [gen, hop, (st.length : Int)] ++ puts ((st.take (j + 1)).map (· + 1)))) := (by show Wtr _ _ _ _ _ _; rw [HT2.out]; exact hw2); have R2 := Lib.hid (hk.out.trans hk2); clear hN hw2 hk2)
      go_roundw
      case rel => exact ⟨j + 1, by omega, by go_num, R1, R2⟩
      case measure => simp [intOf]; omega
    · obtain rfl : j = st.length := by omega
      rw [List.take_length] at hw
      have hln : (bs ++ puts [gen, hop, (st.length : Int)] ++ puts (st.map (· + 1))).length ≤ 1000 := by
        simp only [List.length_append, len_puts, List.length_map, List.length_cons, List.length_nil]
        omega
      have HTOK := Lib.hid (show bs ++ puts (tokenNums ⟨gen, hop, st, start, rows⟩) = (bs ++ puts [gen, hop, (st.length : Int)] ++ puts (st.map (· + 1))) ++ puts [start, (rows.length : Int)] ++ puts (rows.flatMap rowNums) by
        simp only [tokenNums, headNums, puts_append, List.append_assoc])
      generalize bs ++ puts [gen, hop, (st.length : Int)] ++ puts (st.map (· + 1)) = L at hw hln HTOK
      obtain ⟨c2, c3, c4⟩ := HBX.out wr hk.out
      have hN := wnum2 B b wr.heap.size L start rows.length wr rfl hw.out (by omega) hk.out.size HG3.out
      have hwl : w.heap.size < wr.heap.size := World.block_lt_of_cell? _ _ c2
      clear hw
      go_wp2_with (go_at_call 63; (with_reducible refine hN.mono ?_); rintro e w2 ⟨rfl, hw2, hk2⟩; clear c2 c3 c4; have HW2 := Lib.hid hw2; have HK2 := Lib.hid (hk.out.trans hk2); obtain ⟨c2, c3, c4⟩ := HBX.out w2 HK2.out; clear hN hw2 hk2)
      clear c2 c3 c4 hwl hk
      go_loopw [45] (fun i wr => ∃ j : Nat, j ≤ rows.length ∧ i = .int .i64 (j : Int) ∧ Hid (Wtr 71 5 B wr b (L ++ puts [start, (rows.length : Int)] ++ puts ((rows.take j).flatMap rowNums))) ∧ Hid (WK B w0 wr)) (fun i _ => rows.length - (intOf i).toNat)
      case atStart => exact ⟨0, by omega, rfl, (by simpa [puts] using HW2), HK2⟩
      case round =>
        obtain ⟨j, hj, rfl, hw, hk⟩ := hrel
        by_cases hlt : j < rows.length
        · obtain ⟨g, o, rfl, hc⟩ : ∃ g o, p = some ⟨g, o, none⟩ ∧ ∀ j, j < rows.length → RowS B wr g (o + j * 4) (rows.getD j noRow) := by
            rcases HRW.out.keep ((HK0.out.trans hk.out).kp (by decide) (by decide)) ((HK0.out.trans hk.out).kp (by decide) (by decide)) with h | ⟨g, o, h1, _, h2⟩
            · rw [h] at hlt; simp at hlt
            · exact ⟨g, o, h1, h2⟩
          obtain ⟨d0, d1, d2, p3, c3, d3, hle⟩ := hc j hlt
          have hn3 := HNO.out (rows.getD j noRow) (by simp [List.getD, hlt])
          have hgd := Lib.hid (goods_row_at rows HG4.out j hlt)
          have HT := Lib.hid (rows_take rows j hlt)
          have hln : (L ++ puts [start, (rows.length : Int)] ++ puts ((rows.take j).flatMap rowNums)).length ≤ 40000 := by
            have := len_rows_flat (rows.take j) (fun r hr => HNO.out r (List.mem_of_mem_take hr))
            simp only [List.length_take] at this
            simp only [List.length_append, len_puts, List.length_cons, List.length_nil]
            omega
          have HT2 := Lib.hid (show L ++ puts [start, (rows.length : Int)] ++ puts ((rows.take (j + 1)).flatMap rowNums) = (L ++ puts [start, (rows.length : Int)] ++ puts ((rows.take j).flatMap rowNums)) ++ puts (rowNums (rows.getD j noRow)) by rw [HT.out, puts_append]; simp only [List.append_assoc])
          generalize rows.getD j noRow = r at d0 d1 d2 d3 hle hn3 hgd HT2
          have hgl : g < wr.heap.size := World.block_lt_of_cell? _ _ d0
          generalize L ++ puts [start, (rows.length : Int)] ++ puts ((rows.take j).flatMap rowNums) = L2 at hw hln HT2
          clear hc HT
          have hb1 : Below wr.heap.size wr (wr.alloc (.cells #[.int .i64 r.key, .int .i64 r.avail, .int .i64 r.mark, .slice p3 r.out.length c3] 52)) := (Below.refl _ _).alloc (Nat.le_refl _) _
          have hk1 := WK.below hk.out.size hb1
          have hN := wrow_any B b L2 r p3 c3 (wr.alloc (.cells #[.int .i64 r.key, .int .i64 r.avail, .int .i64 r.mark, .slice p3 r.out.length c3] 52)) (Wtr.on hw.out hb1) hln hk1.size hgd.out hn3 (hle.keep (hk1.kp (by decide) (by decide)))
          have HK1' := Lib.hid (hk.out.trans hk1)
          clear hb1 hk1 hw hgd hle
          go_wp2_with (go_at_call 75; (with_reducible refine hN.mono ?_); rintro e w3 ⟨rfl, hw2, hk2⟩; have R1 : Hid (Wtr 71 5 B w3 b (L ++ puts [start, (rows.length : Int)] ++ puts ((rows.take (j + 1)).flatMap rowNums))) := (by show Wtr _ _ _ _ _ _; rw [HT2.out]; exact hw2); have R2 := Lib.hid (HK1'.out.trans hk2); clear hN hw2 hk2)
          go_roundw
          case rel => exact ⟨j + 1, by omega, by go_num, R1, R2⟩
          case measure => simp [intOf]; omega
        · obtain rfl : j = rows.length := by omega
          rw [List.take_length] at hw
          have R : Hid (Wtr 71 5 B wr b (bs ++ puts (tokenNums ⟨gen, hop, st, start, rows⟩))) := (by
            show Wtr _ _ _ _ _ _
            rw [HTOK.out]
            exact hw.out)
          clear hw
          go_wp2
          go_end0
          exact ⟨rfl, R.out, HK0.out.trans hk.out⟩
end Go.Proofs.Ytnogfhjeckkckaa.Frame
