/-
  The document's numbers, of a token that may be: a new list of its numbers, in their order; of what lay when the call began nothing has turned.
-/
import Derived.Test.YtnogfhjeckkckaaFrameWords
import Derived.Test.YtnogfhjeckkckaaChecked
import Derived.Outline
import Derived.Deep.RegionLaw
namespace Go.Proofs.Ytnogfhjeckkckaa.Frame
open Go.RowKit Codec

theorem infoI : (Try.prog.info? 3).map (fun i => (i.zero, i.size, i.bytes)) = some (some (.int .i64 0), 1, 8) := by kernel_rfl
def ints (l : List Int) : List Value := l.map (Value.int .i64)
/-- A row of ints that a call owns. -/
def OwnI (B : Nat) (w : World) (v : Value) (l : List Int) : Prop := w.ownsRow B 3 1 v l.length (ints l)
theorem ints_one (l : List Int) : ∀ u ∈ ints l, u.oneCell' = true := by
  intro u hu
  simp only [ints, List.mem_map] at hu
  obtain ⟨x, _, rfl⟩ := hu
  rfl
theorem OwnI.app {B n : Nat} {w : World} {v : Value} {l xs : List Int} (h : w.ownsRow B 3 1 v (l.length + n) (ints l ++ ints xs)) (hn : xs.length = n) : OwnI B w v (l ++ xs) := by
  unfold OwnI
  rw [List.length_append, hn]
  simpa [ints] using h
theorem OwnI.low {B B' : Nat} {w : World} {v : Value} {l : List Int} (h : OwnI B w v l) (hb : B' ≤ B) : OwnI B' w v l := own_lower h hb
theorem OwnI.on {B : Nat} {w w' : World} {v : Value} {l : List Int} (h : OwnI B w v l) (hb : Below w.heap.size w w') : OwnI B w' v l := own_below h hb

/-- Behind an append of ints that were laid first: what is owned, what lay, and a row's box. -/
theorem push_row {w0 w w' : World} {o : Obj} {v v' : Value} {n m b : Nat} {l : List Int} {xs ys : List Value} {cs : Array Value} (hg : ((w.alloc o).drew).grownBy w' v.ownBlock) (ho : w'.ownsRow w0.heap.size 3 1 v' (n + m) (xs ++ ys)) (hown : OwnI w0.heap.size w v l)
    (hv : w.heap[b]? = some (.cells cs 52 (0, 0))) (hb : Below w0.heap.size w0 w) : w'.ownsRow w0.heap.size 3 1 v' (n + m) (xs ++ ys) ∧ Below w0.heap.size w0 w' ∧ w'.heap[b]? = some (.cells cs 52 (0, 0)) := by
  have h0 : Below w.heap.size w (w.alloc o).drew := below_new
  exact ⟨ho, (hb.trans (h0.mono hb.size)).grown hg (Nat.le_trans hb.size h0.size) (fun k hk => (World.ownsRow.lt hown k hk).1), push_block (E := 3) (by decide) hv hown h0 hg⟩

/-- The cells of the second of two new blocks. -/
theorem box_news (w : World) (o : Obj) (cs : Array Value) : ∀ j u, cs.toList[j]? = some u → ((w.alloc o).alloc (.cells cs 3)).cell? ((⟨w.heap.size + 1, 0, none⟩ : Addr).add j) = some u := by
  have := heap_alloc_new (w.alloc o) (.cells cs 3)
  rw [show (w.alloc o).heap.size = w.heap.size + 1 by simp] at this
  exact World.news_of_block this

set_option maxRecDepth 100000 in
set_option maxHeartbeats 4000000 in
theorem numbers_any (t : Tk) (ps p : Option Addr) (cs c : Nat) (w : World) (hst : Ints w ps t.stamps) (hl : RowsAt w p t.table.rows) (hns : t.stamps.length ≤ 64) (hnr : t.table.rows.length ≤ 16) (hno : ∀ r ∈ t.table.rows, r.out.length ≤ 64) (hsv : ∀ x ∈ t.stamps, -1 ≤ x ∧ x ≤ 4611686018427387903) :
    Calls Try.prog 52 #[.agg #[.int .i64 t.gen, .int .i64 t.hop, .slice ps t.stamps.length cs, .int .i64 t.table.start, .slice p t.table.rows.length c]] w fun e w' => ∃ v, e = .returned v ∧ OwnI w.heap.size w' v (tokenNums t) ∧ Below w.heap.size w w' := by
  obtain ⟨gen, hop, st, start, rows⟩ := t
  simp only at hst hl hns hnr hno hsv ⊢
  obtain ⟨i0, hi, hz0, hz1, hz2⟩ := info_parts infoI
  have HST := Lib.hid hst
  have HRW := Lib.hid hl
  have HNO := Lib.hid hno
  have HSV := Lib.hid hsv
  clear hst hl hno hsv
  go_enter Try.func52, Try.ntmps52
  go_wp2
  generalize hw0 : w.alloc (.cells #[.int .i64 gen, .int .i64 hop, .slice ps st.length cs, .int .i64 start, .slice p rows.length c] 29) = w0
  have b0 : Below w.heap.size w w0 := by rw [← hw0]; exact (Below.refl _ _).alloc (Nat.le_refl _) _
  have k2 : w0.cell? ⟨w.heap.size, 2, none⟩ = some (.slice ps st.length cs) := by
    rw [← hw0, cell_of_row _ _ 2 _ _ (0, 0) (heap_alloc_new w _)]; rfl
  have k3 : w0.cell? ⟨w.heap.size, 3, none⟩ = some (.int .i64 start) := by
    rw [← hw0, cell_of_row _ _ 3 _ _ (0, 0) (heap_alloc_new w _)]; rfl
  have k4 : w0.cell? ⟨w.heap.size, 4, none⟩ = some (.slice p rows.length c) := by
    rw [← hw0, cell_of_row _ _ 4 _ _ (0, 0) (heap_alloc_new w _)]; rfl
  have z0 : w0.heap.size = w.heap.size + 1 := by rw [← hw0]; simp
  have HK2 := Lib.hid k2
  have HK3 := Lib.hid k3
  have HK4 := Lib.hid k4
  have HZ0 := Lib.hid z0
  clear hw0 k2 k3 k4 z0
  have hO0 : OwnI w0.heap.size (w0.alloc (.cells #[.int .i64 gen, .int .i64 hop, .int .i64 (st.length : Int)] 3)) (.slice (some ⟨w.heap.size + 1, 0, none⟩) 3 3) ([gen, hop, (st.length : Int)] ++ (st.take 0).map (· + 1)) := by
    rw [← HZ0.out]
    exact ⟨rfl, .inr ⟨w0.heap.size, 3, _, rfl, Nat.le_refl _, heap_alloc_new _ _, Nat.le_refl _, (by unfold maxLen; omega), rfl, rfl⟩⟩
  have HO0 := Lib.hid hO0
  clear hO0
  go_loopw [3, 4] (fun v i wr => ∃ j : Nat, j ≤ st.length ∧ i = .int .i64 (j : Int) ∧ Hid (OwnI w0.heap.size wr v ([gen, hop, (st.length : Int)] ++ (st.take j).map (· + 1))) ∧ Below w0.heap.size w0 wr) (fun _ i _ => st.length - (intOf i).toNat)
  case atStart => exact ⟨0, by omega, rfl, HO0, (Below.refl _ _).alloc (Nat.le_refl _) _⟩
  case round =>
    obtain ⟨j, hj, rfl, hO, hbw⟩ := hrel
    have e2 : wr.cell? ⟨w.heap.size, 2, none⟩ = some (.slice ps st.length cs) := cell_on HK2.out hbw
    have hsz : w0.heap.size ≤ wr.heap.size := hbw.size
    by_cases hlt : j < st.length
    · obtain ⟨g, o, rfl, hc⟩ : ∃ g o, ps = some ⟨g, o, none⟩ ∧ ∀ j, j < st.length → w.cell? ⟨g, o + j, none⟩ = some (.int .i64 (st.getD j 0)) := by
        rcases HST.out with h | h
        · rw [h] at hlt; simp at hlt
        · exact h
      have f1 := cell_on (cell_on (hc j hlt) b0) hbw
      obtain ⟨x0, x1⟩ := HSV.out (st.getD j 0) (by simp [List.getD, hlt])
      have HT := Lib.hid (stamps_take st j hlt)
      generalize st.getD j 0 = x at f1 x0 x1 HT
      clear hc
      have hlen : ([gen, hop, (st.length : Int)] ++ (st.take j).map (· + 1)).length ≤ 100 := by simp; omega
      have HT2 := Lib.hid (show [gen, hop, (st.length : Int)] ++ (st.take (j + 1)).map (· + 1) = ([gen, hop, (st.length : Int)] ++ (st.take j).map (· + 1)) ++ [x + 1] by rw [HT.out, List.append_assoc])
      clear HT
      generalize [gen, hop, (st.length : Int)] ++ (st.take j).map (· + 1) = L at hO hlen HT2
      go_wp2_with (at_builtin; refine wpList_append_own _ rfl (.tmp 23) (.tmp 30) 24 rfl w0.heap.size 3 i0 (.int .i64 0) 1 8 Try.underlying24 hi hz0 hz1 hz2 rfl (by decide) _ _ _ rfl (World.ownsRow.alloc hO.out _) ⟨wr.heap.size, 0, none⟩ 1 1 (ints [x + 1]) rfl rfl (World.news_of_block (heap_alloc_new _ _)) (ints_one _) (by unfold maxLen; omega) (by omega) (by simp; omega) ?_)
      intro v' w1 ho hg _
      have hb1 := (hbw.alloc hsz _).grown hg (by simp; omega) (fun k hk => (World.ownsRow.lt hO.out k hk).1)
      have R : Hid (OwnI w0.heap.size w1 v' ([gen, hop, (st.length : Int)] ++ (st.take (j + 1)).map (· + 1))) := (by show OwnI _ _ _ _; rw [HT2.out]; exact OwnI.app ho rfl)
      clear ho hg hO hbw
      go_wp2
      go_roundw
      case rel => exact ⟨j + 1, by omega, by go_num, R, hb1⟩
      case measure => simp [intOf]; omega
    · obtain rfl : j = st.length := by omega
      rw [List.take_length] at hO
      have e3 : wr.cell? ⟨w.heap.size, 3, none⟩ = some (.int .i64 start) := cell_on HK3.out hbw
      have e4 : wr.cell? ⟨w.heap.size, 4, none⟩ = some (.slice p rows.length c) := cell_on HK4.out hbw
      have hlen : ([gen, hop, (st.length : Int)] ++ st.map (· + 1)).length ≤ 100 := by simp; omega
      have HTOK := Lib.hid (show tokenNums ⟨gen, hop, st, start, rows⟩ = ([gen, hop, (st.length : Int)] ++ st.map (· + 1)) ++ [start, (rows.length : Int)] ++ rows.flatMap rowNums from rfl)
      generalize [gen, hop, (st.length : Int)] ++ st.map (· + 1) = L at hO hlen HTOK
      clear HST HSV HK2 HK3 HO0 hj hlt
      have hwl : w.heap.size < wr.heap.size := by have := HZ0.out; omega
      go_wp2_with (at_builtin; refine wpList_append_own _ rfl (.tmp 32) (.tmp 40) 24 rfl w0.heap.size 3 i0 (.int .i64 0) 1 8 Try.underlying24 hi hz0 hz1 hz2 rfl (by decide) _ _ _ rfl (World.ownsRow.alloc hO.out _) ⟨wr.heap.size, 0, none⟩ 2 2 (ints [start, (rows.length : Int)]) rfl rfl (World.news_of_block (heap_alloc_new _ _)) (ints_one _) (by unfold maxLen; omega) (by omega) (by simp; omega) ?_)
      intro v2 w2 ho hg _
      have hb2 := (hbw.alloc hsz _).grown hg (by simp; omega) (fun k hk => (World.ownsRow.lt hO.out k hk).1)
      have R2 : Hid (OwnI w0.heap.size w2 v2 (L ++ [start, (rows.length : Int)] ++ (rows.take 0).flatMap rowNums)) := (by show OwnI _ _ _ _; rw [List.take_zero, List.flatMap_nil, List.append_nil]; exact OwnI.app ho rfl)
      have hlen2 : (L ++ [start, (rows.length : Int)]).length ≤ 102 := by simp; omega
      clear ho hg hO hbw hsz e2 e3 e4 hwl
      generalize L ++ [start, (rows.length : Int)] = L2 at R2 hlen2 HTOK
      go_wp2
      go_loopw [3, 5] (fun v i wr => ∃ j : Nat, j ≤ rows.length ∧ i = .int .i64 (j : Int) ∧ Hid (OwnI w0.heap.size wr v (L2 ++ (rows.take j).flatMap rowNums)) ∧ Below w0.heap.size w0 wr) (fun _ i _ => rows.length - (intOf i).toNat)
      case atStart => exact ⟨0, by omega, rfl, R2, hb2⟩
      case round =>
        obtain ⟨j, hj, rfl, hO, hbw⟩ := hrel
        have e4 : wr.cell? ⟨w.heap.size, 4, none⟩ = some (.slice p rows.length c) := cell_on HK4.out hbw
        have hsz : w0.heap.size ≤ wr.heap.size := hbw.size
        by_cases hlt : j < rows.length
        · obtain ⟨g, o, rfl, hc⟩ : ∃ g o, p = some ⟨g, o, none⟩ ∧ ∀ j, j < rows.length → RowAt w0 g (o + j * 4) (rows.getD j noRow) := by
            rcases HRW.out.below b0 with h | h
            · rw [h] at hlt; simp at hlt
            · exact h
          obtain ⟨d0, d1, d2, p3, c3, d3, hle⟩ := hc j hlt
          have hn3 := HNO.out (rows.getD j noRow) (by simp [List.getD, hlt])
          have HT := Lib.hid (rows_take rows j hlt)
          have hlen : (L2 ++ (rows.take j).flatMap rowNums).length ≤ 3000 := by
            have := len_rows_flat (rows.take j) (fun r hr => HNO.out r (List.mem_of_mem_take hr))
            simp only [List.length_take] at this
            simp only [List.length_append]
            omega
          generalize rows.getD j noRow = r at d0 d1 d2 d3 hle hn3 HT
          obtain ⟨key, av, mk, out⟩ := r
          simp only at d0 d1 d2 d3 hle hn3
          have f0 := cell_on d0 hbw
          have f1 := cell_on d1 hbw
          have f2 := cell_on d2 hbw
          have f3 := cell_on d3 hbw
          have HLE := Lib.hid hle
          have HT2 := Lib.hid (show L2 ++ (rows.take (j + 1)).flatMap rowNums = (L2 ++ (rows.take j).flatMap rowNums) ++ [key, av, mk, (out.length : Int)] ++ leaseNums out by rw [HT.out]; simp [rowNums])
          clear hc d0 d1 d2 d3 hle HT
          generalize L2 ++ (rows.take j).flatMap rowNums = L3 at hO hlen HT2
          obtain ⟨wo, hwo⟩ : ∃ wo : World, wo = wr := ⟨_, rfl⟩
          subst hwo
          go_wp2_with (at_builtin; refine wpList_append_own _ rfl (.tmp 56) (.tmp 66) 24 rfl w0.heap.size 3 i0 (.int .i64 0) 1 8 Try.underlying24 hi hz0 hz1 hz2 rfl (by decide) _ _ _ rfl ((World.ownsRow.alloc hO.out _).alloc _) ⟨wo.heap.size + 1, 0, none⟩ 4 4 (ints [key, av, mk, (out.length : Int)]) rfl rfl (box_news _ _ _) (ints_one _) (by unfold maxLen; omega) (by omega) (by simp; omega) ?_)
          intro v3 w3 ho hg _
          have bn : Below wo.heap.size wo ((wo.alloc (.cells #[.int .i64 key, .int .i64 av, .int .i64 mk, .slice p3 out.length c3] 52)).alloc (.cells #[.int .i64 key, .int .i64 av, .int .i64 mk, .int .i64 (out.length : Int)] 3)) := ((Below.refl _ _).alloc (Nat.le_refl _) _).alloc (by simp) _
          have hb3 := (hbw.trans (bn.mono hsz)).grown hg (by simp; omega) (fun k hk => (World.ownsRow.lt hO.out k hk).1)
          have hx3 : w3.heap[wo.heap.size]? = some (.cells #[.int .i64 key, .int .i64 av, .int .i64 mk, .slice p3 out.length c3] 52 (0, 0)) :=
            (hg.block wo.heap.size (by simp; omega) (fun e => by have := (World.ownsRow.lt hO.out _ e.symm).2; omega)).trans ((Below.heap_alloc _ _ _ (by simp)).trans (heap_alloc_new wo _))
          have R3 : Hid (OwnI w0.heap.size w3 v3 (L3 ++ [key, av, mk, (out.length : Int)] ++ leaseNums (out.take 0))) := (by show OwnI _ _ _ _; rw [List.take_zero, show leaseNums [] = [] from rfl, List.append_nil]; exact OwnI.app ho rfl)
          have HX3 := Lib.hid hx3
          have hlen3 : (L3 ++ [key, av, mk, (out.length : Int)]).length ≤ 3004 := by simp; omega
          obtain ⟨B6, hB6⟩ : ∃ b, b = wo.heap.size := ⟨_, rfl⟩
          rw [← hB6] at HX3
          clear ho hg hO bn hx3 f0 f1 f2 f3 hlen
          generalize L3 ++ [key, av, mk, (out.length : Int)] = L4 at R3 hlen3 HT2
          go_wp2
          rw [← hB6]
          clear hB6 hsz hbw e4
          go_loopw [3, 7] (fun v i wr => ∃ q : Nat, q ≤ out.length ∧ i = .int .i64 (q : Int) ∧ Hid (OwnI w0.heap.size wr v (L4 ++ leaseNums (out.take q))) ∧ Below w0.heap.size w0 wr ∧ Hid (wr.heap[B6]? = some (.cells #[.int .i64 key, .int .i64 av, .int .i64 mk, .slice p3 out.length c3] 52 (0, 0)))) (fun _ i _ => out.length - (intOf i).toNat)
          case atStart => exact ⟨0, by omega, rfl, R3, hb3, HX3⟩
          case round =>
            obtain ⟨q, hq, rfl, hO, hbw, hX⟩ := hrel
            have y3 : wr.cell? ⟨B6, 3, none⟩ = some (.slice p3 out.length c3) := by rw [cell_of_row _ _ 3 _ _ (0, 0) hX.out]; rfl
            have hsz : w0.heap.size ≤ wr.heap.size := hbw.size
            by_cases hql : q < out.length
            · obtain ⟨g3, o3, rfl, hc⟩ : ∃ g o, p3 = some ⟨g, o, none⟩ ∧ ∀ j, j < out.length → w0.cell? ⟨g, o + j * 2, none⟩ = some (.int .i64 (out.getD j (0, 0)).1) ∧ w0.cell? ⟨g, o + j * 2 + 1, none⟩ = some (.int .i64 (out.getD j (0, 0)).2) := by
                rcases HLE.out with h | h
                · rw [h] at hql; simp at hql
                · exact h
              have l0 := cell_on (hc q hql).1 hbw
              have l1 := cell_on (hc q hql).2 hbw
              have HT3 := Lib.hid (leaseNums_take out q hql)
              have hlen4 : (L4 ++ leaseNums (out.take q)).length ≤ 3200 := by
                simp only [List.length_append, len_leaseNums, List.length_take]
                omega
              generalize out.getD q (0, 0) = xy at l0 l1 HT3
              obtain ⟨x, y⟩ := xy
              simp only at l0 l1
              have HT4 := Lib.hid (show L4 ++ leaseNums (out.take (q + 1)) = (L4 ++ leaseNums (out.take q)) ++ [x, y] by rw [HT3.out, List.append_assoc])
              clear hc HT3
              generalize L4 ++ leaseNums (out.take q) = L5 at hO hlen4 HT4
              have hql' : (q : Int) < (out.length : Int) := by omega
              go_wp2
              go_region_law (refine step_append_lies _ rfl (.tmp 75) (.tmp 88) 24 rfl w0.heap.size 3 i0 (.int .i64 0) 1 8 Try.underlying24 hi hz0 hz1 hz2 rfl (by decide) _ L5.length (ints L5) rfl (World.ownsRow.alloc hO.out _) ⟨wr.heap.size, 0, none⟩ 2 2 (ints [x, y]) rfl rfl (World.news_of_block (heap_alloc_new _ _)) (ints_one _) (by decide) (by unfold maxLen; omega) (by omega) (by simp; omega) _ rfl ?_; intro g5 c5 w5 ho hg _ _; have hP := Lib.hid (push_row hg ho hO.out hX.out hbw); clear ho hg)
              all_goals
                have R5 : Hid (OwnI w0.heap.size w5 (.slice (some ⟨g5, 0, none⟩) (L5.length + 2) c5) (L4 ++ leaseNums (out.take (q + 1)))) := (by show OwnI _ _ _ _; rw [HT4.out]; exact OwnI.app hP.out.1 rfl)
                have hb5 := hP.out.2.1
                have HX5 := Lib.hid hP.out.2.2
                clear hP hO hbw hX y3 l0 l1
                go_wp2
                go_roundw
                case rel => exact ⟨q + 1, by omega, by go_num, R5, hb5, HX5⟩
                case measure => simp [intOf]; omega
            · obtain rfl : q = out.length := by omega
              rw [List.take_length] at hO
              rw [← HT2.out] at hO
              clear HT2
              go_wp2
              go_roundw
              case rel => exact ⟨j + 1, by omega, by go_num, hO, hbw⟩
              case measure => simp [intOf]; omega
        · obtain rfl : j = rows.length := by omega
          rw [List.take_length, ← HTOK.out] at hO
          have HF := Lib.hid (OwnI.low hO.out b0.size)
          clear hO
          go_wp2
          go_ret
          exact ⟨_, rfl, HF.out, b0.trans (hbw.mono b0.size)⟩
end Go.Proofs.Ytnogfhjeckkckaa.Frame
