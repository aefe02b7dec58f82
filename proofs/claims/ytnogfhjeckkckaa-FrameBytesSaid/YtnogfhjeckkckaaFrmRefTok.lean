/-
  The document's token: it tells what the plain function of FrmBack reads, and leaves the reader as it says; of what lay when the call began nothing has turned but the reader.
-/
import Derived.Test.YtnogfhjeckkckaaFrmRefRows
import Derived.Test.YtnogfhjeckkckaaFrmReadFr
namespace Go.Proofs.Ytnogfhjeckkckaa.Frame
open Go.RowKit Codec

/-- A token's box is laid. -/
theorem TokSt.lay {RT : TypeId} {w u : World} {b : Nat} {s : St} (hb : b < w.heap.size) (hw : w.grownBy u (some b)) (hr : Rdr RT 5 u b s.1 s.2) (hy : IsBytes s.1) (g : Int) :
    TokSt RT w (u.alloc (.cells #[.int .i64 g, .int .i64 0, .slice none 0 0, .int .i64 0, .slice none 0 0] 29)) b u.heap.size s g 0 0 (.slice none 0 0) (.slice none 0 0) [] [] :=
  ⟨hr.below ((Below.refl _ _).alloc (Nat.le_refl _) _), hy, grown_alloc hw _, hb, hw.size, heap_alloc_new _ _, World.ownsRow_nil _ _ _ _, .nil _ _⟩
theorem RowsOwn.lower {B B' : Nat} {w : World} {v : Value} {rows : List Rw} (h : RowsOwn B w v rows) (hB : B' ≤ B) : RowsOwn B' w v rows := by
  obtain ⟨xs, h1, h2⟩ := h
  exact ⟨xs, own_lower h1 hB, h2⟩
/-- The rows go into the box. -/
theorem TokSt.putrows {RT : TypeId} {w wr : World} {b X : Nat} {s : St} {g h start : Int} {v1 v2 v : Value} {st : List Int} {rows rows' : List Rw} (S : TokSt RT w wr b X s g h start v1 v2 st rows) (hr : RowsOwn (X + 1) wr v rows') :
    wr.cell? ⟨X, 4, none⟩ = some v2 ∧ wr.frozen? ⟨X, 4, none⟩ = false ∧ TokSt RT w (wr.setCell ⟨X, 4, none⟩ v) b X s g h start v1 v st rows' := by
  have hlow := S.low
  have hbase := S.base
  have hg := grown_set (w := wr) X 4 v
  refine ⟨S.cells.2.2.2.2.2.1, S.cells.2.2.2.2.2.2 4, S.rdr.keep (.grown S.box (by decide) hg) (heap_setCell_other _ _ _ _ (by simp; omega)), S.bytes, grown_set_far S.grown (by omega), hlow, hbase, ?_, own_kept S.own1 hg (by omega), hr.keep hg (by omega) (.grown S.box (by decide) hg)⟩
  rw [heap_set _ _ _ _ S.box]
  rfl

set_option maxRecDepth 100000 in
set_option maxHeartbeats 4000000 in
theorem reftoken_any (b : Nat) (s : St) (w : World) (h : Rdr 84 5 w b s.1 s.2) (hy : IsBytes s.1) :
    Calls Try.prog 56 #[.pointer (some ⟨b, 0, none⟩)] w (TokenRead 84 rWay w b s) := by
  have hIi := info_parts infoI
  obtain ⟨i0, hi, hz0, hz1, hz2⟩ := hIi
  have hI := Lib.hid (And.intro hi (And.intro hz0 (And.intro hz1 hz2)))
  clear hi hz0 hz1 hz2
  have hbw := h.lt
  have R0 := Lib.hid (h.below ((Below.refl w.heap.size w).alloc (Nat.le_refl _) (.cells #[.int .i64 0, .int .i64 0, .slice none 0 0, .int .i64 0, .slice none 0 0] 29)))
  have hlow1 : b < (w.alloc (.cells #[.int .i64 0, .int .i64 0, .slice none 0 0, .int .i64 0, .slice none 0 0] 29)).heap.size := R0.out.lt
  have HLOW := Lib.hid hlow1
  clear h hlow1
  have hK : Hid (∀ s : St, IsBytes s.1 → IsBytes (rdNum rWay s).2.1) := fun s h => rWay_ok.bytes _ _ h
  obtain ⟨q1, q2, q3, stL, q5, q6, rL, e1, e2, e3, e4, e5, e6, e7, hR⟩ := token_parts' rWay s
  have y1 : IsBytes q1.2.1 := by rw [e1]; exact hK.out s hy
  have y2 : IsBytes q2.2.1 := by rw [e2]; exact hK.out _ y1
  have y3 : IsBytes q3.2.1 := by rw [e3]; exact rWay_ok.bytes 64 _ y2
  have l3 : 0 ≤ q3.1 := by rw [e3]; exact rWay_ok.low 64 _ y2
  have h3 : q3.1 ≤ 64 := by rw [e3]; exact rWay_ok.high 64 _ (by omega)
  have C1 := Lib.hid (fun u h => rnum_w b s u h hy)
  have C2 := Lib.hid (fun u h => rnum_w b q1.2 u h y1)
  have C3 := Lib.hid (fun u h => rupto_w b q2.2 64 u h y2 (by omega) (by omega))
  rw [← e1] at C1
  rw [← e2] at C2
  rw [← e3] at C3
  obtain ⟨n, hn⟩ : ∃ n : Nat, q3.1 = (n : Int) := ⟨q3.1.toNat, by omega⟩
  rw [hn] at e4 C3 l3 h3
  simp only [Int.toNat_natCast] at e4
  have E4 := Lib.hid e4
  have E5 := Lib.hid e5
  have E6 := Lib.hid e6
  have E7 := Lib.hid e7
  have HR := Lib.hid hR
  have Y1 := Lib.hid y1
  have Y2 := Lib.hid y2
  have Y3 := Lib.hid y3
  clear hR y1 y2 y3 hy e1 e2 e3 e4 e5 e6 e7 hn
  go_enter Try.func56, Try.ntmps56
  go_wp2_with (first
    | (go_at_call 55; (with_reducible refine (C1.out _ R0.out).mono ?_); rintro e W1 ⟨rfl, hr, hg⟩; have T1 := Lib.hid (TokSt.lay HLOW.out hg hr Y1.out q1.1); have hsz : w.heap.size < W1.heap.size := (Nat.lt_of_lt_of_le (by simp) hg.size); clear hr hg R0 HLOW)
    | (go_at_call 55; (with_reducible refine (C2.out _ T1.out.rdr).mono ?_); rintro e W2 ⟨rfl, hr, hg⟩; have zx : W1.heap.size < W2.heap.size := (lt_of_heap (T1.out.read (by decide) hr Y2.out hg).box); obtain ⟨c0, f0, S2⟩ := T1.out.num1 (by decide) q2.1 hr Y2.out hg; have T2 := Lib.hid S2; clear S2 hr hg T1)
    | (go_at_call 71; (with_reducible refine (C3.out _ T2.out.rdr).mono ?_); rintro e W3 ⟨rfl, hr, hg⟩; clear c0 f0 zx; have T3 := Lib.hid (T2.out.read (by decide) hr Y3.out hg); clear hr hg T2))
  clear C1 C2 C3 Y1 Y2 Y3
  have HLN := Lib.hid (len_rdInts rWay)
  go_loopw [5] (fun i wr => ∃ j : Nat, j ≤ n ∧ i = .int .i64 (j : Int) ∧ Hid (AnyTok 84 (w.alloc (.cells #[.int .i64 0, .int .i64 0, .slice none 0 0, .int .i64 0, .slice none 0 0] 29)) wr b W1.heap.size (rdInts rWay j q3.2).2 q1.1 q2.1 0 (rdInts rWay j q3.2).1 [])) (fun i _ => n - (intOf i).toNat)
  case atStart => exact ⟨0, by omega, rfl, ⟨_, _, T3.out⟩⟩
  case round =>
    clear T3
    obtain ⟨j, hj, rfl, hS⟩ := hrel
    obtain ⟨v1, v2, S⟩ := hS.out
    have T := Lib.hid S
    clear hS S
    by_cases hlt : j < n
    · have hlen : (rdInts rWay j q3.2).1.length = j := HLN.out j q3.2
      have HN : Hid (rdInts rWay (j + 1) q3.2 = ((rdInts rWay j q3.2).1 ++ [(rdNum rWay (rdInts rWay j q3.2).2).1 - 1], (rdNum rWay (rdInts rWay j q3.2).2).2)) := rfl
      generalize rdInts rWay j q3.2 = L at T hlen HN
      obtain ⟨st, s5⟩ := L
      simp only at T hlen HN
      have yy := T.out.bytes
      have y5 := hK.out s5 yy
      have x0 : 0 ≤ (rdNum rWay s5).1 := rWay_ok.low _ _ yy
      have x1 : (rdNum rWay s5).1 ≤ 4611686018427387904 := rWay_ok.high most s5 (by unfold most; omega)
      have D1 := Lib.hid (show ∀ u, Rdr 84 5 u b s5.1 s5.2 → Calls Try.prog 71 #[.pointer (some ⟨b, 0, none⟩), .int .i64 4611686018427387904] u (Step 84 5 u b (rdNum rWay s5).2 (.int .i64 (rdNum rWay s5).1)) from fun u h => rupto_w b s5 4611686018427387904 u h yy (by omega) (by omega))
      generalize rdNum rWay s5 = z1 at HN y5 D1 x0 x1
      obtain ⟨x, s6⟩ := z1
      simp only at HN y5 D1 x0 x1
      have Y5 := Lib.hid y5
      have hout : st.length ≤ 64 := by omega
      have HL := Lib.hid hlen
      clear yy y5 hlen
      have T5 := Lib.hid T.out.drew
      obtain ⟨zz, -, -, cc, -, -, ff⟩ := T.out.cells
      have ff2 := ff 2
      clear T ff
      go_wp2
      have e0 : IntKind.i64.wrap (x - 1) = x - 1 := IntWalk.i64_in _ (by omega)
      go_region_law (first
        | (refine step_append_lies _ rfl (.tmp 20) (.tmp 24) 24 rfl (W1.heap.size + 1) 3 i0 (.int .i64 0) 1 8 Try.underlying24 hI.out.1 hI.out.2.1 hI.out.2.2.1 hI.out.2.2.2 rfl (by decide) v1 st.length (ints st) rfl (own_below T6.out.own1 ((Below.refl _ _).alloc (Nat.le_refl _) _)) ⟨W6.heap.size, 0, none⟩ 1 1 [.int .i64 (x - 1)] rfl rfl (World.news_of_block (heap_alloc_new _ _)) (by intro x hx; simp at hx; subst hx; rfl) (by decide) (by unfold maxLen; omega) (by omega) (by simp; omega) _ rfl ?_; intro g cap w1 ho hg _ _; obtain ⟨k0, k1, D⟩ := T6.out.pushInt _ hg ho; clear ho hg)
        | (go_simp; go_at_call 71; (with_reducible refine (D1.out _ T5.out.rdr).mono ?_); rintro e W6 ⟨rfl, hr, hg⟩; have T6 := Lib.hid (T5.out.read (by decide) hr Y5.out hg); clear hr hg; obtain ⟨z6, -, -, c6, -, -, ff6⟩ := T6.out.cells; have f6 := ff6 2; clear ff6))
      all_goals
        have R : Hid (AnyTok 84 (w.alloc (.cells #[.int .i64 0, .int .i64 0, .slice none 0 0, .int .i64 0, .slice none 0 0] 29)) _ b W1.heap.size (rdInts rWay (j + 1) q3.2).2 q1.1 q2.1 0 (rdInts rWay (j + 1) q3.2).1 []) := (by show AnyTok _ _ _ _ _ _ _ _ _ _ _; rw [HN.out]; exact ⟨_, _, D.out⟩)
        clear D k0 k1 cc ff2 c6 f6 T5 T6 e0
        go_wp2
        go_roundw
        case rel => exact ⟨j + 1, by omega, by go_num, R⟩
        case measure => simp [intOf]; omega
    · obtain rfl : j = n := by omega
      clear hlt hj
      rw [← E4.out] at T
      obtain ⟨st, s5⟩ := stL
      simp only at T E5 HR
      have yy := T.out.bytes
      have y5 : IsBytes q5.2.1 := by rw [E5.out]; exact hK.out _ yy
      have C5 := Lib.hid (fun u h => rnum_w b s5 u h yy)
      have C6 := Lib.hid (fun u h => refrows_any b q5.2 u h y5)
      rw [← E5.out] at C5
      rw [← E6.out] at C6
      have y7 : IsBytes rL.2.1 := by rw [E7.out]; exact rows_bytes rWay rWay_ok _ _ (by rw [E6.out]; exact rWay_ok.bytes 16 _ y5)
      rw [← E7.out] at C6
      obtain ⟨rows, s7⟩ := rL
      simp only at HR y7 C6
      unfold RowsRead at C6
      simp only at C6
      have Y5 := Lib.hid y5
      have Y7 := Lib.hid y7
      clear yy y5 y7 E4 E5 E6 E7 HLN hI
      go_wp2_with (first
        | (go_at_call 55; (with_reducible refine (C5.out _ T.out.rdr).mono ?_); rintro e W5 ⟨rfl, hr, hg⟩; have zx : W1.heap.size < W5.heap.size := (lt_of_heap (T.out.read (by decide) hr Y5.out hg).box); obtain ⟨c0, f0, S5⟩ := T.out.num3 (by decide) q5.1 hr Y5.out hg; have T5 := Lib.hid S5; clear S5 hr hg T)
        | (go_at_call 72; (with_reducible refine (C6.out _ T5.out.rdr).mono ?_); rintro e W6 ⟨v, rfl, hro, hr, hg⟩; clear c0 f0 zx; have T6 := T5.out.read (by decide) hr Y7.out hg; have hro2 := hro.lower (lt_of_heap T5.out.box); obtain ⟨p, c, hv, -⟩ := hro.rows; subst hv; obtain ⟨c0, f0, S6⟩ := T6.putrows hro2; have zx : W1.heap.size < W6.heap.size := lt_of_heap T6.box; obtain ⟨ps, cs, hv1, -⟩ := ints_own T6.own1; subst hv1; obtain ⟨-, k0, k1, k2, k3, -, -⟩ := T6.cells; have T7 := Lib.hid S6; have hz := T6.zero hbw; obtain ⟨y0, d0, d1, d2, d3, d4, gg⟩ := hz.cells; have g0 := gg 0; have g1 := gg 1; have g2 := gg 2; have g3 := gg 3; have g4 := gg 4; clear gg hz S6 T6 hro hro2 hr hg T5))
      refine bodyPost_ret (v := .agg #[.int .i64 q1.1, .int .i64 q2.1, .slice ps st.length cs, .int .i64 q5.1, .slice p rows.length c]) (by simp [results, Try.results56, go_sem, *]) rfl ?_
      obtain ⟨ps', cs', p', c', f1, f2, f3, f4, f5, f6⟩ := T7.out.done hbw (T7.out.zero hbw) (((((grown_set w.heap.size 0 (.int .i64 q1.1)).trans (grown_set w.heap.size 1 (.int .i64 q2.1))).trans (grown_set w.heap.size 2 (.slice ps st.length cs))).trans (grown_set w.heap.size 3 (.int .i64 q5.1))).trans (grown_set w.heap.size 4 (.slice p rows.length c)))
      unfold TokenRead
      rw [HR.out]
      exact ⟨ps, cs, p, c, rfl, (by cases f1; exact f3), (by cases f2; exact f4), f5, f6⟩
end Go.Proofs.Ytnogfhjeckkckaa.Frame
