/-
  The program's readToken: it tells what the plain function of FrmBack reads, and leaves the reader as it says; of what lay when the call began nothing has turned but the reader.
-/
import Derived.Test.YtnogfhjeckkckaaFrmTokSt
import Derived.Test.YtnogfhjeckkckaaFrameBytesAny
namespace Go.Proofs.Ytnogfhjeckkckaa.Frame
open Go.RowKit Codec

/-- What a token's reading tells. -/
def TokenRead (RT : TypeId) (U : Way) (w : World) (b : Nat) (s : St) (e : Ending) (w' : World) : Prop :=
  ∃ ps cs p c, e = .returned (.agg #[.int .i64 (rdToken U s).1.gen, .int .i64 (rdToken U s).1.hop, .slice ps (rdToken U s).1.stamps.length cs, .int .i64 (rdToken U s).1.table.start, .slice p (rdToken U s).1.table.rows.length c]) ∧ IntsS 0 w' ps (rdToken U s).1.stamps ∧ RowsS 0 w' p (rdToken U s).1.table.rows ∧ Rdr RT 5 w' b (rdToken U s).2.1 (rdToken U s).2.2 ∧ w.grownBy w' (some b)

theorem infoR : (Try.prog.info? 52).map (fun i => (i.zero, i.size, i.bytes)) = some (some (.agg #[.int .i64 0, .int .i64 0, .int .i64 0, .slice none 0 0]), 4, 48) := by kernel_rfl
theorem leases_bytes (U : Way) (hU : U.Ok) : ∀ (n : Nat) (s : St), IsBytes s.1 → IsBytes (rdLeases U n s).2.1
  | 0, _, h => h
  | n + 1, s, h => hU.bytes _ _ (hU.bytes _ _ (leases_bytes U hU n s h))
theorem row_bytes (U : Way) (hU : U.Ok) (s : St) (h : IsBytes s.1) : IsBytes (rdRow U s).2.1 :=
  leases_bytes U hU _ _ (hU.bytes _ _ (hU.bytes _ _ (hU.bytes _ _ (hU.bytes _ _ h))))
theorem token_parts' (U : Way) (s : St) : ∃ g h n st t m r, g = rdNum U s ∧ h = rdNum U g.2 ∧ n = U.upto 64 h.2 ∧ st = rdInts U n.1.toNat n.2 ∧ t = rdNum U st.2 ∧ m = U.upto 16 t.2 ∧ r = rdRows U m.1.toNat m.2 ∧ rdToken U s = (⟨g.1, h.1, st.1, ⟨t.1, r.1⟩⟩, r.2) :=
  ⟨_, _, _, _, _, _, _, rfl, rfl, rfl, rfl, rfl, rfl, rfl, rfl⟩

set_option maxRecDepth 100000 in
set_option maxHeartbeats 4000000 in
theorem readtoken_any (b : Nat) (s : St) (w : World) (h : Rdr 95 5 w b s.1 s.2) (hy : IsBytes s.1) :
    Calls Try.prog 68 #[.pointer (some ⟨b, 0, none⟩)] w (TokenRead 95 pWay w b s) := by
  have hIi := info_parts infoI
  obtain ⟨i0, hi, hz0, hz1, hz2⟩ := hIi
  have hI := Lib.hid (And.intro hi (And.intro hz0 (And.intro hz1 hz2)))
  have hIr := info_parts infoR
  obtain ⟨i1, hj, hw0, hw1, hw2⟩ := hIr
  have hJ := Lib.hid (And.intro hj (And.intro hw0 (And.intro hw1 hw2)))
  clear hi hz0 hz1 hz2 hj hw0 hw1 hw2
  have hbw := h.lt
  have T0 := Lib.hid (TokSt.start h hy (.cells #[.int .i64 0, .int .i64 0, .slice none 0 0, .int .i64 0, .slice none 0 0] 29))
  clear h
  have hK : Hid (∀ s : St, IsBytes s.1 → IsBytes (rdNum pWay s).2.1) := fun s h => pWay_ok.bytes _ _ h
  obtain ⟨q1, q2, q3, stL, q5, q6, rL, e1, e2, e3, e4, e5, e6, e7, hR⟩ := token_parts' pWay s
  have y1 : IsBytes q1.2.1 := by rw [e1]; exact hK.out s hy
  have y2 : IsBytes q2.2.1 := by rw [e2]; exact hK.out _ y1
  have y3 : IsBytes q3.2.1 := by rw [e3]; exact pWay_ok.bytes 64 _ y2
  have l3 : 0 ≤ q3.1 := by rw [e3]; exact pWay_ok.low 64 _ y2
  have h3 : q3.1 ≤ 64 := by rw [e3]; exact pWay_ok.high 64 _ (by omega)
  have C1 := Lib.hid (fun u h => pnum_w b s u h hy)
  have C2 := Lib.hid (fun u h => pnum_w b q1.2 u h y1)
  have C3 := Lib.hid (fun u h => pupto_w b q2.2 64 u h y2)
  rw [← e1] at C1
  rw [← e2] at C2
  rw [← e3] at C3
  obtain ⟨n, hn⟩ : ∃ n : Nat, q3.1 = (n : Int) := ⟨q3.1.toNat, by omega⟩
  rw [hn] at e4 C3 l3 h3
  simp only [Int.toNat_natCast] at e4
  have E4 := Lib.hid e4
  have E5 := Lib.hid e5
  have E6 := Lib.hid e6
  have E7 := Lib.hid e7
  have HR := Lib.hid hR
  have Y1 := Lib.hid y1
  have Y2 := Lib.hid y2
  have Y3 := Lib.hid y3
  clear hR y1 y2 y3 hy e1 e2 e3 e4 e5 e6 e7 hn
  go_enter Try.func68, Try.ntmps68
  go_wp2_with (first
    | (go_at_call 67; (with_reducible refine (C1.out _ T0.out.rdr).mono ?_); rintro e u1 ⟨rfl, hr, hg⟩; obtain ⟨c0, f0, S1⟩ := T0.out.num0 (by decide) q1.1 hr Y1.out hg; have T1 := Lib.hid S1; clear S1 hr hg T0)
    | (go_at_call 67; (with_reducible refine (C2.out _ T1.out.rdr).mono ?_); rintro e u2 ⟨rfl, hr, hg⟩; clear c0 f0; obtain ⟨c0, f0, S2⟩ := T1.out.num1 (by decide) q2.1 hr Y2.out hg; have T2 := Lib.hid S2; clear S2 hr hg T1)
    | (go_at_call 76; (with_reducible refine (C3.out _ T2.out.rdr).mono ?_); rintro e u3 ⟨rfl, hr, hg⟩; clear c0 f0; have T3 := Lib.hid (T2.out.read (by decide) hr Y3.out hg); clear hr hg T2))
  clear C1 C2 C3 Y1 Y2 Y3
  have HLN := Lib.hid (len_rdInts pWay)
  have HLR := Lib.hid (len_rdRows pWay)
  go_loopw [12] (fun i wr => ∃ j : Nat, j ≤ n ∧ i = .int .i64 (j : Int) ∧ Hid (AnyTok 95 (w.alloc (.cells #[.int .i64 0, .int .i64 0, .slice none 0 0, .int .i64 0, .slice none 0 0] 29)) wr b (w.heap.size + 1) (rdInts pWay j q3.2).2 q1.1 q2.1 0 (rdInts pWay j q3.2).1 [])) (fun i _ => n - (intOf i).toNat)
  case atStart => exact ⟨0, by omega, rfl, ⟨_, _, T3.out⟩⟩
  case round =>
    clear T3
    obtain ⟨j, hj, rfl, hS⟩ := hrel
    obtain ⟨v1, v2, S⟩ := hS.out
    have T := Lib.hid S
    clear hS S
    by_cases hlt : j < n
    · have hlen : (rdInts pWay j q3.2).1.length = j := HLN.out j q3.2
      have HN : Hid (rdInts pWay (j + 1) q3.2 = ((rdInts pWay j q3.2).1 ++ [(rdNum pWay (rdInts pWay j q3.2).2).1 - 1], (rdNum pWay (rdInts pWay j q3.2).2).2)) := rfl
      generalize rdInts pWay j q3.2 = L at T hlen HN
      obtain ⟨st, s5⟩ := L
      simp only at T hlen HN
      have yy := T.out.bytes
      have y5 := hK.out s5 yy
      have x0 : 0 ≤ (rdNum pWay s5).1 := pWay_ok.low _ _ yy
      have x1 : (rdNum pWay s5).1 ≤ 4611686018427387904 := pWay_ok.high most s5 (by unfold most; omega)
      have D1 := Lib.hid (fun u h => pnum_w b s5 u h yy)
      generalize rdNum pWay s5 = z1 at HN y5 D1 x0 x1
      obtain ⟨x, s6⟩ := z1
      simp only at HN y5 D1 x0 x1
      have Y5 := Lib.hid y5
      have hout : st.length ≤ 64 := by omega
      have HL := Lib.hid hlen
      clear yy y5 hlen
      have T5 := Lib.hid T.out.drew
      obtain ⟨zz, -, -, cc, -, -, ff⟩ := T.out.cells
      have ff2 := ff 2
      clear T ff
      go_wp2
      have e0 : IntKind.i64.wrap (x - 1) = x - 1 := IntWalk.i64_in _ (by omega)
      go_region_law (first
        | (refine step_append_lies _ rfl (.tmp 15) (.tmp 19) 24 rfl (w.heap.size + 1 + 1) 3 i0 (.int .i64 0) 1 8 Try.underlying24 hI.out.1 hI.out.2.1 hI.out.2.2.1 hI.out.2.2.2 rfl (by decide) v1 st.length (ints st) rfl (own_below T6.out.own1 ((Below.refl _ _).alloc (Nat.le_refl _) _)) ⟨u6.heap.size, 0, none⟩ 1 1 [.int .i64 (x - 1)] rfl rfl (World.news_of_block (heap_alloc_new _ _)) (by intro x hx; simp at hx; subst hx; rfl) (by decide) (by unfold maxLen; omega) (by omega) (by simp; omega) _ rfl ?_; intro g cap w1 ho hg _ _; obtain ⟨k0, k1, D⟩ := T6.out.pushInt _ hg ho; clear ho hg)
        | (go_simp; go_at_call 67; (with_reducible refine (D1.out _ T5.out.rdr).mono ?_); rintro e u6 ⟨rfl, hr, hg⟩; have T6 := Lib.hid (T5.out.read (by decide) hr Y5.out hg); clear hr hg; obtain ⟨z6, -, -, c6, -, -, ff6⟩ := T6.out.cells; have f6 := ff6 2; clear ff6))
      all_goals
        have R : Hid (AnyTok 95 (w.alloc (.cells #[.int .i64 0, .int .i64 0, .slice none 0 0, .int .i64 0, .slice none 0 0] 29)) _ b (w.heap.size + 1) (rdInts pWay (j + 1) q3.2).2 q1.1 q2.1 0 (rdInts pWay (j + 1) q3.2).1 []) := (by show AnyTok _ _ _ _ _ _ _ _ _ _ _; rw [HN.out]; exact ⟨_, _, D.out⟩)
        clear D k0 k1 cc ff2 c6 f6 T5 T6 e0
        go_wp2
        go_roundw
        case rel => exact ⟨j + 1, by omega, by go_num, R⟩
        case measure => simp [intOf]; omega
    · obtain rfl : j = n := by omega
      clear hlt hj
      rw [← E4.out] at T
      obtain ⟨st, s5⟩ := stL
      simp only at T E5 HR
      have yy := T.out.bytes
      have y5 : IsBytes q5.2.1 := by rw [E5.out]; exact hK.out _ yy
      have y6 : IsBytes q6.2.1 := by rw [E6.out]; exact pWay_ok.bytes 16 _ y5
      have l6 : 0 ≤ q6.1 := by rw [E6.out]; exact pWay_ok.low 16 _ y5
      have h6 : q6.1 ≤ 16 := by rw [E6.out]; exact pWay_ok.high 16 _ (by omega)
      have C5 := Lib.hid (fun u h => pnum_w b s5 u h yy)
      have C6 := Lib.hid (fun u h => pupto_w b q5.2 16 u h y5)
      rw [← E5.out] at C5
      rw [← E6.out] at C6
      obtain ⟨m, hm⟩ : ∃ m : Nat, q6.1 = (m : Int) := ⟨q6.1.toNat, by omega⟩
      have e7 := E7.out
      rw [hm, Int.toNat_natCast] at e7
      rw [hm] at C6 l6 h6
      have E8 := Lib.hid e7
      have Y5 := Lib.hid y5
      have Y6 := Lib.hid y6
      clear yy y5 y6 e7 hm E4 E5 E6 E7 HLN hI
      go_wp2_with (first
        | (go_at_call 67; (with_reducible refine (C5.out _ T.out.rdr).mono ?_); rintro e u5 ⟨rfl, hr, hg⟩; obtain ⟨c0, f0, S5⟩ := T.out.num3 (by decide) q5.1 hr Y5.out hg; have T5 := Lib.hid S5; clear S5 hr hg T)
        | (go_at_call 76; (with_reducible refine (C6.out _ T5.out.rdr).mono ?_); rintro e u6 ⟨rfl, hr, hg⟩; clear c0 f0; have T6 := Lib.hid (T5.out.read (by decide) hr Y6.out hg); clear hr hg T5))
      clear C5 C6 Y5 Y6
      go_loopw [29] (fun i wr => ∃ j : Nat, j ≤ m ∧ i = .int .i64 (j : Int) ∧ Hid (AnyTok 95 (w.alloc (.cells #[.int .i64 0, .int .i64 0, .slice none 0 0, .int .i64 0, .slice none 0 0] 29)) wr b (w.heap.size + 1) (rdRows pWay j q6.2).2 q1.1 q2.1 q5.1 st (rdRows pWay j q6.2).1)) (fun i _ => m - (intOf i).toNat)
      case atStart => exact ⟨0, by omega, rfl, ⟨_, _, T6.out⟩⟩
      case round =>
        clear T6
        obtain ⟨j, hj, rfl, hS⟩ := hrel
        obtain ⟨v1, v2, S⟩ := hS.out
        have T := Lib.hid S
        clear hS S
        by_cases hlt : j < m
        · have hlen : (rdRows pWay j q6.2).1.length = j := HLR.out j q6.2
          have HN : Hid (rdRows pWay (j + 1) q6.2 = ((rdRows pWay j q6.2).1 ++ [(rdRow pWay (rdRows pWay j q6.2).2).1], (rdRow pWay (rdRows pWay j q6.2).2).2)) := rfl
          generalize rdRows pWay j q6.2 = L at T hlen HN
          obtain ⟨rows, s7⟩ := L
          simp only at T hlen HN
          have yy := T.out.bytes
          have y7 := row_bytes pWay pWay_ok s7 yy
          have D1 := Lib.hid (fun u h => readrow_any b s7 u h yy)
          unfold RowRead at D1
          generalize rdRow pWay s7 = z1 at HN y7 D1
          obtain ⟨r, s8⟩ := z1
          simp only at HN y7 D1
          have Y7 := Lib.hid y7
          have hout : rows.length ≤ 16 := by omega
          have HL := Lib.hid hlen
          clear yy y7 hlen
          have T5 := Lib.hid T.out.drew
          obtain ⟨zz, -, -, -, -, cc, ff⟩ := T.out.cells
          have ff2 := ff 4
          clear T ff
          go_wp2
          go_region_law (first
            | (refine step_append_lies _ rfl (.tmp 33) (.tmp 36) 25 rfl (w.heap.size + 1 + 1) 52 i1 (.agg #[.int .i64 0, .int .i64 0, .int .i64 0, .slice none 0 0]) 4 48 Try.underlying25 hJ.out.1 hJ.out.2.1 hJ.out.2.2.1 hJ.out.2.2.2 rfl (by decide) v2 rows.length xs rfl (own_below X6.out.1 ((Below.refl _ _).alloc (Nat.le_refl _) _)) ⟨u6.heap.size, 0, none⟩ 1 1 [.int .i64 r.key, .int .i64 r.avail, .int .i64 r.mark, .slice p r.out.length c2] rfl rfl (World.news_of_block (heap_alloc_new _ _)) (by intro x hx; simp at hx; rcases hx with rfl | rfl | rfl | rfl <;> rfl) (by decide) (by unfold maxLen; omega) (by omega) (by simp; omega) _ rfl ?_; intro g cap w1 ho hg _ _; obtain ⟨k0, k1, D⟩ := T6.out.pushRow _ X6.out.2.2 X6.out.1 X6.out.2.1 hg ho; clear ho hg)
            | (go_simp; go_at_call 77; (with_reducible refine (D1.out _ T5.out.rdr).mono ?_); rintro e u6 ⟨p, c2, rfl, hl, hr, hg⟩; have T6 := Lib.hid (T5.out.read (by decide) hr Y7.out hg); clear hr hg; obtain ⟨z6, -, -, -, -, c6, ff6⟩ := T6.out.cells; have f6 := ff6 4; clear ff6; obtain ⟨xs, h1, h2⟩ := T6.out.own2; have X6 := Lib.hid (And.intro h1 (And.intro h2 hl)); clear h1 h2 hl))
          all_goals
            have R : Hid (AnyTok 95 (w.alloc (.cells #[.int .i64 0, .int .i64 0, .slice none 0 0, .int .i64 0, .slice none 0 0] 29)) _ b (w.heap.size + 1) (rdRows pWay (j + 1) q6.2).2 q1.1 q2.1 q5.1 st (rdRows pWay (j + 1) q6.2).1) := (by show AnyTok _ _ _ _ _ _ _ _ _ _ _; rw [HN.out]; exact ⟨_, _, D.out⟩)
            clear D k0 k1 cc ff2 c6 f6 T5 T6 X6
            go_wp2
            go_roundw
            case rel => exact ⟨j + 1, by omega, by go_num, R⟩
            case measure => simp [intOf]; omega
        · obtain rfl : j = m := by omega
          rw [← E8.out] at T
          obtain ⟨rows, s7⟩ := rL
          simp only at T HR
          obtain ⟨ps, cs, e1, -⟩ := ints_own T.out.own1
          obtain ⟨p, c, e2, -⟩ := T.out.own2.rows
          subst e1
          subst e2
          obtain ⟨z0, c0, c1, c2, c3, c4, -⟩ := T.out.cells
          have hz := T.out.zero hbw
          obtain ⟨y0, d0, d1, d2, d3, d4, gg⟩ := hz.cells
          have HZ := Lib.hid hz
          clear hz
          have g0 := gg 0
          have g1 := gg 1
          have g2 := gg 2
          have g3 := gg 3
          have g4 := gg 4
          clear gg
          go_wp2
          refine bodyPost_ret (v := .agg #[.int .i64 q1.1, .int .i64 q2.1, .slice ps st.length cs, .int .i64 q5.1, .slice p rows.length c]) (by simp [results, Try.results68, go_sem, *]) rfl ?_
          obtain ⟨ps', cs', p', c', f1, f2, f3, f4, f5, f6⟩ := T.out.done hbw HZ.out (((((grown_set (w := wr) w.heap.size 0 (.int .i64 q1.1)).trans (grown_set w.heap.size 1 (.int .i64 q2.1))).trans (grown_set w.heap.size 2 (.slice ps st.length cs))).trans (grown_set w.heap.size 3 (.int .i64 q5.1))).trans (grown_set w.heap.size 4 (.slice p rows.length c)))
          unfold TokenRead
          rw [HR.out]
          exact ⟨ps, cs, p, c, rfl, (by cases f1; exact f3), (by cases f2; exact f4), f5, f6⟩
end Go.Proofs.Ytnogfhjeckkckaa.Frame
