/-
  The program's readRow: it tells what the plain function of FrmBack reads, and leaves the reader as it says; of what lay when the call began nothing has turned but the reader.
-/
import Derived.Test.YtnogfhjeckkckaaFrmRowSt
import Derived.Deep.AppendLies
namespace Go.Proofs.Ytnogfhjeckkckaa.Frame
open Go.RowKit Codec

theorem pnum_w (b : Nat) (s : St) (w : World) (h : Rdr 95 5 w b s.1 s.2) (hy : IsBytes s.1) :
    Calls Try.prog 67 #[.pointer (some ⟨b, 0, none⟩)] w (Step 95 5 w b (rdNum pWay s).2 (.int .i64 (rdNum pWay s).1)) := pnum_any b s w h hy
theorem pupto_w (b : Nat) (s : St) (m : Int) (w : World) (h : Rdr 95 5 w b s.1 s.2) (hy : IsBytes s.1) :
    Calls Try.prog 76 #[.pointer (some ⟨b, 0, none⟩), .int .i64 m] w (Step 95 5 w b (pWay.upto m s).2 (.int .i64 (pWay.upto m s).1)) := pupto_any b s m w h hy

/-- What a row's reading tells. -/
def RowRead (RT : TypeId) (U : Way) (w : World) (b : Nat) (s : St) (e : Ending) (w' : World) : Prop :=
  ∃ p c, e = .returned (.agg #[.int .i64 (rdRow U s).1.key, .int .i64 (rdRow U s).1.avail, .int .i64 (rdRow U s).1.mark, .slice p (rdRow U s).1.out.length c]) ∧ LeasesS 0 w' p (rdRow U s).1.out ∧ Rdr RT 5 w' b (rdRow U s).2.1 (rdRow U s).2.2 ∧ w.grownBy w' (some b)

theorem infoL : (Try.prog.info? 49).map (fun i => (i.zero, i.size, i.bytes)) = some (some (.agg #[.int .i64 0, .int .i64 0]), 2, 16) := by kernel_rfl
theorem RowSt.start {RT : TypeId} {w : World} {b : Nat} {s : St} (h : Rdr RT 5 w b s.1 s.2) (hy : IsBytes s.1) (o : Obj) :
    RowSt RT (w.alloc o) ((w.alloc o).alloc (.cells #[.int .i64 0, .int .i64 0, .int .i64 0, .slice none 0 0] 52)) b (w.heap.size + 1) s 0 0 0 (.slice none 0 0) [] := by
  have h1 : Below w.heap.size w (w.alloc o) := (Below.refl _ _).alloc (Nat.le_refl _) _
  have hs : (w.alloc o).heap.size = w.heap.size + 1 := by simp
  have hr := h.below h1
  refine ⟨hr.below ((Below.refl _ _).alloc (Nat.le_refl _) _), hy, grown_alloc (grown_self b) _, hr.lt, by omega, ?_, World.ownsRow_nil _ _ _ _⟩
  have := heap_alloc_new (w.alloc o) (.cells #[.int .i64 0, .int .i64 0, .int .i64 0, .slice none 0 0] 52)
  rw [hs] at this
  exact this

/-- Behind each of the first numbers. -/
theorem RowSt.num0 {RT : TypeId} {w wr u : World} {b X : Nat} {s s' : St} {k a m x : Int} {v : Value} {out : List (Int × Int)} (S : RowSt RT w wr b X s k a m v out) (hr : Rdr RT 5 u b s'.1 s'.2) (hy : IsBytes s'.1) (hg : wr.grownBy u (some b)) :
    u.cell? ⟨X, 0, none⟩ = some (.int .i64 k) ∧ u.frozen? ⟨X, 0, none⟩ = false ∧ RowSt RT w (u.setCell ⟨X, 0, none⟩ (.int .i64 x)) b X s' x a m v out :=
  have T := S.read hr hy hg
  ⟨T.cells.2.1, T.cells.2.2.2.2.2.1, T.put 0 _ x a m rfl⟩
theorem RowSt.num1 {RT : TypeId} {w wr u : World} {b X : Nat} {s s' : St} {k a m x : Int} {v : Value} {out : List (Int × Int)} (S : RowSt RT w wr b X s k a m v out) (hr : Rdr RT 5 u b s'.1 s'.2) (hy : IsBytes s'.1) (hg : wr.grownBy u (some b)) :
    u.cell? ⟨X, 1, none⟩ = some (.int .i64 a) ∧ u.frozen? ⟨X, 1, none⟩ = false ∧ RowSt RT w (u.setCell ⟨X, 1, none⟩ (.int .i64 x)) b X s' k x m v out :=
  have T := S.read hr hy hg
  ⟨T.cells.2.2.1, T.cells.2.2.2.2.2.2.1, T.put 1 _ k x m rfl⟩
theorem RowSt.num2 {RT : TypeId} {w wr u : World} {b X : Nat} {s s' : St} {k a m x : Int} {v : Value} {out : List (Int × Int)} (S : RowSt RT w wr b X s k a m v out) (hr : Rdr RT 5 u b s'.1 s'.2) (hy : IsBytes s'.1) (hg : wr.grownBy u (some b)) :
    u.cell? ⟨X, 2, none⟩ = some (.int .i64 m) ∧ u.frozen? ⟨X, 2, none⟩ = false ∧ RowSt RT w (u.setCell ⟨X, 2, none⟩ (.int .i64 x)) b X s' k a x v out :=
  have T := S.read hr hy hg
  ⟨T.cells.2.2.2.1, T.cells.2.2.2.2.2.2.2.1, T.put 2 _ k a x rfl⟩

set_option maxRecDepth 100000 in
set_option maxHeartbeats 4000000 in
theorem readrow_any (b : Nat) (s : St) (w : World) (h : Rdr 95 5 w b s.1 s.2) (hy : IsBytes s.1) :
    Calls Try.prog 77 #[.pointer (some ⟨b, 0, none⟩)] w (RowRead 95 pWay w b s) := by
  obtain ⟨i0, hi, hz0, hz1, hz2⟩ := info_parts infoL
  have hbw := h.lt
  have T0 := Lib.hid (RowSt.start h hy (.cells #[.int .i64 0, .int .i64 0, .int .i64 0, .slice none 0 0] 52))
  clear h
  have hK : Hid (∀ s : St, IsBytes s.1 → IsBytes (rdNum pWay s).2.1) := fun s h => pWay_ok.bytes _ _ h
  have hR : rdRow pWay s = (⟨(rdNum pWay s).1, (rdNum pWay (rdNum pWay s).2).1, (rdNum pWay (rdNum pWay (rdNum pWay s).2).2).1, (rdLeases pWay (pWay.upto 64 (rdNum pWay (rdNum pWay (rdNum pWay s).2).2).2).1.toNat (pWay.upto 64 (rdNum pWay (rdNum pWay (rdNum pWay s).2).2).2).2).1⟩, (rdLeases pWay (pWay.upto 64 (rdNum pWay (rdNum pWay (rdNum pWay s).2).2).2).1.toNat (pWay.upto 64 (rdNum pWay (rdNum pWay (rdNum pWay s).2).2).2).2).2) := rfl
  have y1 := hK.out s hy
  have C1 := Lib.hid (fun u h => pnum_w b s u h hy)
  generalize rdNum pWay s = q1 at hR y1 C1
  have y2 := hK.out q1.2 y1
  have C2 := Lib.hid (fun u h => pnum_w b q1.2 u h y1)
  generalize rdNum pWay q1.2 = q2 at hR y2 C2
  have y3 := hK.out q2.2 y2
  have C3 := Lib.hid (fun u h => pnum_w b q2.2 u h y2)
  generalize rdNum pWay q2.2 = q3 at hR y3 C3
  have y4 := pWay_ok.bytes 64 _ y3
  have l4 := pWay_ok.low 64 _ y3
  have h4 := pWay_ok.high 64 q3.2 (by omega)
  have C4 := Lib.hid (fun u h => pupto_w b q3.2 64 u h y3)
  generalize pWay.upto 64 q3.2 = q4 at hR y4 l4 h4 C4
  obtain ⟨n4, s4⟩ := q4
  simp only at hR y4 l4 h4 C4
  obtain ⟨n, hn⟩ : ∃ n : Nat, n4 = (n : Int) := ⟨n4.toNat, by omega⟩
  subst hn
  simp only [Int.toNat_natCast] at hR
  have HR := Lib.hid hR
  have Y1 := Lib.hid y1
  have Y2 := Lib.hid y2
  have Y3 := Lib.hid y3
  have Y4 := Lib.hid y4
  have hI := Lib.hid (And.intro hi (And.intro hz0 (And.intro hz1 hz2)))
  clear hR y1 y2 y3 y4 hy hi hz0 hz1 hz2
  go_enter Try.func77, Try.ntmps77
  go_wp2_with (first
    | (go_at_call 67; (with_reducible refine (C1.out _ T0.out.rdr).mono ?_); rintro e u1 ⟨rfl, hr, hg⟩; obtain ⟨c0, f0, S1⟩ := T0.out.num0 (x := q1.1) hr Y1.out hg; have T1 := Lib.hid S1; clear S1 hr hg T0)
    | (go_at_call 67; (with_reducible refine (C2.out _ T1.out.rdr).mono ?_); rintro e u2 ⟨rfl, hr, hg⟩; clear c0 f0; obtain ⟨c0, f0, S2⟩ := T1.out.num1 (x := q2.1) hr Y2.out hg; have T2 := Lib.hid S2; clear S2 hr hg T1)
    | (go_at_call 67; (with_reducible refine (C3.out _ T2.out.rdr).mono ?_); rintro e u3 ⟨rfl, hr, hg⟩; clear c0 f0; obtain ⟨c0, f0, S3⟩ := T2.out.num2 (x := q3.1) hr Y3.out hg; have T3 := Lib.hid S3; clear S3 hr hg T2)
    | (go_at_call 76; (with_reducible refine (C4.out _ T3.out.rdr).mono ?_); rintro e u4 ⟨rfl, hr, hg⟩; clear c0 f0; have T4 := Lib.hid (T3.out.read hr Y4.out hg); clear hr hg T3))
  clear C1 C2 C3 C4 Y1 Y2 Y3 Y4
  have l1 := len_rdLeases pWay
  have HLN := Lib.hid l1
  clear l1
  go_loopw [16] (fun i wr => ∃ j : Nat, j ≤ n ∧ i = .int .i64 (j : Int) ∧ Hid (AnyRow 95 (w.alloc (.cells #[.int .i64 0, .int .i64 0, .int .i64 0, .slice none 0 0] 52)) wr b (w.heap.size + 1) (rdLeases pWay j s4).2 q1.1 q2.1 q3.1 (rdLeases pWay j s4).1)) (fun i _ => n - (intOf i).toNat)
  case atStart => exact ⟨0, by omega, rfl, ⟨_, T4.out⟩⟩
  case round =>
    obtain ⟨j, hj, rfl, hS⟩ := hrel
    obtain ⟨v, S⟩ := hS.out
    have T := Lib.hid S
    clear hS S
    by_cases hlt : j < n
    · have hlen : (rdLeases pWay j s4).1.length = j := HLN.out j s4
      have HN : Hid (rdLeases pWay (j + 1) s4 = ((rdLeases pWay j s4).1 ++ [((rdNum pWay (rdLeases pWay j s4).2).1, (rdNum pWay (rdNum pWay (rdLeases pWay j s4).2).2).1)], (rdNum pWay (rdNum pWay (rdLeases pWay j s4).2).2).2)) := rfl
      generalize rdLeases pWay j s4 = L at T hlen HN
      obtain ⟨out, s5⟩ := L
      simp only at T hlen HN
      have yy := T.out.bytes
      have y5 := hK.out s5 yy
      have D1 := Lib.hid (fun u h => pnum_w b s5 u h yy)
      generalize rdNum pWay s5 = z1 at HN y5 D1
      have y6 := hK.out z1.2 y5
      have D2 := Lib.hid (fun u h => pnum_w b z1.2 u h y5)
      generalize rdNum pWay z1.2 = z2 at HN y6 D2
      obtain ⟨x1, s6⟩ := z1
      obtain ⟨x2, s7⟩ := z2
      simp only at HN y5 y6 D1 D2
      have Y5 := Lib.hid y5
      have Y6 := Lib.hid y6
      have HL := Lib.hid hlen
      have hout : out.length ≤ 64 := by omega
      clear yy y5 y6 hlen
      go_wp2_with (go_at_call 67; (with_reducible refine (D1.out _ T.out.rdr).mono ?_); rintro e u5 ⟨rfl, hr, hg⟩; have T5 := Lib.hid (T.out.read hr Y5.out hg); clear hr hg T)
      clear D1 Y5
      obtain ⟨z5, -, -, -, c5, -, -, -, f5⟩ := T5.out.cells
      have T5d := Lib.hid T5.out.drew
      clear T5
      go_region_law (first
        | (refine step_append_lies _ rfl (.tmp 21) (.tmp 26) 50 rfl (w.heap.size + 1 + 1) 49 i0 (.agg #[.int .i64 0, .int .i64 0]) 2 16 Try.underlying50 hI.out.1 hI.out.2.1 hI.out.2.2.1 hI.out.2.2.2 rfl (by decide) v out.length (leaseCells out) rfl (own_below T6.out.own ((Below.refl _ _).alloc (Nat.le_refl _) _)) ⟨u6.heap.size, 0, none⟩ 1 1 [.int .i64 x1, .int .i64 x2] rfl rfl (World.news_of_block (heap_alloc_new _ _)) (by intro x hx; simp at hx; rcases hx with rfl | rfl <;> rfl) (by decide) (by unfold maxLen; omega) (by omega) (by simp; omega) _ rfl ?_; intro g cap w1 ho hg _ _; obtain ⟨k0, k1, D⟩ := T6.out.push _ hg ho; clear ho hg)
        | (go_simp; go_at_call 67; (with_reducible refine (D2.out _ T5d.out.rdr).mono ?_); rintro e u6 ⟨rfl, hr, hg⟩; have T6 := Lib.hid (T5d.out.read hr Y6.out hg); clear hr hg; obtain ⟨z6, -, -, -, c6, -, -, -, f6⟩ := T6.out.cells))
      all_goals
        have R : Hid (AnyRow 95 (w.alloc (.cells #[.int .i64 0, .int .i64 0, .int .i64 0, .slice none 0 0] 52)) _ b (w.heap.size + 1) (rdLeases pWay (j + 1) s4).2 q1.1 q2.1 q3.1 (rdLeases pWay (j + 1) s4).1) := (by show AnyRow _ _ _ _ _ _ _ _ _ _; rw [HN.out]; exact ⟨_, D.out⟩)
        clear D k0 k1 c5 f5 c6 f6 T5d T6
        go_wp2
        go_roundw
        case rel => exact ⟨j + 1, by omega, by go_num, R⟩
        case measure => simp [intOf]; omega
    · obtain rfl : j = n := by omega
      generalize rdLeases pWay j s4 = L at T HR
      obtain ⟨out, s5⟩ := L
      simp only at T HR
      obtain ⟨p, c, rfl⟩ := own_slice T.out.own
      obtain ⟨z0, c0, c1, c2, c3, -, -, -, -⟩ := T.out.cells
      have hz := T.out.zero hbw
      obtain ⟨y0, d0, d1, d2, d3, g0, g1, g2, g3⟩ := hz.cells
      have HZ := Lib.hid hz
      clear hz
      go_wp2
      refine bodyPost_ret (v := .agg #[.int .i64 q1.1, .int .i64 q2.1, .int .i64 q3.1, .slice p out.length c]) (by simp [results, Try.results77, go_sem, *]) rfl ?_
      obtain ⟨p', c', e1, e2, e3, e4⟩ := T.out.done hbw HZ.out ((((grown_set (w := wr) w.heap.size 0 (.int .i64 q1.1)).trans (grown_set w.heap.size 1 (.int .i64 q2.1))).trans (grown_set w.heap.size 2 (.int .i64 q3.1))).trans (grown_set w.heap.size 3 (.slice p out.length c)))
      unfold RowRead
      rw [HR.out]
      exact ⟨p, c, rfl, (by cases e1; exact e2), e3, e4⟩
end Go.Proofs.Ytnogfhjeckkckaa.Frame
