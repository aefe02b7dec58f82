/-
  The document's rows: it tells what the plain function of FrmBack reads, and leaves the reader as it says; of what lay when the call began nothing has turned but the reader.
-/
import Derived.Test.YtnogfhjeckkckaaFrmReadTok
import Derived.Test.YtnogfhjeckkckaaCodecRefReads
namespace Go.Proofs.Ytnogfhjeckkckaa.Frame
open Go.RowKit Codec

theorem rnum_w (b : Nat) (s : St) (w : World) (h : Rdr 84 5 w b s.1 s.2) (hy : IsBytes s.1) :
    Calls Try.prog 55 #[.pointer (some ⟨b, 0, none⟩)] w (Step 84 5 w b (rdNum rWay s).2 (.int .i64 (rdNum rWay s).1)) := rnum_any b s w h hy
theorem rupto_w (b : Nat) (s : St) (m : Int) (w : World) (h : Rdr 84 5 w b s.1 s.2) (hy : IsBytes s.1) (hm0 : -9223372036854775808 ≤ m) (hm1 : m ≤ 9223372036854775807) :
    Calls Try.prog 71 #[.pointer (some ⟨b, 0, none⟩), .int .i64 m] w (Step 84 5 w b (rWay.upto m s).2 (.int .i64 (rWay.upto m s).1)) := rupto_any b s m w h hy hm0 hm1

/-- What the reading of rows tells. -/
def RowsRead (RT : TypeId) (w : World) (b : Nat) (r : List Rw × St) (e : Ending) (w' : World) : Prop :=
  ∃ v, e = .returned v ∧ RowsOwn w.heap.size w' v r.1 ∧ Rdr RT 5 w' b r.2.1 r.2.2 ∧ w.grownBy w' (some b)
/-- While rows are read. -/
structure OutSt (RT : TypeId) (w wr : World) (b : Nat) (s : St) (v : Value) (rows : List Rw) : Prop where
  rdr : Rdr RT 5 wr b s.1 s.2
  bytes : IsBytes s.1
  grown : w.grownBy wr (some b)
  low : b < w.heap.size
  own : RowsOwn w.heap.size wr v rows
theorem OutSt.read {RT : TypeId} {w wr u : World} {b : Nat} {s s' : St} {v : Value} {rows : List Rw} (S : OutSt RT w wr b s v rows) (hRT : RT ≠ 49) (hr : Rdr RT 5 u b s'.1 s'.2) (hy : IsBytes s'.1) (hg : wr.grownBy u (some b)) : OutSt RT w u b s' v rows :=
  ⟨hr, hy, S.grown.trans hg, S.low, S.own.keep hg S.low (rdr_stays S.rdr hRT hg)⟩
/-- A row's box is laid. -/
theorem RowSt.lay {RT : TypeId} {u : World} {b : Nat} {s : St} (hr : Rdr RT 5 u b s.1 s.2) (hy : IsBytes s.1) (k : Int) :
    RowSt RT u (u.alloc (.cells #[.int .i64 k, .int .i64 0, .int .i64 0, .slice none 0 0] 52)) b u.heap.size s k 0 0 (.slice none 0 0) [] :=
  ⟨hr.below ((Below.refl _ _).alloc (Nat.le_refl _) _), hy, grown_alloc (grown_self b) _, hr.lt, Nat.le_refl _, heap_alloc_new _ _, World.ownsRow_nil _ _ _ _⟩
/-- A lease's box: what is known of it behind the next number. -/
theorem RowSt.ybox {RT : TypeId} {w u u2 : World} {b X : Nat} {s s' : St} {k a m x y : Int} {v : Value} {out : List (Int × Int)} (S : RowSt RT w u b X s k a m v out)
    (hr : Rdr RT 5 u2 b s'.1 s'.2) (hy : IsBytes s'.1) (hg : (u.alloc (.cells #[.int .i64 x, .int .i64 0] 49)).grownBy u2 (some b)) :
    u.heap.size < u2.heap.size ∧ u2.cell? ⟨u.heap.size, 0, none⟩ = some (.int .i64 x) ∧ u2.cell? ⟨u.heap.size, 1, none⟩ = some (.int .i64 0) ∧ u2.frozen? ⟨u.heap.size, 1, none⟩ = false ∧ X < u2.heap.size ∧ X ≠ u.heap.size ∧ u2.cell? ⟨X, 3, none⟩ = some v ∧
      Hid (RowSt RT w (u2.setCell ⟨u.heap.size, 1, none⟩ (.int .i64 y)) b X s' k a m v out) ∧
      Hid (((u2.setCell ⟨u.heap.size, 1, none⟩ (.int .i64 y)).alloc (.cells #[.int .i64 x, .int .i64 y] 49)).heap[u2.heap.size]? = some (.cells #[.int .i64 x, .int .i64 y] 49 (0, 0))) := by
  have h0 : Below u.heap.size u (u.alloc (.cells #[.int .i64 x, .int .i64 0] 49)) := (Below.refl _ _).alloc (Nat.le_refl _) _
  have S1 := S.below h0
  have S2 := S1.read hr hy hg
  have hb : b < u.heap.size := S.rdr.lt
  have hX : X < u.heap.size := lt_of_heap S.box
  have hY : u2.heap[u.heap.size]? = some (.cells #[.int .i64 x, .int .i64 0] 49 (0, 0)) := (hg.block _ (by simp) (by simp; omega)).trans (heap_alloc_new u _)
  have hv : v.ownBlock ≠ some u.heap.size := fun e => by
    have := (S.own.lt _ e).2
    omega
  refine ⟨lt_of_heap hY, by rw [cell_of_row _ _ 0 _ _ _ hY]; rfl, by rw [cell_of_row _ _ 1 _ _ _ hY]; rfl, frozen_of hY, lt_of_heap S2.box, by omega, S2.cells.2.2.2.2.1, S2.aside 1 _ hY (by decide) hX hv, ?_⟩
  have := heap_alloc_new (u2.setCell ⟨u.heap.size, 1, none⟩ (.int .i64 y)) (.cells #[.int .i64 x, .int .i64 y] 49)
  have hs : (u2.setCell ⟨u.heap.size, 1, none⟩ (.int .i64 y)).heap.size = u2.heap.size := by simp [World.setCell]
  rw [hs] at this
  exact this
/-- A row is appended to the rows. -/
theorem OutSt.push {RT : TypeId} {w wr u w3 : World} {b X : Nat} {s s' : St} {v vl : Value} {rows : List Rw} {k a m : Int} {out : List (Int × Int)} {xs : List Value} {p : Option Addr} {c q cap : Nat} (o : Obj)
    (S : OutSt RT w wr b s v rows) (hwu : wr.grownBy u (some b)) (T : RowSt RT wr u b X s' k a m vl out) (hvl : vl = .slice p out.length c) (hx : u.ownsRow w.heap.size 52 4 v rows.length xs)
    (hxs : ∀ j, j < rows.length → ∃ p c, xs[j * 4]? = some (.int .i64 (rows.getD j noRow).key) ∧ xs[j * 4 + 1]? = some (.int .i64 (rows.getD j noRow).avail) ∧ xs[j * 4 + 2]? = some (.int .i64 (rows.getD j noRow).mark) ∧ xs[j * 4 + 3]? = some (.slice p (rows.getD j noRow).out.length c) ∧ LeasesS 0 u p (rows.getD j noRow).out)
    (hg : (u.alloc o).grownBy w3 v.ownBlock) (ho : w3.ownsRow w.heap.size 52 4 (.slice (some ⟨q, 0, none⟩) (rows.length + 1) cap) (rows.length + 1) (xs ++ [.int .i64 k, .int .i64 a, .int .i64 m, .slice p out.length c])) :
    OutSt RT w w3 b s' (.slice (some ⟨q, 0, none⟩) (rows.length + 1) cap) (rows ++ [⟨k, a, m, out⟩]) := by
  have h0 : Below u.heap.size u (u.alloc o) := (Below.refl _ _).alloc (Nat.le_refl _) _
  have hown0 := own_below hx h0
  have hlow := S.low
  have hb3 : w3.heap[b]? = u.heap[b]? := (hg.block _ (Nat.lt_of_lt_of_le T.rdr.lt h0.size) (own_off hown0 hlow)).trans (h0.block _ T.rdr.lt)
  have stL : Stays 49 u w3 := (Stays.below h0).trans (own_stays_other hown0 hg (by decide))
  obtain ⟨p', c', e1, hl⟩ := leases_own T.own
  rw [hvl] at e1
  simp only [Value.slice.injEq] at e1
  rw [← e1.1] at hl
  have hlen : xs.length = rows.length * 4 := hx.1
  refine ⟨T.rdr.keep ((Stays.below h0).trans (own_stays_other hown0 hg (by decide))) hb3, T.bytes, grown_then (grown_alloc (S.grown.trans hwu) o) hg (fun i hi => .inl (hown0.lt i hi).1), hlow, ?_⟩
  refine ⟨xs ++ [.int .i64 k, .int .i64 a, .int .i64 m, .slice p out.length c], ?_, fun j hj => ?_⟩
  · rw [List.length_append, List.length_cons, List.length_nil]
    exact ho
  · by_cases hlt : j < rows.length
    · obtain ⟨p', c', f0, f1, f2, f3, f4⟩ := hxs j hlt
      have e : (rows ++ [(⟨k, a, m, out⟩ : Rw)]).getD j noRow = rows.getD j noRow := by simp [List.getD, List.getElem?_append_left hlt]
      rw [e]
      refine ⟨p', c', ?_, ?_, ?_, ?_, f4.keep (.of_stays stL)⟩ <;> (rw [List.getElem?_append_left (by omega)]; assumption)
    · have hjr : j = rows.length := by simp at hj; omega
      subst hjr
      have e : (rows ++ [(⟨k, a, m, out⟩ : Rw)]).getD rows.length noRow = ⟨k, a, m, out⟩ := by simp [List.getD]
      rw [e]
      refine ⟨p, c, ?_, ?_, ?_, ?_, hl.keep (.of_stays stL)⟩
      · rw [List.getElem?_append_right (by omega), hlen, Nat.sub_self]; rfl
      · rw [List.getElem?_append_right (by omega), show rows.length * 4 + 1 - xs.length = 1 by omega]; rfl
      · rw [List.getElem?_append_right (by omega), show rows.length * 4 + 2 - xs.length = 2 by omega]; rfl
      · rw [List.getElem?_append_right (by omega), show rows.length * 4 + 3 - xs.length = 3 by omega]; rfl
/-- .. with whatever list. -/
def AnyOut (RT : TypeId) (w wr : World) (b : Nat) (s : St) (v : Value) (rows : List Rw) : Prop := OutSt RT w wr b s v rows

set_option maxRecDepth 100000 in
set_option maxHeartbeats 4000000 in
theorem refrows_any (b : Nat) (s : St) (w : World) (h : Rdr 84 5 w b s.1 s.2) (hy : IsBytes s.1) :
    Calls Try.prog 72 #[.pointer (some ⟨b, 0, none⟩)] w (RowsRead 84 w b (rdRows rWay (rWay.upto 16 s).1.toNat (rWay.upto 16 s).2)) := by
  have hIi := info_parts infoL
  obtain ⟨i0, hi, hz0, hz1, hz2⟩ := hIi
  have hI := Lib.hid (And.intro hi (And.intro hz0 (And.intro hz1 hz2)))
  have hIr := info_parts infoR
  obtain ⟨i1, hj, hw0, hw1, hw2⟩ := hIr
  have hJ := Lib.hid (And.intro hj (And.intro hw0 (And.intro hw1 hw2)))
  clear hi hz0 hz1 hz2 hj hw0 hw1 hw2
  have hK : Hid (∀ s : St, IsBytes s.1 → IsBytes (rdNum rWay s).2.1) := fun s h => rWay_ok.bytes _ _ h
  have hc := rupto_w b s 16 w h hy (by omega) (by omega)
  have y1 := rWay_ok.bytes 16 s hy
  have l1 := rWay_ok.low 16 s hy
  have h1 := rWay_ok.high 16 s (by omega)
  have hlow := h.lt
  generalize rWay.upto 16 s = q1 at hc y1 l1 h1 ⊢
  obtain ⟨n1, s1⟩ := q1
  simp only at hc y1 l1 h1 ⊢
  obtain ⟨n, hn⟩ : ∃ n : Nat, n1 = (n : Int) := ⟨n1.toNat, by omega⟩
  subst hn
  simp only [Int.toNat_natCast]
  have HC := Lib.hid hc
  have Y1 := Lib.hid y1
  have HLR := Lib.hid (len_rdRows rWay)
  have HLN := Lib.hid (len_rdLeases rWay)
  clear hc y1 h hy
  go_enter Try.func72, Try.ntmps72
  go_wp2_with (go_at_call 71; (with_reducible refine HC.out.mono ?_); rintro e u1 ⟨rfl, hr, hg⟩; have T1 : Hid (OutSt 84 w u1 b s1 (.slice none 0 0) []) := ⟨hr, Y1.out, hg, hlow, .nil _ _⟩; clear hr hg HC)
  go_loopw [4, 5] (fun v i wr => ∃ j : Nat, j ≤ n ∧ i = .int .i64 (j : Int) ∧ Hid (OutSt 84 w wr b (rdRows rWay j s1).2 v (rdRows rWay j s1).1)) (fun _ i _ => n - (intOf i).toNat)
  case atStart => exact ⟨0, by omega, rfl, T1.out⟩
  case round =>
    clear T1 Y1
    obtain ⟨j, hj, rfl, T⟩ := hrel
    by_cases hlt : j < n
    · have hlen : (rdRows rWay j s1).1.length = j := HLR.out j s1
      have HN : Hid (rdRows rWay (j + 1) s1 = ((rdRows rWay j s1).1 ++ [(rdRow rWay (rdRows rWay j s1).2).1], (rdRow rWay (rdRows rWay j s1).2).2)) := rfl
      generalize rdRows rWay j s1 = L at T hlen HN
      obtain ⟨rows, s2⟩ := L
      simp only at T hlen HN
      have hrow : rows.length ≤ 16 := by omega
      have HL := Lib.hid hlen
      clear hlen
      have yy := T.out.bytes
      have hR : rdRow rWay s2 = (⟨(rdNum rWay s2).1, (rdNum rWay (rdNum rWay s2).2).1, (rdNum rWay (rdNum rWay (rdNum rWay s2).2).2).1, (rdLeases rWay (rWay.upto 64 (rdNum rWay (rdNum rWay (rdNum rWay s2).2).2).2).1.toNat (rWay.upto 64 (rdNum rWay (rdNum rWay (rdNum rWay s2).2).2).2).2).1⟩, (rdLeases rWay (rWay.upto 64 (rdNum rWay (rdNum rWay (rdNum rWay s2).2).2).2).1.toNat (rWay.upto 64 (rdNum rWay (rdNum rWay (rdNum rWay s2).2).2).2).2).2) := rfl
      generalize rdRow rWay s2 = RR at HN hR
      have y1 := hK.out s2 yy
      have C1 := Lib.hid (fun u h => rnum_w b s2 u h yy)
      generalize rdNum rWay s2 = q1 at hR y1 C1
      have y2 := hK.out q1.2 y1
      have C2 := Lib.hid (fun u h => rnum_w b q1.2 u h y1)
      generalize rdNum rWay q1.2 = q2 at hR y2 C2
      have y3 := hK.out q2.2 y2
      have C3 := Lib.hid (fun u h => rnum_w b q2.2 u h y2)
      generalize rdNum rWay q2.2 = q3 at hR y3 C3
      have y4 := rWay_ok.bytes 64 _ y3
      have l4 := rWay_ok.low 64 _ y3
      have h4 := rWay_ok.high 64 q3.2 (by omega)
      have C4 := Lib.hid (fun u h => rupto_w b q3.2 64 u h y3 (by omega) (by omega))
      generalize rWay.upto 64 q3.2 = q4 at hR y4 l4 h4 C4
      obtain ⟨n4, s4⟩ := q4
      simp only at hR y4 l4 h4 C4
      obtain ⟨m, hm⟩ : ∃ m : Nat, n4 = (m : Int) := ⟨n4.toNat, by omega⟩
      subst hm
      simp only [Int.toNat_natCast] at hR
      have HR := Lib.hid hR
      have Y1 := Lib.hid y1
      have Y2 := Lib.hid y2
      have Y3 := Lib.hid y3
      have Y4 := Lib.hid y4
      clear hR y1 y2 y3 y4 yy
      obtain ⟨wo, hwo⟩ : ∃ wo : World, wo = wr := ⟨_, rfl⟩
      subst hwo
      go_wp2_with (first
        | (go_at_call 55; (with_reducible refine (C1.out _ T.out.rdr).mono ?_); rintro e W2 ⟨rfl, hr, hg⟩; have O2 := Lib.hid (T.out.read (by decide) hr Y1.out hg); have T1 := Lib.hid (RowSt.lay hr Y1.out q1.1); clear hr hg T C1)
        | (go_at_call 55; (with_reducible refine (C2.out _ T1.out.rdr).mono ?_); rintro e W3 ⟨rfl, hr, hg⟩; have zx : W2.heap.size < W3.heap.size := (lt_of_heap (T1.out.read hr Y2.out hg).box); obtain ⟨c0, f0, S2⟩ := T1.out.num1 (x := q2.1) hr Y2.out hg; have T2 := Lib.hid S2; clear S2 hr hg T1 C2)
        | (go_at_call 55; (with_reducible refine (C3.out _ T2.out.rdr).mono ?_); rintro e W4 ⟨rfl, hr, hg⟩; clear c0 f0 zx; have zx : W2.heap.size < W4.heap.size := (lt_of_heap (T2.out.read hr Y3.out hg).box); obtain ⟨c0, f0, S3⟩ := T2.out.num2 (x := q3.1) hr Y3.out hg; have T3 := Lib.hid S3; clear S3 hr hg T2 C3)
        | (go_at_call 71; (with_reducible refine (C4.out _ T3.out.rdr).mono ?_); rintro e W5 ⟨rfl, hr, hg⟩; clear c0 f0 zx; have T4 := Lib.hid (T3.out.read hr Y4.out hg); clear hr hg T3 C4))
      clear Y1 Y2 Y3 Y4
      go_loopw [8] (fun i wr => ∃ j : Nat, j ≤ m ∧ i = .int .i64 (j : Int) ∧ Hid (AnyRow 84 W2 wr b W2.heap.size (rdLeases rWay j s4).2 q1.1 q2.1 q3.1 (rdLeases rWay j s4).1)) (fun i _ => m - (intOf i).toNat)
      case atStart => exact ⟨0, by omega, rfl, ⟨_, T4.out⟩⟩
      case round =>
        clear T4
        obtain ⟨i, hi, rfl, hS⟩ := hrel
        obtain ⟨v, S⟩ := hS.out
        have T := Lib.hid S
        clear hS S
        by_cases hlt2 : i < m
        · have hlen : (rdLeases rWay i s4).1.length = i := HLN.out i s4
          have HN2 : Hid (rdLeases rWay (i + 1) s4 = ((rdLeases rWay i s4).1 ++ [((rdNum rWay (rdLeases rWay i s4).2).1, (rdNum rWay (rdNum rWay (rdLeases rWay i s4).2).2).1)], (rdNum rWay (rdNum rWay (rdLeases rWay i s4).2).2).2)) := rfl
          generalize rdLeases rWay i s4 = L at T hlen HN2
          obtain ⟨out, s5⟩ := L
          simp only at T hlen HN2
          have yy := T.out.bytes
          have y5 := hK.out s5 yy
          have D1 := Lib.hid (fun u h => rnum_w b s5 u h yy)
          generalize rdNum rWay s5 = z1 at HN2 y5 D1
          have y6 := hK.out z1.2 y5
          have D2 := Lib.hid (fun u h => rnum_w b z1.2 u h y5)
          generalize rdNum rWay z1.2 = z2 at HN2 y6 D2
          obtain ⟨x1, s6⟩ := z1
          obtain ⟨x2, s7⟩ := z2
          simp only at HN2 y5 y6 D1 D2
          have Y5 := Lib.hid y5
          have Y6 := Lib.hid y6
          have HL2 := Lib.hid hlen
          have hout : out.length ≤ 64 := by omega
          clear yy y5 y6 hlen
          go_wp2_with (first
            | (go_at_call 55; (with_reducible refine (D1.out _ T.out.rdr).mono ?_); rintro e W6 ⟨rfl, hr, hg⟩; have T5 := Lib.hid (T.out.read hr Y5.out hg); have T5a := Lib.hid (T5.out.below ((Below.refl _ _).alloc (Nat.le_refl _) (.cells #[.int .i64 x1, .int .i64 0] 49))); clear hr hg T D1)
            | (go_at_call 55; (with_reducible refine (D2.out _ T5a.out.rdr).mono ?_); rintro e W7 ⟨rfl, hr, hg⟩; obtain ⟨zy, cy0, cy1, fy, zx, hne, cx, T7, HNB⟩ := T5.out.ybox (x := x1) (y := x2) hr Y6.out hg; clear hr hg T5 T5a D2)
            | (at_builtin; refine wpList_append_lies _ rfl (.tmp 40) (.tmp 42) 50 rfl (W2.heap.size + 1) 49 i0 (.agg #[.int .i64 0, .int .i64 0]) 2 16 Try.underlying50 hI.out.1 hI.out.2.1 hI.out.2.2.1 hI.out.2.2.2 rfl (by decide) v out.length (leaseCells out) rfl (own_below T7.out.own ((Below.refl _ _).alloc (Nat.le_refl _) _)) ⟨W7.heap.size, 0, none⟩ 1 1 [.int .i64 x1, .int .i64 x2] rfl rfl (World.news_of_block HNB.out) (by intro x hx; simp at hx; rcases hx with rfl | rfl <;> rfl) (by decide) (by unfold maxLen; omega) (by omega) (by have := lt_of_heap T7.out.box; simp at this ⊢; omega) _ rfl ?_; intro g cap w1 ho hg _ _; obtain ⟨k0, k1, D⟩ := T7.out.push _ hg ho; clear ho hg))
          have R : Hid (AnyRow 84 W2 _ b W2.heap.size (rdLeases rWay (i + 1) s4).2 q1.1 q2.1 q3.1 (rdLeases rWay (i + 1) s4).1) := (by show AnyRow _ _ _ _ _ _ _ _ _ _; rw [HN2.out]; exact ⟨_, D.out⟩)
          clear D k0 k1 cx cy0 cy1 fy T7 HNB
          go_wp2
          go_roundw
          case rel => exact ⟨i + 1, by omega, by go_num, R⟩
          case measure => simp [intOf]; omega
        · obtain rfl : i = m := by omega
          generalize rdLeases rWay i s4 = L at T HR
          obtain ⟨out, s5⟩ := L
          simp only at T HR
          obtain ⟨p, c, hv⟩ := own_slice T.out.own
          subst hv
          obtain ⟨zx, c0, c1, c2, c3, -, -, -, -⟩ := T.out.cells
          obtain ⟨xs, hx, hxs⟩ := O2.out.own.keep T.out.grown O2.out.low (rdr_stays O2.out.rdr (by decide) T.out.grown)
          have HX := Lib.hid hx
          have HXS := Lib.hid hxs
          have hsz : w.heap.size ≤ wr.heap.size := Nat.le_trans O2.out.grown.size T.out.grown.size
          clear hx hxs
          go_wp2_with (at_builtin; refine wpList_append_lies _ rfl (.tmp 45) (.tmp 47) 25 rfl w.heap.size 52 i1 (.agg #[.int .i64 0, .int .i64 0, .int .i64 0, .slice none 0 0]) 4 48 Try.underlying25 hJ.out.1 hJ.out.2.1 hJ.out.2.2.1 hJ.out.2.2.2 rfl (by decide) _ rows.length xs rfl (own_below HX.out ((Below.refl _ _).alloc (Nat.le_refl _) _)) ⟨wr.heap.size, 0, none⟩ 1 1 [.int .i64 q1.1, .int .i64 q2.1, .int .i64 q3.1, .slice p out.length c] rfl rfl (World.news_of_block (heap_alloc_new _ _)) (by intro x hx; simp at hx; rcases hx with rfl | rfl | rfl | rfl <;> rfl) (by decide) (by unfold maxLen; omega) (by omega) (by simp; omega) _ rfl ?_; intro g cap w1 ho hg _ _; have D := Lib.hid (O2.out.push _ T.out.grown T.out rfl HX.out HXS.out hg ho); clear ho hg)
          have R : Hid (OutSt 84 w w1 b (rdRows rWay (j + 1) s1).2 (.slice (some ⟨g, 0, none⟩) (rows.length + 1) cap) (rdRows rWay (j + 1) s1).1) := (by show OutSt _ _ _ _ _ _ _; rw [HN.out, HR.out]; exact D.out)
          clear D c0 c1 c2 c3
          go_wp2
          go_roundw
          case rel => exact ⟨j + 1, by omega, by go_num, R⟩
          case measure => simp [intOf]; omega
    · obtain rfl : j = n := by omega
      go_wp2
      go_ret
      exact ⟨_, rfl, T.out.own, T.out.rdr, T.out.grown⟩
end Go.Proofs.Ytnogfhjeckkckaa.Frame
