/-
  The document's Parse, of any bytes: the frame that may be that FrmBack reads out of them, and OK, or nothing, and ErrForm; of what lay when the call began nothing has turned.
-/
import Derived.Test.YtnogfhjeckkckaaFrmRefTok
import Derived.Test.YtnogfhjeckkckaaFrmDec
import Derived.Laws.AppendOwnNone
namespace Go.Proofs.Ytnogfhjeckkckaa.Frame
open Go.RowKit Codec

theorem rbits_w (b : Nat) (s : St) (w : World) (h : Rdr 84 5 w b s.1 s.2) (hy : IsBytes s.1) :
    Calls Try.prog 57 #[.pointer (some ⟨b, 0, none⟩)] w (Step 84 5 w b (rWay.bits s).2 (.int .u64 (rWay.bits s).1)) := rbits_any b s w h hy
/-- Bytes that came in, appended to nothing. -/
theorem wpList_clone8 {w : World} {ops : Array Oper} {rest : List Oper} {o : Oper} {a : Act} {Q : Exit → Act → World → Prop} (hgd : o.guard = none) (s x : Operand)
    (ho : o.op = .call { callee := .builtin .append, args := #[s, x], argTypes := #[40, 40] }) (B : Nat) (v : Value) (hs : a.eval s = v) (hown : w.ownsRow B 5 1 v 0 [])
    (q : Option Addr) (d n : Nat) (xs : List Int) (hx : a.eval x = .slice q n d) (hn : n = xs.length) (hl : xs.length ≤ 1000000) (hc : Cel w q xs) (hp : q = none → xs = [] ∧ d = 0) (hB : B ≤ w.heap.size)
    (h : ∀ v' w', w'.ownsRow B 5 1 v' xs.length (cells8 xs) → w.grownBy w' v.ownBlock → wpList Try.prog ops Q rest (a.put o.dst v') w') : wpList Try.prog ops Q (o :: rest) a w := by
  obtain ⟨i0, hi, hz0, hz1, hz2⟩ := info_parts info8
  subst hn
  cases q with
  | none =>
    obtain ⟨rfl, rfl⟩ := hp rfl
    exact wpList_append_own_none hgd s x 40 ho B 5 i0 1 Try.underlying40 hi v 0 [] hs hown hx (h v w hown ⟨rfl, rfl, rfl, Nat.le_refl _, fun _ _ _ => rfl⟩)
  | some ad =>
    refine wpList_append_own w hgd s x 40 ho B 5 i0 (.int .u8 0) 1 1 Try.underlying40 hi hz0 hz1 hz2 rfl (by decide) v 0 [] hs hown ad xs.length d (cells8 xs) hx (by rw [len_cells8, Nat.mul_one]) (hc.at_ (Below.refl _ _)) (cells8_one xs) (by unfold maxLen; omega) (by omega) hB (fun v' w' h1 h2 _ => ?_)
    simp only [Nat.zero_add, List.nil_append] at h1
    exact h v' w' h1 h2
/-- The reader is laid. -/
theorem reader_laid {w w1 : World} {xs : List Int} {v v' : Value} (ho : w1.ownsRow (w.heap.size + 1) 5 1 v' xs.length (cells8 xs)) (hv : v = .slice (some ⟨w.heap.size + 1, 0, none⟩) 0 0)
    (hg : ((w.alloc (.cells #[.int .i64 0, .int .i64 0, .int .i64 0, .int .i64 0, .int .i64 0, .int .u64 0, .int .i64 0, .int .i64 0, .slice none 0 0, .int .i64 0, .slice none 0 0] 31)).alloc (.cells #[] 5)).grownBy w1 v.ownBlock) :
    Rdr 84 5 (w1.alloc (.cells #[v', .bool false] 84)) w1.heap.size xs false ∧ ZeroBox (w1.alloc (.cells #[v', .bool false] 84)) w.heap.size ∧ Below w.heap.size w (w1.alloc (.cells #[v', .bool false] 84)) ∧ w.heap.size < w1.heap.size := by
  subst hv
  have b0 : Below w.heap.size w ((w.alloc (.cells #[.int .i64 0, .int .i64 0, .int .i64 0, .int .i64 0, .int .i64 0, .int .u64 0, .int .i64 0, .int .i64 0, .slice none 0 0, .int .i64 0, .slice none 0 0] 31)).alloc (.cells #[] 5)) := ((Below.refl _ _).alloc (Nat.le_refl _) _).alloc (by simp) _
  have b1 := b0.grown hg b0.size (fun k hk => by simp [Value.ownBlock] at hk; omega)
  have hz : ZeroBox w1 w.heap.size := by
    refine (hg.block _ (by simp; omega) (by simp [Value.ownBlock])).trans ?_
    exact (Below.heap_alloc _ _ _ (by simp)).trans (heap_alloc_new w _)
  have bb : Below w1.heap.size w1 (w1.alloc (.cells #[v', .bool false] 84)) := (Below.refl _ _).alloc (Nat.le_refl _) _
  obtain ⟨p, c, rfl, hc, hm, hlies, _⟩ := own_lies ho
  exact ⟨⟨p, c, heap_alloc_new _ _, hc, hm, hlies.keep (.below bb)⟩, hz.below bb, b1.trans (bb.mono b1.size), lt_of_heap hz⟩
/-- The frame's box is laid. -/
theorem FrmSt.lay {RT : TypeId} {w u : World} {b : Nat} {s : St} (hb : b < w.heap.size) (hw : w.grownBy u (some b)) (hr : Rdr RT 5 u b s.1 s.2) (hy : IsBytes s.1) (k : Int) :
    FrmSt RT w (u.alloc (.cells #[.int .i64 k, .int .i64 0, .int .i64 0, .int .i64 0, .int .i64 0, .int .u64 0, .int .i64 0, .int .i64 0, .slice none 0 0, .int .i64 0, .slice none 0 0] 31)) b u.heap.size s ⟨k, 0, 0, 0, 0, 0, noTk⟩ none none 0 0 :=
  ⟨hr.below ((Below.refl _ _).alloc (Nat.le_refl _) _), hy, grown_alloc hw _, hb, hw.size, heap_alloc_new _ _, .inl rfl, .inl rfl⟩
/-- What Parse tells, of what was read. -/
def Parsed (w : World) (r : Fr × St) (e : Ending) (w' : World) : Prop :=
  DecPost w r.1.kind r.1.src r.1.dst r.1.gen r.1.hop r.1.bits r.1.token.gen r.1.token.hop r.1.token.table.start r.1.token.stamps r.1.token.table.rows (decide (tell r.2 = 0 ∧ frameOk r.1 = true)) e w'
theorem FrmSt.out {RT : TypeId} {w wr : World} {b X : Nat} {s : St} {f : Fr} {ps p : Option Addr} {cs c R : Nat} {w0 : World} (S : FrmSt RT w wr b X s f ps p cs c) (hz : ZeroBox w R) (hb : R ≠ b) (hw : Below w0.heap.size w0 w) (hB : w0.heap.size ≤ b) : ZeroBox wr R ∧ Below w0.heap.size w0 wr :=
  ⟨(S.grown.block _ (lt_of_heap hz) (by simpa using hb)).trans hz, hw.grown S.grown hw.size (fun k hk => by simp at hk; omega)⟩

set_option maxRecDepth 100000 in
set_option maxHeartbeats 8000000 in
theorem parse_0 (q : Option Addr) (dq : Nat) (xs : List Int) (w : World) (hl : xs.length ≤ 1000000) (hy : IsBytes xs) (hc : Cel w q xs) (hp : q = none → xs = [] ∧ dq = 0) (hkind : (rdNum rWay (xs, false)).1 = 0) :
    Calls Try.prog 23 #[.slice q xs.length dq] w (Parsed w (rdFrame rWay (xs, false))) := by
  have hK : Hid (∀ s : St, IsBytes s.1 → IsBytes (rdNum rWay s).2.1) := fun s h => rWay_ok.bytes _ _ h
  have hkd := kind_in rWay rWay_ok (xs, false) hy
  have hR : rdFrame rWay (xs, false) = (⟨(rdNum rWay (xs, false)).1, (rdNum rWay (rdNum rWay (xs, false)).2).1, (rdNum rWay (rdNum rWay (rdNum rWay (xs, false)).2).2).1, 0, 0, 0, (rdToken rWay (rdNum rWay (rdNum rWay (rdNum rWay (xs, false)).2).2).2).1⟩, (rdToken rWay (rdNum rWay (rdNum rWay (rdNum rWay (xs, false)).2).2).2).2) := by
    unfold rdFrame
    simp only
    rw [if_pos hkind]
  have y1 := hK.out (xs, false) hy
  have C1 := Lib.hid (fun b u h => rnum_w b (xs, false) u h hy)
  generalize rdNum rWay (xs, false) = q1 at hR y1 C1 hkind
  obtain ⟨k, s1⟩ := q1
  simp only at hR y1 C1 hkind
  subst hkind
  have y2 := hK.out s1 y1
  have C2 := Lib.hid (fun b u h => rnum_w b s1 u h y1)
  generalize rdNum rWay s1 = q2 at hR y2 C2
  obtain ⟨a, s2⟩ := q2
  simp only at hR y2 C2
  have y3 := hK.out s2 y2
  have C3 := Lib.hid (fun b u h => rnum_w b s2 u h y2)
  generalize rdNum rWay s2 = q3 at hR y3 C3
  obtain ⟨d, s3⟩ := q3
  simp only at hR y3 C3
  have C4 := Lib.hid (fun b u h => reftoken_any b s3 u h y3)
  unfold TokenRead at C4
  have y4 := token_bytes rWay rWay_ok s3 y3
  have hsm := small_token rWay rWay_ok s3
  generalize rdToken rWay s3 = q4 at hR C4 y4 hsm
  obtain ⟨t, s4⟩ := q4
  simp only at hR C4 y4 hsm
  have Y4 := Lib.hid y4
  clear y4
  rw [hR] at hkd ⊢
  have hrt := fun (u : World) (ps : Option Addr) (cs : Nat) (p : Option Addr) (c : Nat) (h1 : IntsS 0 u ps t.stamps) (h2 : RowsS 0 u p t.table.rows) => right_any ⟨0, a, d, 0, 0, 0, t⟩ ps p cs c u (lying_of h1 h2 hsm.1 hsm.2.1 hsm.2.2)
  unfold frameVal at hrt
  show Calls _ _ _ _ (DecPost w _ _ _ _ _ _ _ _ _ t.stamps t.table.rows (decide (tell s4 = 0 ∧ frameOk ⟨0, a, d, 0, 0, 0, t⟩ = true)))
  generalize frameOk ⟨0, a, d, 0, 0, 0, t⟩ = br at hrt
  have HRT : Hid (∀ (u : World) (ps : Option Addr) (cs : Nat) (p : Option Addr) (c : Nat), IntsS 0 u ps t.stamps → RowsS 0 u p t.table.rows → Calls Try.prog 7 #[.agg #[.int .i64 0, .int .i64 a, .int .i64 d, .int .i64 0, .int .i64 0, .int .u64 0, .int .i64 t.gen, .int .i64 t.hop, .slice ps t.stamps.length cs, .int .i64 t.table.start, .slice p t.table.rows.length c]] u (Asked u br)) := hrt
  have Y1 := Lib.hid y1
  have Y2 := Lib.hid y2
  have Y3 := Lib.hid y3
  have hown : ((w.alloc (.cells #[.int .i64 0, .int .i64 0, .int .i64 0, .int .i64 0, .int .i64 0, .int .u64 0, .int .i64 0, .int .i64 0, .slice none 0 0, .int .i64 0, .slice none 0 0] 31)).alloc (.cells #[] 5)).ownsRow (w.heap.size + 1) 5 1 (.slice (some ⟨w.heap.size + 1, 0, none⟩) 0 0) 0 [] := by
    have := World.ownsRow_made (base := w.heap.size + 1) (size := 1) (e := 5) (w.alloc (.cells #[.int .i64 0, .int .i64 0, .int .i64 0, .int .i64 0, .int .i64 0, .int .u64 0, .int .i64 0, .int .i64 0, .slice none 0 0, .int .i64 0, .slice none 0 0] 31)) #[] 0 (by simp) (Nat.zero_le _) rfl
    rwa [show (w.alloc (.cells #[.int .i64 0, .int .i64 0, .int .i64 0, .int .i64 0, .int .i64 0, .int .u64 0, .int .i64 0, .int .i64 0, .slice none 0 0, .int .i64 0, .slice none 0 0] 31)).heap.size = w.heap.size + 1 by simp] at this
  have HOWN := Lib.hid hown
  have HC := Lib.hid (hc.below (((Below.refl w.heap.size w).alloc (Nat.le_refl _) (.cells #[.int .i64 0, .int .i64 0, .int .i64 0, .int .i64 0, .int .i64 0, .int .u64 0, .int .i64 0, .int .i64 0, .slice none 0 0, .int .i64 0, .slice none 0 0] 31)).alloc (by simp) (.cells #[] 5)))
  have HP := Lib.hid hp
  clear hR y1 y2 y3 hy hkd hrt hc hp hown
  have ways : (tell s4 = 2) ∨ (tell s4 = 0 ∧ br = false) ∨ (tell s4 = 0 ∧ br = true) := by
    unfold tell
    split
    · exact .inl rfl
    · cases br
      · exact .inr (.inl ⟨rfl, rfl⟩)
      · exact .inr (.inr ⟨rfl, rfl⟩)
  have e1 : tell s4 = 2 → decide (tell s4 = 0 ∧ br = true) = false := fun h => by rw [h]; simp
  have e2 : br = false → decide (tell s4 = 0 ∧ br = true) = false := fun h => by rw [h]; simp
  have e3 : tell s4 = 0 → br = true → decide (tell s4 = 0 ∧ br = true) = true := fun h h' => by rw [h, h']; simp
  generalize decide (tell s4 = 0 ∧ br = true) = ok at e1 e2 e3 ⊢
  rcases ways with htell | ⟨htell, rfl⟩ | ⟨htell, rfl⟩
  · have HOK := Lib.hid (e1 htell)
    have HT := Lib.hid htell
    clear e1 e2 e3 htell
    go_enter Try.func23, Try.ntmps23
    go_wp2_with (first
      | (at_builtin; refine wpList_clone8 rfl (.tmp 7) (.tmp 8) rfl (w.heap.size + 1) _ rfl HOWN.out q dq _ xs rfl rfl hl HC.out HP.out (by simp) ?_; intro v' w1 ho hg; obtain ⟨pq, cq, rfl⟩ := own_slice ho; obtain ⟨hr, hz, hb, hs⟩ := reader_laid ho rfl hg; have R0 := Lib.hid hr; have Z0 := Lib.hid hz; have B0 := Lib.hid hb; have hlow := hr.lt; clear ho hg hr hz hb HOWN HC HP)
      | (go_at_call 55; (with_reducible refine (C1.out _ _ R0.out).mono ?_); rintro e u1 ⟨rfl, hr, hg⟩; have T1 := Lib.hid (FrmSt.lay hlow hg hr Y1.out 0); clear hr hg R0 hlow)
      | (go_at_call 55; (with_reducible refine (C2.out _ _ T1.out.rdr).mono ?_); rintro e u2 ⟨rfl, hr, hg⟩; have S1 := T1.out.read rw_t hr Y2.out hg; obtain ⟨z0, c0, c1, c2, c3, c4, c5, c6, c7, c8, c9, c10, ee⟩ := S1.cells; simp only [noTk, List.length_nil] at c6 c7 c8 c9 c10; have f1 := ee 1; have T2 := Lib.hid (S1.put 1 (.int .i64 a) ⟨0, a, 0, 0, 0, 0, noTk⟩ rfl rfl); clear S1 hr hg T1 ee)
      | (go_at_call 55; (with_reducible refine (C3.out _ _ T2.out.rdr).mono ?_); rintro e u3 ⟨rfl, hr, hg⟩; clear z0 c0 c1 c2 c3 c4 c5 c6 c7 c8 c9 c10; clear f1; have S1 := T2.out.read rw_t hr Y3.out hg; obtain ⟨z0, c0, c1, c2, c3, c4, c5, c6, c7, c8, c9, c10, ee⟩ := S1.cells; simp only [noTk, List.length_nil] at c6 c7 c8 c9 c10; have f2 := ee 2; have T3 := Lib.hid (S1.put 2 (.int .i64 d) ⟨0, a, d, 0, 0, 0, noTk⟩ rfl rfl); clear S1 hr hg T2 ee)
      | (go_at_call 56; (with_reducible refine (C4.out _ _ T3.out.rdr).mono ?_); rintro e u4 ⟨ps, cs, p, c, rfl, hi, hw, hr, hg⟩; clear z0 c0 c1 c2 c3 c4 c5 c6 c7 c8 c9 c10; have S1 := T3.out.read rw_t hr Y4.out hg; obtain ⟨z0, c0, c1, c2, c3, c4, c5, c6, c7, c8, c9, c10, ee⟩ := S1.cells; simp only [noTk, List.length_nil] at c6 c7 c8 c9 c10; have e6 := ee 6; have e7 := ee 7; have e8 := ee 8; have e9 := ee 9; have e10 := ee 10; have T4 := Lib.hid (S1.puttok t ps p cs c hi hw); clear S1 hi hw hr hg T3 ee)
      | (go_at_call 7; (with_reducible refine (HRT.out _ ps cs p c T4.out.stamps T4.out.rows).mono ?_); rintro e u6 ⟨rfl, hb6⟩; clear z0 c0 c1 c2 c3 c4 c5 c6 c7 c8 c9 c10; have S1 := T4.out.below hb6; have hz7 := S1.out Z0.out (by omega) B0.out (by omega); obtain ⟨x0, d0, d1, d2, d3, d4, d5, d6, d7, d8, d9, d10, ff⟩ := hz7.1.cells; have g0 := ff 0; have g1 := ff 1; have g2 := ff 2; have g3 := ff 3; have g4 := ff 4; have g5 := ff 5; have g6 := ff 6; have g7 := ff 7; have g8 := ff 8; have g9 := ff 9; have g10 := ff 10; clear ff; have Z7 := Lib.hid hz7; obtain ⟨z0, c0, c1, c2, c3, c4, c5, c6, c7, c8, c9, c10, -⟩ := S1.cells; simp only [] at c0; have T7 := Lib.hid S1; clear S1 hz7 hb6 T4)
      | (go_at_call 58; have cd := rdone_any _ s4 _ T7.out.rdr; rw [HT.out] at cd; (with_reducible refine cd.mono ?_); rintro e u8 ⟨rfl, rfl⟩; clear cd))
    refine bodyPost_ret (v := .tuple #[.agg #[.int .i64 0, .int .i64 0, .int .i64 0, .int .i64 0, .int .i64 0, .int .u64 0, .int .i64 0, .int .i64 0, .slice none 0 0, .int .i64 0, .slice none 0 0], .int .i64 2]) (by simp [results, Try.results23, go_sem, *]) rfl ?_
    rw [HOK.out]
    exact ⟨ps, cs, p, c, rfl, after_store Z7.out.1 T7.out.stamps T7.out.rows Z7.out.2 (Nat.le_refl _) (((((((((((grown_set w.heap.size 0 _).trans (grown_set w.heap.size 1 _)).trans (grown_set w.heap.size 2 _)).trans (grown_set w.heap.size 3 _)).trans (grown_set w.heap.size 4 _)).trans (grown_set w.heap.size 5 _)).trans (grown_set w.heap.size 6 _)).trans (grown_set w.heap.size 7 _)).trans (grown_set w.heap.size 8 _)).trans (grown_set w.heap.size 9 _)).trans (grown_set w.heap.size 10 _))⟩
  · have HOK := Lib.hid (e2 rfl)
    have HT := Lib.hid htell
    clear e1 e2 e3 htell
    go_enter Try.func23, Try.ntmps23
    go_wp2_with (first
      | (at_builtin; refine wpList_clone8 rfl (.tmp 7) (.tmp 8) rfl (w.heap.size + 1) _ rfl HOWN.out q dq _ xs rfl rfl hl HC.out HP.out (by simp) ?_; intro v' w1 ho hg; obtain ⟨pq, cq, rfl⟩ := own_slice ho; obtain ⟨hr, hz, hb, hs⟩ := reader_laid ho rfl hg; have R0 := Lib.hid hr; have Z0 := Lib.hid hz; have B0 := Lib.hid hb; have hlow := hr.lt; clear ho hg hr hz hb HOWN HC HP)
      | (go_at_call 55; (with_reducible refine (C1.out _ _ R0.out).mono ?_); rintro e u1 ⟨rfl, hr, hg⟩; have T1 := Lib.hid (FrmSt.lay hlow hg hr Y1.out 0); clear hr hg R0 hlow)
      | (go_at_call 55; (with_reducible refine (C2.out _ _ T1.out.rdr).mono ?_); rintro e u2 ⟨rfl, hr, hg⟩; have S1 := T1.out.read rw_t hr Y2.out hg; obtain ⟨z0, c0, c1, c2, c3, c4, c5, c6, c7, c8, c9, c10, ee⟩ := S1.cells; simp only [noTk, List.length_nil] at c6 c7 c8 c9 c10; have f1 := ee 1; have T2 := Lib.hid (S1.put 1 (.int .i64 a) ⟨0, a, 0, 0, 0, 0, noTk⟩ rfl rfl); clear S1 hr hg T1 ee)
      | (go_at_call 55; (with_reducible refine (C3.out _ _ T2.out.rdr).mono ?_); rintro e u3 ⟨rfl, hr, hg⟩; clear z0 c0 c1 c2 c3 c4 c5 c6 c7 c8 c9 c10; clear f1; have S1 := T2.out.read rw_t hr Y3.out hg; obtain ⟨z0, c0, c1, c2, c3, c4, c5, c6, c7, c8, c9, c10, ee⟩ := S1.cells; simp only [noTk, List.length_nil] at c6 c7 c8 c9 c10; have f2 := ee 2; have T3 := Lib.hid (S1.put 2 (.int .i64 d) ⟨0, a, d, 0, 0, 0, noTk⟩ rfl rfl); clear S1 hr hg T2 ee)
      | (go_at_call 56; (with_reducible refine (C4.out _ _ T3.out.rdr).mono ?_); rintro e u4 ⟨ps, cs, p, c, rfl, hi, hw, hr, hg⟩; clear z0 c0 c1 c2 c3 c4 c5 c6 c7 c8 c9 c10; have S1 := T3.out.read rw_t hr Y4.out hg; obtain ⟨z0, c0, c1, c2, c3, c4, c5, c6, c7, c8, c9, c10, ee⟩ := S1.cells; simp only [noTk, List.length_nil] at c6 c7 c8 c9 c10; have e6 := ee 6; have e7 := ee 7; have e8 := ee 8; have e9 := ee 9; have e10 := ee 10; have T4 := Lib.hid (S1.puttok t ps p cs c hi hw); clear S1 hi hw hr hg T3 ee)
      | (go_at_call 7; (with_reducible refine (HRT.out _ ps cs p c T4.out.stamps T4.out.rows).mono ?_); rintro e u6 ⟨rfl, hb6⟩; clear z0 c0 c1 c2 c3 c4 c5 c6 c7 c8 c9 c10; have S1 := T4.out.below hb6; have hz7 := S1.out Z0.out (by omega) B0.out (by omega); obtain ⟨x0, d0, d1, d2, d3, d4, d5, d6, d7, d8, d9, d10, ff⟩ := hz7.1.cells; have g0 := ff 0; have g1 := ff 1; have g2 := ff 2; have g3 := ff 3; have g4 := ff 4; have g5 := ff 5; have g6 := ff 6; have g7 := ff 7; have g8 := ff 8; have g9 := ff 9; have g10 := ff 10; clear ff; have Z7 := Lib.hid hz7; obtain ⟨z0, c0, c1, c2, c3, c4, c5, c6, c7, c8, c9, c10, -⟩ := S1.cells; simp only [] at c0; have T7 := Lib.hid S1; clear S1 hz7 hb6 T4)
      | (go_at_call 58; have cd := rdone_any _ s4 _ T7.out.rdr; rw [HT.out] at cd; (with_reducible refine cd.mono ?_); rintro e u8 ⟨rfl, rfl⟩; clear cd))
    refine bodyPost_ret (v := .tuple #[.agg #[.int .i64 0, .int .i64 0, .int .i64 0, .int .i64 0, .int .i64 0, .int .u64 0, .int .i64 0, .int .i64 0, .slice none 0 0, .int .i64 0, .slice none 0 0], .int .i64 2]) (by simp [results, Try.results23, go_sem, *]) rfl ?_
    rw [HOK.out]
    exact ⟨ps, cs, p, c, rfl, after_store Z7.out.1 T7.out.stamps T7.out.rows Z7.out.2 (Nat.le_refl _) (((((((((((grown_set w.heap.size 0 _).trans (grown_set w.heap.size 1 _)).trans (grown_set w.heap.size 2 _)).trans (grown_set w.heap.size 3 _)).trans (grown_set w.heap.size 4 _)).trans (grown_set w.heap.size 5 _)).trans (grown_set w.heap.size 6 _)).trans (grown_set w.heap.size 7 _)).trans (grown_set w.heap.size 8 _)).trans (grown_set w.heap.size 9 _)).trans (grown_set w.heap.size 10 _))⟩
  · have HOK := Lib.hid (e3 htell rfl)
    have HT := Lib.hid htell
    clear e1 e2 e3 htell
    go_enter Try.func23, Try.ntmps23
    go_wp2_with (first
      | (at_builtin; refine wpList_clone8 rfl (.tmp 7) (.tmp 8) rfl (w.heap.size + 1) _ rfl HOWN.out q dq _ xs rfl rfl hl HC.out HP.out (by simp) ?_; intro v' w1 ho hg; obtain ⟨pq, cq, rfl⟩ := own_slice ho; obtain ⟨hr, hz, hb, hs⟩ := reader_laid ho rfl hg; have R0 := Lib.hid hr; have Z0 := Lib.hid hz; have B0 := Lib.hid hb; have hlow := hr.lt; clear ho hg hr hz hb HOWN HC HP)
      | (go_at_call 55; (with_reducible refine (C1.out _ _ R0.out).mono ?_); rintro e u1 ⟨rfl, hr, hg⟩; have T1 := Lib.hid (FrmSt.lay hlow hg hr Y1.out 0); clear hr hg R0 hlow)
      | (go_at_call 55; (with_reducible refine (C2.out _ _ T1.out.rdr).mono ?_); rintro e u2 ⟨rfl, hr, hg⟩; have S1 := T1.out.read rw_t hr Y2.out hg; obtain ⟨z0, c0, c1, c2, c3, c4, c5, c6, c7, c8, c9, c10, ee⟩ := S1.cells; simp only [noTk, List.length_nil] at c6 c7 c8 c9 c10; have f1 := ee 1; have T2 := Lib.hid (S1.put 1 (.int .i64 a) ⟨0, a, 0, 0, 0, 0, noTk⟩ rfl rfl); clear S1 hr hg T1 ee)
      | (go_at_call 55; (with_reducible refine (C3.out _ _ T2.out.rdr).mono ?_); rintro e u3 ⟨rfl, hr, hg⟩; clear z0 c0 c1 c2 c3 c4 c5 c6 c7 c8 c9 c10; clear f1; have S1 := T2.out.read rw_t hr Y3.out hg; obtain ⟨z0, c0, c1, c2, c3, c4, c5, c6, c7, c8, c9, c10, ee⟩ := S1.cells; simp only [noTk, List.length_nil] at c6 c7 c8 c9 c10; have f2 := ee 2; have T3 := Lib.hid (S1.put 2 (.int .i64 d) ⟨0, a, d, 0, 0, 0, noTk⟩ rfl rfl); clear S1 hr hg T2 ee)
      | (go_at_call 56; (with_reducible refine (C4.out _ _ T3.out.rdr).mono ?_); rintro e u4 ⟨ps, cs, p, c, rfl, hi, hw, hr, hg⟩; clear z0 c0 c1 c2 c3 c4 c5 c6 c7 c8 c9 c10; have S1 := T3.out.read rw_t hr Y4.out hg; obtain ⟨z0, c0, c1, c2, c3, c4, c5, c6, c7, c8, c9, c10, ee⟩ := S1.cells; simp only [noTk, List.length_nil] at c6 c7 c8 c9 c10; have e6 := ee 6; have e7 := ee 7; have e8 := ee 8; have e9 := ee 9; have e10 := ee 10; have T4 := Lib.hid (S1.puttok t ps p cs c hi hw); clear S1 hi hw hr hg T3 ee)
      | (go_at_call 7; (with_reducible refine (HRT.out _ ps cs p c T4.out.stamps T4.out.rows).mono ?_); rintro e u6 ⟨rfl, hb6⟩; clear z0 c0 c1 c2 c3 c4 c5 c6 c7 c8 c9 c10; have S1 := T4.out.below hb6; have hz7 := S1.out Z0.out (by omega) B0.out (by omega); obtain ⟨x0, d0, d1, d2, d3, d4, d5, d6, d7, d8, d9, d10, ff⟩ := hz7.1.cells; have g0 := ff 0; have g1 := ff 1; have g2 := ff 2; have g3 := ff 3; have g4 := ff 4; have g5 := ff 5; have g6 := ff 6; have g7 := ff 7; have g8 := ff 8; have g9 := ff 9; have g10 := ff 10; clear ff; have Z7 := Lib.hid hz7; obtain ⟨z0, c0, c1, c2, c3, c4, c5, c6, c7, c8, c9, c10, -⟩ := S1.cells; simp only [] at c0; have T7 := Lib.hid S1; clear S1 hz7 hb6 T4)
      | (go_at_call 58; have cd := rdone_any _ s4 _ T7.out.rdr; rw [HT.out] at cd; (with_reducible refine cd.mono ?_); rintro e u8 ⟨rfl, rfl⟩; clear cd))
    refine bodyPost_ret (v := .tuple #[.agg #[.int .i64 0, .int .i64 a, .int .i64 d, .int .i64 0, .int .i64 0, .int .u64 0, .int .i64 t.gen, .int .i64 t.hop, .slice ps t.stamps.length cs, .int .i64 t.table.start, .slice p t.table.rows.length c], .int .i64 0]) (by simp [results, Try.results23, go_sem, *]) rfl ?_
    rw [HOK.out]
    exact ⟨ps, cs, p, c, rfl, after_store Z7.out.1 T7.out.stamps T7.out.rows Z7.out.2 (Nat.le_refl _) (((((((((((grown_set w.heap.size 0 _).trans (grown_set w.heap.size 1 _)).trans (grown_set w.heap.size 2 _)).trans (grown_set w.heap.size 3 _)).trans (grown_set w.heap.size 4 _)).trans (grown_set w.heap.size 5 _)).trans (grown_set w.heap.size 6 _)).trans (grown_set w.heap.size 7 _)).trans (grown_set w.heap.size 8 _)).trans (grown_set w.heap.size 9 _)).trans (grown_set w.heap.size 10 _))⟩

set_option maxRecDepth 100000 in
set_option maxHeartbeats 8000000 in
theorem parse_1 (q : Option Addr) (dq : Nat) (xs : List Int) (w : World) (hl : xs.length ≤ 1000000) (hy : IsBytes xs) (hc : Cel w q xs) (hp : q = none → xs = [] ∧ dq = 0) (hkind : (rdNum rWay (xs, false)).1 = 1) :
    Calls Try.prog 23 #[.slice q xs.length dq] w (Parsed w (rdFrame rWay (xs, false))) := by
  have hK : Hid (∀ s : St, IsBytes s.1 → IsBytes (rdNum rWay s).2.1) := fun s h => rWay_ok.bytes _ _ h
  have hkd := kind_in rWay rWay_ok (xs, false) hy
  have hR : rdFrame rWay (xs, false) = (⟨(rdNum rWay (xs, false)).1, (rdNum rWay (rdNum rWay (xs, false)).2).1, (rdNum rWay (rdNum rWay (rdNum rWay (xs, false)).2).2).1, (rdNum rWay (rdNum rWay (rdNum rWay (rdNum rWay (xs, false)).2).2).2).1, (rdNum rWay (rdNum rWay (rdNum rWay (rdNum rWay (rdNum rWay (xs, false)).2).2).2).2).1, 0, noTk⟩, (rdNum rWay (rdNum rWay (rdNum rWay (rdNum rWay (rdNum rWay (xs, false)).2).2).2).2).2) := by
    unfold rdFrame
    simp only
    rw [if_neg (by omega), if_pos hkind]
  have y1 := hK.out (xs, false) hy
  have C1 := Lib.hid (fun b u h => rnum_w b (xs, false) u h hy)
  generalize rdNum rWay (xs, false) = q1 at hR y1 C1 hkind
  obtain ⟨k, s1⟩ := q1
  simp only at hR y1 C1 hkind
  subst hkind
  have y2 := hK.out s1 y1
  have C2 := Lib.hid (fun b u h => rnum_w b s1 u h y1)
  generalize rdNum rWay s1 = q2 at hR y2 C2
  obtain ⟨a, s2⟩ := q2
  simp only at hR y2 C2
  have y3 := hK.out s2 y2
  have C3 := Lib.hid (fun b u h => rnum_w b s2 u h y2)
  generalize rdNum rWay s2 = q3 at hR y3 C3
  obtain ⟨d, s3⟩ := q3
  simp only at hR y3 C3
  have y4 := hK.out s3 y3
  have C4 := Lib.hid (fun b u h => rnum_w b s3 u h y3)
  generalize rdNum rWay s3 = q4 at hR C4 y4
  obtain ⟨g, s4⟩ := q4
  simp only at hR C4 y4
  have y5 := hK.out s4 y4
  have C5 := Lib.hid (fun b u h => rnum_w b s4 u h y4)
  generalize rdNum rWay s4 = q5 at hR C5 y5
  obtain ⟨hh, s5⟩ := q5
  simp only at hR C5 y5
  have Y4 := Lib.hid y4
  have Y5 := Lib.hid y5
  clear y4 y5
  rw [hR] at hkd ⊢
  have hrt := fun (u : World) (ps : Option Addr) (cs : Nat) (p : Option Addr) (c : Nat) (h1 : IntsS 0 u ps ([] : List Int)) (h2 : RowsS 0 u p ([] : List Rw)) => right_any ⟨1, a, d, g, hh, 0, noTk⟩ ps p cs c u (lying_of h1 h2 (by simp [noTk]) (by simp [noTk]) (by intro r h; simp [noTk] at h))
  unfold frameVal at hrt
  show Calls _ _ _ _ (DecPost w _ _ _ _ _ _ _ _ _ ([] : List Int) ([] : List Rw) (decide (tell s5 = 0 ∧ frameOk ⟨1, a, d, g, hh, 0, noTk⟩ = true)))
  generalize frameOk ⟨1, a, d, g, hh, 0, noTk⟩ = br at hrt
  have HRT : Hid (∀ (u : World) (ps : Option Addr) (cs : Nat) (p : Option Addr) (c : Nat), IntsS 0 u ps ([] : List Int) → RowsS 0 u p ([] : List Rw) → Calls Try.prog 7 #[.agg #[.int .i64 1, .int .i64 a, .int .i64 d, .int .i64 g, .int .i64 hh, .int .u64 0, .int .i64 0, .int .i64 0, .slice ps 0 cs, .int .i64 0, .slice p 0 c]] u (Asked u br)) := hrt
  have Y1 := Lib.hid y1
  have Y2 := Lib.hid y2
  have Y3 := Lib.hid y3
  have hown : ((w.alloc (.cells #[.int .i64 0, .int .i64 0, .int .i64 0, .int .i64 0, .int .i64 0, .int .u64 0, .int .i64 0, .int .i64 0, .slice none 0 0, .int .i64 0, .slice none 0 0] 31)).alloc (.cells #[] 5)).ownsRow (w.heap.size + 1) 5 1 (.slice (some ⟨w.heap.size + 1, 0, none⟩) 0 0) 0 [] := by
    have := World.ownsRow_made (base := w.heap.size + 1) (size := 1) (e := 5) (w.alloc (.cells #[.int .i64 0, .int .i64 0, .int .i64 0, .int .i64 0, .int .i64 0, .int .u64 0, .int .i64 0, .int .i64 0, .slice none 0 0, .int .i64 0, .slice none 0 0] 31)) #[] 0 (by simp) (Nat.zero_le _) rfl
    rwa [show (w.alloc (.cells #[.int .i64 0, .int .i64 0, .int .i64 0, .int .i64 0, .int .i64 0, .int .u64 0, .int .i64 0, .int .i64 0, .slice none 0 0, .int .i64 0, .slice none 0 0] 31)).heap.size = w.heap.size + 1 by simp] at this
  have HOWN := Lib.hid hown
  have HC := Lib.hid (hc.below (((Below.refl w.heap.size w).alloc (Nat.le_refl _) (.cells #[.int .i64 0, .int .i64 0, .int .i64 0, .int .i64 0, .int .i64 0, .int .u64 0, .int .i64 0, .int .i64 0, .slice none 0 0, .int .i64 0, .slice none 0 0] 31)).alloc (by simp) (.cells #[] 5)))
  have HP := Lib.hid hp
  clear hR y1 y2 y3 hy hkd hrt hc hp hown
  have ways : (tell s5 = 2) ∨ (tell s5 = 0 ∧ br = false) ∨ (tell s5 = 0 ∧ br = true) := by
    unfold tell
    split
    · exact .inl rfl
    · cases br
      · exact .inr (.inl ⟨rfl, rfl⟩)
      · exact .inr (.inr ⟨rfl, rfl⟩)
  have e1 : tell s5 = 2 → decide (tell s5 = 0 ∧ br = true) = false := fun h => by rw [h]; simp
  have e2 : br = false → decide (tell s5 = 0 ∧ br = true) = false := fun h => by rw [h]; simp
  have e3 : tell s5 = 0 → br = true → decide (tell s5 = 0 ∧ br = true) = true := fun h h' => by rw [h, h']; simp
  generalize decide (tell s5 = 0 ∧ br = true) = ok at e1 e2 e3 ⊢
  rcases ways with htell | ⟨htell, rfl⟩ | ⟨htell, rfl⟩
  · have HOK := Lib.hid (e1 htell)
    have HT := Lib.hid htell
    clear e1 e2 e3 htell
    go_enter Try.func23, Try.ntmps23
    go_wp2_with (first
      | (at_builtin; refine wpList_clone8 rfl (.tmp 7) (.tmp 8) rfl (w.heap.size + 1) _ rfl HOWN.out q dq _ xs rfl rfl hl HC.out HP.out (by simp) ?_; intro v' w1 ho hg; obtain ⟨pq, cq, rfl⟩ := own_slice ho; obtain ⟨hr, hz, hb, hs⟩ := reader_laid ho rfl hg; have R0 := Lib.hid hr; have Z0 := Lib.hid hz; have B0 := Lib.hid hb; have hlow := hr.lt; clear ho hg hr hz hb HOWN HC HP)
      | (go_at_call 55; (with_reducible refine (C1.out _ _ R0.out).mono ?_); rintro e u1 ⟨rfl, hr, hg⟩; have T1 := Lib.hid (FrmSt.lay hlow hg hr Y1.out 1); clear hr hg R0 hlow)
      | (go_at_call 55; (with_reducible refine (C2.out _ _ T1.out.rdr).mono ?_); rintro e u2 ⟨rfl, hr, hg⟩; have S1 := T1.out.read rw_t hr Y2.out hg; obtain ⟨z0, c0, c1, c2, c3, c4, c5, c6, c7, c8, c9, c10, ee⟩ := S1.cells; simp only [noTk, List.length_nil] at c6 c7 c8 c9 c10; have f1 := ee 1; have T2 := Lib.hid (S1.put 1 (.int .i64 a) ⟨1, a, 0, 0, 0, 0, noTk⟩ rfl rfl); clear S1 hr hg T1 ee)
      | (go_at_call 55; (with_reducible refine (C3.out _ _ T2.out.rdr).mono ?_); rintro e u3 ⟨rfl, hr, hg⟩; clear z0 c0 c1 c2 c3 c4 c5 c6 c7 c8 c9 c10; clear f1; have S1 := T2.out.read rw_t hr Y3.out hg; obtain ⟨z0, c0, c1, c2, c3, c4, c5, c6, c7, c8, c9, c10, ee⟩ := S1.cells; simp only [noTk, List.length_nil] at c6 c7 c8 c9 c10; have f2 := ee 2; have T3 := Lib.hid (S1.put 2 (.int .i64 d) ⟨1, a, d, 0, 0, 0, noTk⟩ rfl rfl); clear S1 hr hg T2 ee)
      | (go_at_call 55; (with_reducible refine (C4.out _ _ T3.out.rdr).mono ?_); rintro e u4 ⟨rfl, hr, hg⟩; clear z0 c0 c1 c2 c3 c4 c5 c6 c7 c8 c9 c10; have S1 := T3.out.read rw_t hr Y4.out hg; obtain ⟨z0, c0, c1, c2, c3, c4, c5, c6, c7, c8, c9, c10, ee⟩ := S1.cells; simp only [noTk, List.length_nil] at c6 c7 c8 c9 c10; have f3 := ee 3; have T3b := Lib.hid (S1.put 3 (.int .i64 g) ⟨1, a, d, g, 0, 0, noTk⟩ rfl rfl); clear S1 hr hg T3 ee)
      | (go_at_call 55; (with_reducible refine (C5.out _ _ T3b.out.rdr).mono ?_); rintro e u5 ⟨rfl, hr, hg⟩; clear z0 c0 c1 c2 c3 c4 c5 c6 c7 c8 c9 c10; clear f3; have S1 := T3b.out.read rw_t hr Y5.out hg; obtain ⟨z0, c0, c1, c2, c3, c4, c5, c6, c7, c8, c9, c10, ee⟩ := S1.cells; simp only [noTk, List.length_nil] at c6 c7 c8 c9 c10; have f4 := ee 4; have T4 := Lib.hid (S1.put 4 (.int .i64 hh) ⟨1, a, d, g, hh, 0, noTk⟩ rfl rfl); clear S1 hr hg T3b ee)
      | (go_at_call 7; (with_reducible refine (HRT.out _ none 0 none 0 T4.out.stamps T4.out.rows).mono ?_); rintro e u6 ⟨rfl, hb6⟩; clear z0 c0 c1 c2 c3 c4 c5 c6 c7 c8 c9 c10; have S1 := T4.out.below hb6; have hz7 := S1.out Z0.out (by omega) B0.out (by omega); obtain ⟨x0, d0, d1, d2, d3, d4, d5, d6, d7, d8, d9, d10, ff⟩ := hz7.1.cells; have g0 := ff 0; have g1 := ff 1; have g2 := ff 2; have g3 := ff 3; have g4 := ff 4; have g5 := ff 5; have g6 := ff 6; have g7 := ff 7; have g8 := ff 8; have g9 := ff 9; have g10 := ff 10; clear ff; have Z7 := Lib.hid hz7; obtain ⟨z0, c0, c1, c2, c3, c4, c5, c6, c7, c8, c9, c10, -⟩ := S1.cells; simp only [noTk, List.length_nil] at c6 c7 c8 c9 c10; have T7 := Lib.hid S1; clear S1 hz7 hb6 T4)
      | (go_at_call 58; have cd := rdone_any _ s5 _ T7.out.rdr; rw [HT.out] at cd; (with_reducible refine cd.mono ?_); rintro e u8 ⟨rfl, rfl⟩; clear cd))
    refine bodyPost_ret (v := .tuple #[.agg #[.int .i64 0, .int .i64 0, .int .i64 0, .int .i64 0, .int .i64 0, .int .u64 0, .int .i64 0, .int .i64 0, .slice none 0 0, .int .i64 0, .slice none 0 0], .int .i64 2]) (by simp [results, Try.results23, go_sem, *]) rfl ?_
    rw [HOK.out]
    exact ⟨none, 0, none, 0, rfl, after_store Z7.out.1 T7.out.stamps T7.out.rows Z7.out.2 (Nat.le_refl _) (((((((((((grown_set w.heap.size 0 _).trans (grown_set w.heap.size 1 _)).trans (grown_set w.heap.size 2 _)).trans (grown_set w.heap.size 3 _)).trans (grown_set w.heap.size 4 _)).trans (grown_set w.heap.size 5 _)).trans (grown_set w.heap.size 6 _)).trans (grown_set w.heap.size 7 _)).trans (grown_set w.heap.size 8 _)).trans (grown_set w.heap.size 9 _)).trans (grown_set w.heap.size 10 _))⟩
  · have HOK := Lib.hid (e2 rfl)
    have HT := Lib.hid htell
    clear e1 e2 e3 htell
    go_enter Try.func23, Try.ntmps23
    go_wp2_with (first
      | (at_builtin; refine wpList_clone8 rfl (.tmp 7) (.tmp 8) rfl (w.heap.size + 1) _ rfl HOWN.out q dq _ xs rfl rfl hl HC.out HP.out (by simp) ?_; intro v' w1 ho hg; obtain ⟨pq, cq, rfl⟩ := own_slice ho; obtain ⟨hr, hz, hb, hs⟩ := reader_laid ho rfl hg; have R0 := Lib.hid hr; have Z0 := Lib.hid hz; have B0 := Lib.hid hb; have hlow := hr.lt; clear ho hg hr hz hb HOWN HC HP)
      | (go_at_call 55; (with_reducible refine (C1.out _ _ R0.out).mono ?_); rintro e u1 ⟨rfl, hr, hg⟩; have T1 := Lib.hid (FrmSt.lay hlow hg hr Y1.out 1); clear hr hg R0 hlow)
      | (go_at_call 55; (with_reducible refine (C2.out _ _ T1.out.rdr).mono ?_); rintro e u2 ⟨rfl, hr, hg⟩; have S1 := T1.out.read rw_t hr Y2.out hg; obtain ⟨z0, c0, c1, c2, c3, c4, c5, c6, c7, c8, c9, c10, ee⟩ := S1.cells; simp only [noTk, List.length_nil] at c6 c7 c8 c9 c10; have f1 := ee 1; have T2 := Lib.hid (S1.put 1 (.int .i64 a) ⟨1, a, 0, 0, 0, 0, noTk⟩ rfl rfl); clear S1 hr hg T1 ee)
      | (go_at_call 55; (with_reducible refine (C3.out _ _ T2.out.rdr).mono ?_); rintro e u3 ⟨rfl, hr, hg⟩; clear z0 c0 c1 c2 c3 c4 c5 c6 c7 c8 c9 c10; clear f1; have S1 := T2.out.read rw_t hr Y3.out hg; obtain ⟨z0, c0, c1, c2, c3, c4, c5, c6, c7, c8, c9, c10, ee⟩ := S1.cells; simp only [noTk, List.length_nil] at c6 c7 c8 c9 c10; have f2 := ee 2; have T3 := Lib.hid (S1.put 2 (.int .i64 d) ⟨1, a, d, 0, 0, 0, noTk⟩ rfl rfl); clear S1 hr hg T2 ee)
      | (go_at_call 55; (with_reducible refine (C4.out _ _ T3.out.rdr).mono ?_); rintro e u4 ⟨rfl, hr, hg⟩; clear z0 c0 c1 c2 c3 c4 c5 c6 c7 c8 c9 c10; have S1 := T3.out.read rw_t hr Y4.out hg; obtain ⟨z0, c0, c1, c2, c3, c4, c5, c6, c7, c8, c9, c10, ee⟩ := S1.cells; simp only [noTk, List.length_nil] at c6 c7 c8 c9 c10; have f3 := ee 3; have T3b := Lib.hid (S1.put 3 (.int .i64 g) ⟨1, a, d, g, 0, 0, noTk⟩ rfl rfl); clear S1 hr hg T3 ee)
      | (go_at_call 55; (with_reducible refine (C5.out _ _ T3b.out.rdr).mono ?_); rintro e u5 ⟨rfl, hr, hg⟩; clear z0 c0 c1 c2 c3 c4 c5 c6 c7 c8 c9 c10; clear f3; have S1 := T3b.out.read rw_t hr Y5.out hg; obtain ⟨z0, c0, c1, c2, c3, c4, c5, c6, c7, c8, c9, c10, ee⟩ := S1.cells; simp only [noTk, List.length_nil] at c6 c7 c8 c9 c10; have f4 := ee 4; have T4 := Lib.hid (S1.put 4 (.int .i64 hh) ⟨1, a, d, g, hh, 0, noTk⟩ rfl rfl); clear S1 hr hg T3b ee)
      | (go_at_call 7; (with_reducible refine (HRT.out _ none 0 none 0 T4.out.stamps T4.out.rows).mono ?_); rintro e u6 ⟨rfl, hb6⟩; clear z0 c0 c1 c2 c3 c4 c5 c6 c7 c8 c9 c10; have S1 := T4.out.below hb6; have hz7 := S1.out Z0.out (by omega) B0.out (by omega); obtain ⟨x0, d0, d1, d2, d3, d4, d5, d6, d7, d8, d9, d10, ff⟩ := hz7.1.cells; have g0 := ff 0; have g1 := ff 1; have g2 := ff 2; have g3 := ff 3; have g4 := ff 4; have g5 := ff 5; have g6 := ff 6; have g7 := ff 7; have g8 := ff 8; have g9 := ff 9; have g10 := ff 10; clear ff; have Z7 := Lib.hid hz7; obtain ⟨z0, c0, c1, c2, c3, c4, c5, c6, c7, c8, c9, c10, -⟩ := S1.cells; simp only [noTk, List.length_nil] at c6 c7 c8 c9 c10; have T7 := Lib.hid S1; clear S1 hz7 hb6 T4)
      | (go_at_call 58; have cd := rdone_any _ s5 _ T7.out.rdr; rw [HT.out] at cd; (with_reducible refine cd.mono ?_); rintro e u8 ⟨rfl, rfl⟩; clear cd))
    refine bodyPost_ret (v := .tuple #[.agg #[.int .i64 0, .int .i64 0, .int .i64 0, .int .i64 0, .int .i64 0, .int .u64 0, .int .i64 0, .int .i64 0, .slice none 0 0, .int .i64 0, .slice none 0 0], .int .i64 2]) (by simp [results, Try.results23, go_sem, *]) rfl ?_
    rw [HOK.out]
    exact ⟨none, 0, none, 0, rfl, after_store Z7.out.1 T7.out.stamps T7.out.rows Z7.out.2 (Nat.le_refl _) (((((((((((grown_set w.heap.size 0 _).trans (grown_set w.heap.size 1 _)).trans (grown_set w.heap.size 2 _)).trans (grown_set w.heap.size 3 _)).trans (grown_set w.heap.size 4 _)).trans (grown_set w.heap.size 5 _)).trans (grown_set w.heap.size 6 _)).trans (grown_set w.heap.size 7 _)).trans (grown_set w.heap.size 8 _)).trans (grown_set w.heap.size 9 _)).trans (grown_set w.heap.size 10 _))⟩
  · have HOK := Lib.hid (e3 htell rfl)
    have HT := Lib.hid htell
    clear e1 e2 e3 htell
    go_enter Try.func23, Try.ntmps23
    go_wp2_with (first
      | (at_builtin; refine wpList_clone8 rfl (.tmp 7) (.tmp 8) rfl (w.heap.size + 1) _ rfl HOWN.out q dq _ xs rfl rfl hl HC.out HP.out (by simp) ?_; intro v' w1 ho hg; obtain ⟨pq, cq, rfl⟩ := own_slice ho; obtain ⟨hr, hz, hb, hs⟩ := reader_laid ho rfl hg; have R0 := Lib.hid hr; have Z0 := Lib.hid hz; have B0 := Lib.hid hb; have hlow := hr.lt; clear ho hg hr hz hb HOWN HC HP)
      | (go_at_call 55; (with_reducible refine (C1.out _ _ R0.out).mono ?_); rintro e u1 ⟨rfl, hr, hg⟩; have T1 := Lib.hid (FrmSt.lay hlow hg hr Y1.out 1); clear hr hg R0 hlow)
      | (go_at_call 55; (with_reducible refine (C2.out _ _ T1.out.rdr).mono ?_); rintro e u2 ⟨rfl, hr, hg⟩; have S1 := T1.out.read rw_t hr Y2.out hg; obtain ⟨z0, c0, c1, c2, c3, c4, c5, c6, c7, c8, c9, c10, ee⟩ := S1.cells; simp only [noTk, List.length_nil] at c6 c7 c8 c9 c10; have f1 := ee 1; have T2 := Lib.hid (S1.put 1 (.int .i64 a) ⟨1, a, 0, 0, 0, 0, noTk⟩ rfl rfl); clear S1 hr hg T1 ee)
      | (go_at_call 55; (with_reducible refine (C3.out _ _ T2.out.rdr).mono ?_); rintro e u3 ⟨rfl, hr, hg⟩; clear z0 c0 c1 c2 c3 c4 c5 c6 c7 c8 c9 c10; clear f1; have S1 := T2.out.read rw_t hr Y3.out hg; obtain ⟨z0, c0, c1, c2, c3, c4, c5, c6, c7, c8, c9, c10, ee⟩ := S1.cells; simp only [noTk, List.length_nil] at c6 c7 c8 c9 c10; have f2 := ee 2; have T3 := Lib.hid (S1.put 2 (.int .i64 d) ⟨1, a, d, 0, 0, 0, noTk⟩ rfl rfl); clear S1 hr hg T2 ee)
      | (go_at_call 55; (with_reducible refine (C4.out _ _ T3.out.rdr).mono ?_); rintro e u4 ⟨rfl, hr, hg⟩; clear z0 c0 c1 c2 c3 c4 c5 c6 c7 c8 c9 c10; have S1 := T3.out.read rw_t hr Y4.out hg; obtain ⟨z0, c0, c1, c2, c3, c4, c5, c6, c7, c8, c9, c10, ee⟩ := S1.cells; simp only [noTk, List.length_nil] at c6 c7 c8 c9 c10; have f3 := ee 3; have T3b := Lib.hid (S1.put 3 (.int .i64 g) ⟨1, a, d, g, 0, 0, noTk⟩ rfl rfl); clear S1 hr hg T3 ee)
      | (go_at_call 55; (with_reducible refine (C5.out _ _ T3b.out.rdr).mono ?_); rintro e u5 ⟨rfl, hr, hg⟩; clear z0 c0 c1 c2 c3 c4 c5 c6 c7 c8 c9 c10; clear f3; have S1 := T3b.out.read rw_t hr Y5.out hg; obtain ⟨z0, c0, c1, c2, c3, c4, c5, c6, c7, c8, c9, c10, ee⟩ := S1.cells; simp only [noTk, List.length_nil] at c6 c7 c8 c9 c10; have f4 := ee 4; have T4 := Lib.hid (S1.put 4 (.int .i64 hh) ⟨1, a, d, g, hh, 0, noTk⟩ rfl rfl); clear S1 hr hg T3b ee)
      | (go_at_call 7; (with_reducible refine (HRT.out _ none 0 none 0 T4.out.stamps T4.out.rows).mono ?_); rintro e u6 ⟨rfl, hb6⟩; clear z0 c0 c1 c2 c3 c4 c5 c6 c7 c8 c9 c10; have S1 := T4.out.below hb6; have hz7 := S1.out Z0.out (by omega) B0.out (by omega); obtain ⟨x0, d0, d1, d2, d3, d4, d5, d6, d7, d8, d9, d10, ff⟩ := hz7.1.cells; have g0 := ff 0; have g1 := ff 1; have g2 := ff 2; have g3 := ff 3; have g4 := ff 4; have g5 := ff 5; have g6 := ff 6; have g7 := ff 7; have g8 := ff 8; have g9 := ff 9; have g10 := ff 10; clear ff; have Z7 := Lib.hid hz7; obtain ⟨z0, c0, c1, c2, c3, c4, c5, c6, c7, c8, c9, c10, -⟩ := S1.cells; simp only [noTk, List.length_nil] at c6 c7 c8 c9 c10; have T7 := Lib.hid S1; clear S1 hz7 hb6 T4)
      | (go_at_call 58; have cd := rdone_any _ s5 _ T7.out.rdr; rw [HT.out] at cd; (with_reducible refine cd.mono ?_); rintro e u8 ⟨rfl, rfl⟩; clear cd))
    refine bodyPost_ret (v := .tuple #[.agg #[.int .i64 1, .int .i64 a, .int .i64 d, .int .i64 g, .int .i64 hh, .int .u64 0, .int .i64 0, .int .i64 0, .slice none 0 0, .int .i64 0, .slice none 0 0], .int .i64 0]) (by simp [results, Try.results23, go_sem, *]) rfl ?_
    rw [HOK.out]
    exact ⟨none, 0, none, 0, rfl, after_store Z7.out.1 T7.out.stamps T7.out.rows Z7.out.2 (Nat.le_refl _) (((((((((((grown_set w.heap.size 0 _).trans (grown_set w.heap.size 1 _)).trans (grown_set w.heap.size 2 _)).trans (grown_set w.heap.size 3 _)).trans (grown_set w.heap.size 4 _)).trans (grown_set w.heap.size 5 _)).trans (grown_set w.heap.size 6 _)).trans (grown_set w.heap.size 7 _)).trans (grown_set w.heap.size 8 _)).trans (grown_set w.heap.size 9 _)).trans (grown_set w.heap.size 10 _))⟩

set_option maxRecDepth 100000 in
set_option maxHeartbeats 8000000 in
theorem parse_2 (q : Option Addr) (dq : Nat) (xs : List Int) (w : World) (hl : xs.length ≤ 1000000) (hy : IsBytes xs) (hc : Cel w q xs) (hp : q = none → xs = [] ∧ dq = 0) (hkind : (rdNum rWay (xs, false)).1 = 2) :
    Calls Try.prog 23 #[.slice q xs.length dq] w (Parsed w (rdFrame rWay (xs, false))) := by
  have hK : Hid (∀ s : St, IsBytes s.1 → IsBytes (rdNum rWay s).2.1) := fun s h => rWay_ok.bytes _ _ h
  have hkd := kind_in rWay rWay_ok (xs, false) hy
  have hR : rdFrame rWay (xs, false) = (⟨(rdNum rWay (xs, false)).1, (rdNum rWay (rdNum rWay (xs, false)).2).1, (rdNum rWay (rdNum rWay (rdNum rWay (xs, false)).2).2).1, (rdNum rWay (rdNum rWay (rdNum rWay (rdNum rWay (xs, false)).2).2).2).1, 0, (rWay.bits (rdNum rWay (rdNum rWay (rdNum rWay (rdNum rWay (xs, false)).2).2).2).2).1, noTk⟩, (rWay.bits (rdNum rWay (rdNum rWay (rdNum rWay (rdNum rWay (xs, false)).2).2).2).2).2) := by
    unfold rdFrame
    simp only
    rw [if_neg (by omega), if_neg (by omega), if_pos hkind]
  have y1 := hK.out (xs, false) hy
  have C1 := Lib.hid (fun b u h => rnum_w b (xs, false) u h hy)
  generalize rdNum rWay (xs, false) = q1 at hR y1 C1 hkind
  obtain ⟨k, s1⟩ := q1
  simp only at hR y1 C1 hkind
  subst hkind
  have y2 := hK.out s1 y1
  have C2 := Lib.hid (fun b u h => rnum_w b s1 u h y1)
  generalize rdNum rWay s1 = q2 at hR y2 C2
  obtain ⟨a, s2⟩ := q2
  simp only at hR y2 C2
  have y3 := hK.out s2 y2
  have C3 := Lib.hid (fun b u h => rnum_w b s2 u h y2)
  generalize rdNum rWay s2 = q3 at hR y3 C3
  obtain ⟨d, s3⟩ := q3
  simp only at hR y3 C3
  have y4 := hK.out s3 y3
  have C4 := Lib.hid (fun b u h => rnum_w b s3 u h y3)
  generalize rdNum rWay s3 = q4 at hR C4 y4
  obtain ⟨g, s4⟩ := q4
  simp only at hR C4 y4
  have y5 : IsBytes (rWay.bits s4).2.1 := rBits_ok y4
  have C5 := Lib.hid (fun b u h => rbits_w b s4 u h y4)
  generalize rWay.bits s4 = q5 at hR C5 y5
  obtain ⟨hh, s5⟩ := q5
  simp only at hR C5 y5
  have Y4 := Lib.hid y4
  have Y5 := Lib.hid y5
  clear y4 y5
  rw [hR] at hkd ⊢
  have hrt := fun (u : World) (ps : Option Addr) (cs : Nat) (p : Option Addr) (c : Nat) (h1 : IntsS 0 u ps ([] : List Int)) (h2 : RowsS 0 u p ([] : List Rw)) => right_any ⟨2, a, d, g, 0, hh, noTk⟩ ps p cs c u (lying_of h1 h2 (by simp [noTk]) (by simp [noTk]) (by intro r h; simp [noTk] at h))
  unfold frameVal at hrt
  show Calls _ _ _ _ (DecPost w _ _ _ _ _ _ _ _ _ ([] : List Int) ([] : List Rw) (decide (tell s5 = 0 ∧ frameOk ⟨2, a, d, g, 0, hh, noTk⟩ = true)))
  generalize frameOk ⟨2, a, d, g, 0, hh, noTk⟩ = br at hrt
  have HRT : Hid (∀ (u : World) (ps : Option Addr) (cs : Nat) (p : Option Addr) (c : Nat), IntsS 0 u ps ([] : List Int) → RowsS 0 u p ([] : List Rw) → Calls Try.prog 7 #[.agg #[.int .i64 2, .int .i64 a, .int .i64 d, .int .i64 g, .int .i64 0, .int .u64 hh, .int .i64 0, .int .i64 0, .slice ps 0 cs, .int .i64 0, .slice p 0 c]] u (Asked u br)) := hrt
  have Y1 := Lib.hid y1
  have Y2 := Lib.hid y2
  have Y3 := Lib.hid y3
  have hown : ((w.alloc (.cells #[.int .i64 0, .int .i64 0, .int .i64 0, .int .i64 0, .int .i64 0, .int .u64 0, .int .i64 0, .int .i64 0, .slice none 0 0, .int .i64 0, .slice none 0 0] 31)).alloc (.cells #[] 5)).ownsRow (w.heap.size + 1) 5 1 (.slice (some ⟨w.heap.size + 1, 0, none⟩) 0 0) 0 [] := by
    have := World.ownsRow_made (base := w.heap.size + 1) (size := 1) (e := 5) (w.alloc (.cells #[.int .i64 0, .int .i64 0, .int .i64 0, .int .i64 0, .int .i64 0, .int .u64 0, .int .i64 0, .int .i64 0, .slice none 0 0, .int .i64 0, .slice none 0 0] 31)) #[] 0 (by simp) (Nat.zero_le _) rfl
    rwa [show (w.alloc (.cells #[.int .i64 0, .int .i64 0, .int .i64 0, .int .i64 0, .int .i64 0, .int .u64 0, .int .i64 0, .int .i64 0, .slice none 0 0, .int .i64 0, .slice none 0 0] 31)).heap.size = w.heap.size + 1 by simp] at this
  have HOWN := Lib.hid hown
  have HC := Lib.hid (hc.below (((Below.refl w.heap.size w).alloc (Nat.le_refl _) (.cells #[.int .i64 0, .int .i64 0, .int .i64 0, .int .i64 0, .int .i64 0, .int .u64 0, .int .i64 0, .int .i64 0, .slice none 0 0, .int .i64 0, .slice none 0 0] 31)).alloc (by simp) (.cells #[] 5)))
  have HP := Lib.hid hp
  clear hR y1 y2 y3 hy hkd hrt hc hp hown
  have ways : (tell s5 = 2) ∨ (tell s5 = 0 ∧ br = false) ∨ (tell s5 = 0 ∧ br = true) := by
    unfold tell
    split
    · exact .inl rfl
    · cases br
      · exact .inr (.inl ⟨rfl, rfl⟩)
      · exact .inr (.inr ⟨rfl, rfl⟩)
  have e1 : tell s5 = 2 → decide (tell s5 = 0 ∧ br = true) = false := fun h => by rw [h]; simp
  have e2 : br = false → decide (tell s5 = 0 ∧ br = true) = false := fun h => by rw [h]; simp
  have e3 : tell s5 = 0 → br = true → decide (tell s5 = 0 ∧ br = true) = true := fun h h' => by rw [h, h']; simp
  generalize decide (tell s5 = 0 ∧ br = true) = ok at e1 e2 e3 ⊢
  rcases ways with htell | ⟨htell, rfl⟩ | ⟨htell, rfl⟩
  · have HOK := Lib.hid (e1 htell)
    have HT := Lib.hid htell
    clear e1 e2 e3 htell
    go_enter Try.func23, Try.ntmps23
    go_wp2_with (first
      | (at_builtin; refine wpList_clone8 rfl (.tmp 7) (.tmp 8) rfl (w.heap.size + 1) _ rfl HOWN.out q dq _ xs rfl rfl hl HC.out HP.out (by simp) ?_; intro v' w1 ho hg; obtain ⟨pq, cq, rfl⟩ := own_slice ho; obtain ⟨hr, hz, hb, hs⟩ := reader_laid ho rfl hg; have R0 := Lib.hid hr; have Z0 := Lib.hid hz; have B0 := Lib.hid hb; have hlow := hr.lt; clear ho hg hr hz hb HOWN HC HP)
      | (go_at_call 55; (with_reducible refine (C1.out _ _ R0.out).mono ?_); rintro e u1 ⟨rfl, hr, hg⟩; have T1 := Lib.hid (FrmSt.lay hlow hg hr Y1.out 2); clear hr hg R0 hlow)
      | (go_at_call 55; (with_reducible refine (C2.out _ _ T1.out.rdr).mono ?_); rintro e u2 ⟨rfl, hr, hg⟩; have S1 := T1.out.read rw_t hr Y2.out hg; obtain ⟨z0, c0, c1, c2, c3, c4, c5, c6, c7, c8, c9, c10, ee⟩ := S1.cells; simp only [noTk, List.length_nil] at c6 c7 c8 c9 c10; have f1 := ee 1; have T2 := Lib.hid (S1.put 1 (.int .i64 a) ⟨2, a, 0, 0, 0, 0, noTk⟩ rfl rfl); clear S1 hr hg T1 ee)
      | (go_at_call 55; (with_reducible refine (C3.out _ _ T2.out.rdr).mono ?_); rintro e u3 ⟨rfl, hr, hg⟩; clear z0 c0 c1 c2 c3 c4 c5 c6 c7 c8 c9 c10; clear f1; have S1 := T2.out.read rw_t hr Y3.out hg; obtain ⟨z0, c0, c1, c2, c3, c4, c5, c6, c7, c8, c9, c10, ee⟩ := S1.cells; simp only [noTk, List.length_nil] at c6 c7 c8 c9 c10; have f2 := ee 2; have T3 := Lib.hid (S1.put 2 (.int .i64 d) ⟨2, a, d, 0, 0, 0, noTk⟩ rfl rfl); clear S1 hr hg T2 ee)
      | (go_at_call 55; (with_reducible refine (C4.out _ _ T3.out.rdr).mono ?_); rintro e u4 ⟨rfl, hr, hg⟩; clear z0 c0 c1 c2 c3 c4 c5 c6 c7 c8 c9 c10; have S1 := T3.out.read rw_t hr Y4.out hg; obtain ⟨z0, c0, c1, c2, c3, c4, c5, c6, c7, c8, c9, c10, ee⟩ := S1.cells; simp only [noTk, List.length_nil] at c6 c7 c8 c9 c10; have f3 := ee 3; have T3b := Lib.hid (S1.put 3 (.int .i64 g) ⟨2, a, d, g, 0, 0, noTk⟩ rfl rfl); clear S1 hr hg T3 ee)
      | (go_at_call 57; (with_reducible refine (C5.out _ _ T3b.out.rdr).mono ?_); rintro e u5 ⟨rfl, hr, hg⟩; clear z0 c0 c1 c2 c3 c4 c5 c6 c7 c8 c9 c10; clear f3; have S1 := T3b.out.read rw_t hr Y5.out hg; obtain ⟨z0, c0, c1, c2, c3, c4, c5, c6, c7, c8, c9, c10, ee⟩ := S1.cells; simp only [noTk, List.length_nil] at c6 c7 c8 c9 c10; have f5 := ee 5; have T4 := Lib.hid (S1.put 5 (.int .u64 hh) ⟨2, a, d, g, 0, hh, noTk⟩ rfl rfl); clear S1 hr hg T3b ee)
      | (go_at_call 7; (with_reducible refine (HRT.out _ none 0 none 0 T4.out.stamps T4.out.rows).mono ?_); rintro e u6 ⟨rfl, hb6⟩; clear z0 c0 c1 c2 c3 c4 c5 c6 c7 c8 c9 c10; have S1 := T4.out.below hb6; have hz7 := S1.out Z0.out (by omega) B0.out (by omega); obtain ⟨x0, d0, d1, d2, d3, d4, d5, d6, d7, d8, d9, d10, ff⟩ := hz7.1.cells; have g0 := ff 0; have g1 := ff 1; have g2 := ff 2; have g3 := ff 3; have g4 := ff 4; have g5 := ff 5; have g6 := ff 6; have g7 := ff 7; have g8 := ff 8; have g9 := ff 9; have g10 := ff 10; clear ff; have Z7 := Lib.hid hz7; obtain ⟨z0, c0, c1, c2, c3, c4, c5, c6, c7, c8, c9, c10, -⟩ := S1.cells; simp only [noTk, List.length_nil] at c6 c7 c8 c9 c10; have T7 := Lib.hid S1; clear S1 hz7 hb6 T4)
      | (go_at_call 58; have cd := rdone_any _ s5 _ T7.out.rdr; rw [HT.out] at cd; (with_reducible refine cd.mono ?_); rintro e u8 ⟨rfl, rfl⟩; clear cd))
    refine bodyPost_ret (v := .tuple #[.agg #[.int .i64 0, .int .i64 0, .int .i64 0, .int .i64 0, .int .i64 0, .int .u64 0, .int .i64 0, .int .i64 0, .slice none 0 0, .int .i64 0, .slice none 0 0], .int .i64 2]) (by simp [results, Try.results23, go_sem, *]) rfl ?_
    rw [HOK.out]
    exact ⟨none, 0, none, 0, rfl, after_store Z7.out.1 T7.out.stamps T7.out.rows Z7.out.2 (Nat.le_refl _) (((((((((((grown_set w.heap.size 0 _).trans (grown_set w.heap.size 1 _)).trans (grown_set w.heap.size 2 _)).trans (grown_set w.heap.size 3 _)).trans (grown_set w.heap.size 4 _)).trans (grown_set w.heap.size 5 _)).trans (grown_set w.heap.size 6 _)).trans (grown_set w.heap.size 7 _)).trans (grown_set w.heap.size 8 _)).trans (grown_set w.heap.size 9 _)).trans (grown_set w.heap.size 10 _))⟩
  · have HOK := Lib.hid (e2 rfl)
    have HT := Lib.hid htell
    clear e1 e2 e3 htell
    go_enter Try.func23, Try.ntmps23
    go_wp2_with (first
      | (at_builtin; refine wpList_clone8 rfl (.tmp 7) (.tmp 8) rfl (w.heap.size + 1) _ rfl HOWN.out q dq _ xs rfl rfl hl HC.out HP.out (by simp) ?_; intro v' w1 ho hg; obtain ⟨pq, cq, rfl⟩ := own_slice ho; obtain ⟨hr, hz, hb, hs⟩ := reader_laid ho rfl hg; have R0 := Lib.hid hr; have Z0 := Lib.hid hz; have B0 := Lib.hid hb; have hlow := hr.lt; clear ho hg hr hz hb HOWN HC HP)
      | (go_at_call 55; (with_reducible refine (C1.out _ _ R0.out).mono ?_); rintro e u1 ⟨rfl, hr, hg⟩; have T1 := Lib.hid (FrmSt.lay hlow hg hr Y1.out 2); clear hr hg R0 hlow)
      | (go_at_call 55; (with_reducible refine (C2.out _ _ T1.out.rdr).mono ?_); rintro e u2 ⟨rfl, hr, hg⟩; have S1 := T1.out.read rw_t hr Y2.out hg; obtain ⟨z0, c0, c1, c2, c3, c4, c5, c6, c7, c8, c9, c10, ee⟩ := S1.cells; simp only [noTk, List.length_nil] at c6 c7 c8 c9 c10; have f1 := ee 1; have T2 := Lib.hid (S1.put 1 (.int .i64 a) ⟨2, a, 0, 0, 0, 0, noTk⟩ rfl rfl); clear S1 hr hg T1 ee)
      | (go_at_call 55; (with_reducible refine (C3.out _ _ T2.out.rdr).mono ?_); rintro e u3 ⟨rfl, hr, hg⟩; clear z0 c0 c1 c2 c3 c4 c5 c6 c7 c8 c9 c10; clear f1; have S1 := T2.out.read rw_t hr Y3.out hg; obtain ⟨z0, c0, c1, c2, c3, c4, c5, c6, c7, c8, c9, c10, ee⟩ := S1.cells; simp only [noTk, List.length_nil] at c6 c7 c8 c9 c10; have f2 := ee 2; have T3 := Lib.hid (S1.put 2 (.int .i64 d) ⟨2, a, d, 0, 0, 0, noTk⟩ rfl rfl); clear S1 hr hg T2 ee)
      | (go_at_call 55; (with_reducible refine (C4.out _ _ T3.out.rdr).mono ?_); rintro e u4 ⟨rfl, hr, hg⟩; clear z0 c0 c1 c2 c3 c4 c5 c6 c7 c8 c9 c10; have S1 := T3.out.read rw_t hr Y4.out hg; obtain ⟨z0, c0, c1, c2, c3, c4, c5, c6, c7, c8, c9, c10, ee⟩ := S1.cells; simp only [noTk, List.length_nil] at c6 c7 c8 c9 c10; have f3 := ee 3; have T3b := Lib.hid (S1.put 3 (.int .i64 g) ⟨2, a, d, g, 0, 0, noTk⟩ rfl rfl); clear S1 hr hg T3 ee)
      | (go_at_call 57; (with_reducible refine (C5.out _ _ T3b.out.rdr).mono ?_); rintro e u5 ⟨rfl, hr, hg⟩; clear z0 c0 c1 c2 c3 c4 c5 c6 c7 c8 c9 c10; clear f3; have S1 := T3b.out.read rw_t hr Y5.out hg; obtain ⟨z0, c0, c1, c2, c3, c4, c5, c6, c7, c8, c9, c10, ee⟩ := S1.cells; simp only [noTk, List.length_nil] at c6 c7 c8 c9 c10; have f5 := ee 5; have T4 := Lib.hid (S1.put 5 (.int .u64 hh) ⟨2, a, d, g, 0, hh, noTk⟩ rfl rfl); clear S1 hr hg T3b ee)
      | (go_at_call 7; (with_reducible refine (HRT.out _ none 0 none 0 T4.out.stamps T4.out.rows).mono ?_); rintro e u6 ⟨rfl, hb6⟩; clear z0 c0 c1 c2 c3 c4 c5 c6 c7 c8 c9 c10; have S1 := T4.out.below hb6; have hz7 := S1.out Z0.out (by omega) B0.out (by omega); obtain ⟨x0, d0, d1, d2, d3, d4, d5, d6, d7, d8, d9, d10, ff⟩ := hz7.1.cells; have g0 := ff 0; have g1 := ff 1; have g2 := ff 2; have g3 := ff 3; have g4 := ff 4; have g5 := ff 5; have g6 := ff 6; have g7 := ff 7; have g8 := ff 8; have g9 := ff 9; have g10 := ff 10; clear ff; have Z7 := Lib.hid hz7; obtain ⟨z0, c0, c1, c2, c3, c4, c5, c6, c7, c8, c9, c10, -⟩ := S1.cells; simp only [noTk, List.length_nil] at c6 c7 c8 c9 c10; have T7 := Lib.hid S1; clear S1 hz7 hb6 T4)
      | (go_at_call 58; have cd := rdone_any _ s5 _ T7.out.rdr; rw [HT.out] at cd; (with_reducible refine cd.mono ?_); rintro e u8 ⟨rfl, rfl⟩; clear cd))
    refine bodyPost_ret (v := .tuple #[.agg #[.int .i64 0, .int .i64 0, .int .i64 0, .int .i64 0, .int .i64 0, .int .u64 0, .int .i64 0, .int .i64 0, .slice none 0 0, .int .i64 0, .slice none 0 0], .int .i64 2]) (by simp [results, Try.results23, go_sem, *]) rfl ?_
    rw [HOK.out]
    exact ⟨none, 0, none, 0, rfl, after_store Z7.out.1 T7.out.stamps T7.out.rows Z7.out.2 (Nat.le_refl _) (((((((((((grown_set w.heap.size 0 _).trans (grown_set w.heap.size 1 _)).trans (grown_set w.heap.size 2 _)).trans (grown_set w.heap.size 3 _)).trans (grown_set w.heap.size 4 _)).trans (grown_set w.heap.size 5 _)).trans (grown_set w.heap.size 6 _)).trans (grown_set w.heap.size 7 _)).trans (grown_set w.heap.size 8 _)).trans (grown_set w.heap.size 9 _)).trans (grown_set w.heap.size 10 _))⟩
  · have HOK := Lib.hid (e3 htell rfl)
    have HT := Lib.hid htell
    clear e1 e2 e3 htell
    go_enter Try.func23, Try.ntmps23
    go_wp2_with (first
      | (at_builtin; refine wpList_clone8 rfl (.tmp 7) (.tmp 8) rfl (w.heap.size + 1) _ rfl HOWN.out q dq _ xs rfl rfl hl HC.out HP.out (by simp) ?_; intro v' w1 ho hg; obtain ⟨pq, cq, rfl⟩ := own_slice ho; obtain ⟨hr, hz, hb, hs⟩ := reader_laid ho rfl hg; have R0 := Lib.hid hr; have Z0 := Lib.hid hz; have B0 := Lib.hid hb; have hlow := hr.lt; clear ho hg hr hz hb HOWN HC HP)
      | (go_at_call 55; (with_reducible refine (C1.out _ _ R0.out).mono ?_); rintro e u1 ⟨rfl, hr, hg⟩; have T1 := Lib.hid (FrmSt.lay hlow hg hr Y1.out 2); clear hr hg R0 hlow)
      | (go_at_call 55; (with_reducible refine (C2.out _ _ T1.out.rdr).mono ?_); rintro e u2 ⟨rfl, hr, hg⟩; have S1 := T1.out.read rw_t hr Y2.out hg; obtain ⟨z0, c0, c1, c2, c3, c4, c5, c6, c7, c8, c9, c10, ee⟩ := S1.cells; simp only [noTk, List.length_nil] at c6 c7 c8 c9 c10; have f1 := ee 1; have T2 := Lib.hid (S1.put 1 (.int .i64 a) ⟨2, a, 0, 0, 0, 0, noTk⟩ rfl rfl); clear S1 hr hg T1 ee)
      | (go_at_call 55; (with_reducible refine (C3.out _ _ T2.out.rdr).mono ?_); rintro e u3 ⟨rfl, hr, hg⟩; clear z0 c0 c1 c2 c3 c4 c5 c6 c7 c8 c9 c10; clear f1; have S1 := T2.out.read rw_t hr Y3.out hg; obtain ⟨z0, c0, c1, c2, c3, c4, c5, c6, c7, c8, c9, c10, ee⟩ := S1.cells; simp only [noTk, List.length_nil] at c6 c7 c8 c9 c10; have f2 := ee 2; have T3 := Lib.hid (S1.put 2 (.int .i64 d) ⟨2, a, d, 0, 0, 0, noTk⟩ rfl rfl); clear S1 hr hg T2 ee)
      | (go_at_call 55; (with_reducible refine (C4.out _ _ T3.out.rdr).mono ?_); rintro e u4 ⟨rfl, hr, hg⟩; clear z0 c0 c1 c2 c3 c4 c5 c6 c7 c8 c9 c10; have S1 := T3.out.read rw_t hr Y4.out hg; obtain ⟨z0, c0, c1, c2, c3, c4, c5, c6, c7, c8, c9, c10, ee⟩ := S1.cells; simp only [noTk, List.length_nil] at c6 c7 c8 c9 c10; have f3 := ee 3; have T3b := Lib.hid (S1.put 3 (.int .i64 g) ⟨2, a, d, g, 0, 0, noTk⟩ rfl rfl); clear S1 hr hg T3 ee)
      | (go_at_call 57; (with_reducible refine (C5.out _ _ T3b.out.rdr).mono ?_); rintro e u5 ⟨rfl, hr, hg⟩; clear z0 c0 c1 c2 c3 c4 c5 c6 c7 c8 c9 c10; clear f3; have S1 := T3b.out.read rw_t hr Y5.out hg; obtain ⟨z0, c0, c1, c2, c3, c4, c5, c6, c7, c8, c9, c10, ee⟩ := S1.cells; simp only [noTk, List.length_nil] at c6 c7 c8 c9 c10; have f5 := ee 5; have T4 := Lib.hid (S1.put 5 (.int .u64 hh) ⟨2, a, d, g, 0, hh, noTk⟩ rfl rfl); clear S1 hr hg T3b ee)
      | (go_at_call 7; (with_reducible refine (HRT.out _ none 0 none 0 T4.out.stamps T4.out.rows).mono ?_); rintro e u6 ⟨rfl, hb6⟩; clear z0 c0 c1 c2 c3 c4 c5 c6 c7 c8 c9 c10; have S1 := T4.out.below hb6; have hz7 := S1.out Z0.out (by omega) B0.out (by omega); obtain ⟨x0, d0, d1, d2, d3, d4, d5, d6, d7, d8, d9, d10, ff⟩ := hz7.1.cells; have g0 := ff 0; have g1 := ff 1; have g2 := ff 2; have g3 := ff 3; have g4 := ff 4; have g5 := ff 5; have g6 := ff 6; have g7 := ff 7; have g8 := ff 8; have g9 := ff 9; have g10 := ff 10; clear ff; have Z7 := Lib.hid hz7; obtain ⟨z0, c0, c1, c2, c3, c4, c5, c6, c7, c8, c9, c10, -⟩ := S1.cells; simp only [noTk, List.length_nil] at c6 c7 c8 c9 c10; have T7 := Lib.hid S1; clear S1 hz7 hb6 T4)
      | (go_at_call 58; have cd := rdone_any _ s5 _ T7.out.rdr; rw [HT.out] at cd; (with_reducible refine cd.mono ?_); rintro e u8 ⟨rfl, rfl⟩; clear cd))
    refine bodyPost_ret (v := .tuple #[.agg #[.int .i64 2, .int .i64 a, .int .i64 d, .int .i64 g, .int .i64 0, .int .u64 hh, .int .i64 0, .int .i64 0, .slice none 0 0, .int .i64 0, .slice none 0 0], .int .i64 0]) (by simp [results, Try.results23, go_sem, *]) rfl ?_
    rw [HOK.out]
    exact ⟨none, 0, none, 0, rfl, after_store Z7.out.1 T7.out.stamps T7.out.rows Z7.out.2 (Nat.le_refl _) (((((((((((grown_set w.heap.size 0 _).trans (grown_set w.heap.size 1 _)).trans (grown_set w.heap.size 2 _)).trans (grown_set w.heap.size 3 _)).trans (grown_set w.heap.size 4 _)).trans (grown_set w.heap.size 5 _)).trans (grown_set w.heap.size 6 _)).trans (grown_set w.heap.size 7 _)).trans (grown_set w.heap.size 8 _)).trans (grown_set w.heap.size 9 _)).trans (grown_set w.heap.size 10 _))⟩

set_option maxRecDepth 100000 in
set_option maxHeartbeats 8000000 in
theorem parse_3 (q : Option Addr) (dq : Nat) (xs : List Int) (w : World) (hl : xs.length ≤ 1000000) (hy : IsBytes xs) (hc : Cel w q xs) (hp : q = none → xs = [] ∧ dq = 0) (hkind : (rdNum rWay (xs, false)).1 ≠ 0 ∧ (rdNum rWay (xs, false)).1 ≠ 1 ∧ (rdNum rWay (xs, false)).1 ≠ 2) :
    Calls Try.prog 23 #[.slice q xs.length dq] w (Parsed w (rdFrame rWay (xs, false))) := by
  have hK : Hid (∀ s : St, IsBytes s.1 → IsBytes (rdNum rWay s).2.1) := fun s h => rWay_ok.bytes _ _ h
  have hkd := kind_in rWay rWay_ok (xs, false) hy
  have hR : rdFrame rWay (xs, false) = (⟨(rdNum rWay (xs, false)).1, (rdNum rWay (rdNum rWay (xs, false)).2).1, (rdNum rWay (rdNum rWay (rdNum rWay (xs, false)).2).2).1, 0, 0, 0, noTk⟩, (rdNum rWay (rdNum rWay (rdNum rWay (xs, false)).2).2).2) := by
    unfold rdFrame
    simp only
    rw [if_neg hkind.1, if_neg hkind.2.1, if_neg hkind.2.2]
  have y1 := hK.out (xs, false) hy
  have C1 := Lib.hid (fun b u h => rnum_w b (xs, false) u h hy)
  generalize rdNum rWay (xs, false) = q1 at hR y1 C1 hkind
  obtain ⟨k, s1⟩ := q1
  simp only at hR y1 C1 hkind
  have y2 := hK.out s1 y1
  have C2 := Lib.hid (fun b u h => rnum_w b s1 u h y1)
  generalize rdNum rWay s1 = q2 at hR y2 C2
  obtain ⟨a, s2⟩ := q2
  simp only at hR y2 C2
  have y3 := hK.out s2 y2
  have C3 := Lib.hid (fun b u h => rnum_w b s2 u h y2)
  generalize rdNum rWay s2 = q3 at hR y3 C3
  obtain ⟨d, s3⟩ := q3
  simp only at hR y3 C3
  rw [hR] at hkd ⊢
  have hrt := fun (u : World) (ps : Option Addr) (cs : Nat) (p : Option Addr) (c : Nat) (h1 : IntsS 0 u ps ([] : List Int)) (h2 : RowsS 0 u p ([] : List Rw)) => right_any ⟨k, a, d, 0, 0, 0, noTk⟩ ps p cs c u (lying_of h1 h2 (by simp [noTk]) (by simp [noTk]) (by intro r h; simp [noTk] at h))
  unfold frameVal at hrt
  show Calls _ _ _ _ (DecPost w _ _ _ _ _ _ _ _ _ ([] : List Int) ([] : List Rw) (decide (tell s3 = 0 ∧ frameOk ⟨k, a, d, 0, 0, 0, noTk⟩ = true)))
  generalize frameOk ⟨k, a, d, 0, 0, 0, noTk⟩ = br at hrt
  have HRT : Hid (∀ (u : World) (ps : Option Addr) (cs : Nat) (p : Option Addr) (c : Nat), IntsS 0 u ps ([] : List Int) → RowsS 0 u p ([] : List Rw) → Calls Try.prog 7 #[.agg #[.int .i64 k, .int .i64 a, .int .i64 d, .int .i64 0, .int .i64 0, .int .u64 0, .int .i64 0, .int .i64 0, .slice ps 0 cs, .int .i64 0, .slice p 0 c]] u (Asked u br)) := hrt
  have Y1 := Lib.hid y1
  have Y2 := Lib.hid y2
  have Y3 := Lib.hid y3
  have hown : ((w.alloc (.cells #[.int .i64 0, .int .i64 0, .int .i64 0, .int .i64 0, .int .i64 0, .int .u64 0, .int .i64 0, .int .i64 0, .slice none 0 0, .int .i64 0, .slice none 0 0] 31)).alloc (.cells #[] 5)).ownsRow (w.heap.size + 1) 5 1 (.slice (some ⟨w.heap.size + 1, 0, none⟩) 0 0) 0 [] := by
    have := World.ownsRow_made (base := w.heap.size + 1) (size := 1) (e := 5) (w.alloc (.cells #[.int .i64 0, .int .i64 0, .int .i64 0, .int .i64 0, .int .i64 0, .int .u64 0, .int .i64 0, .int .i64 0, .slice none 0 0, .int .i64 0, .slice none 0 0] 31)) #[] 0 (by simp) (Nat.zero_le _) rfl
    rwa [show (w.alloc (.cells #[.int .i64 0, .int .i64 0, .int .i64 0, .int .i64 0, .int .i64 0, .int .u64 0, .int .i64 0, .int .i64 0, .slice none 0 0, .int .i64 0, .slice none 0 0] 31)).heap.size = w.heap.size + 1 by simp] at this
  have HOWN := Lib.hid hown
  have HC := Lib.hid (hc.below (((Below.refl w.heap.size w).alloc (Nat.le_refl _) (.cells #[.int .i64 0, .int .i64 0, .int .i64 0, .int .i64 0, .int .i64 0, .int .u64 0, .int .i64 0, .int .i64 0, .slice none 0 0, .int .i64 0, .slice none 0 0] 31)).alloc (by simp) (.cells #[] 5)))
  have HP := Lib.hid hp
  have n0 : (k == 0) = false := by simpa using hkind.1
  have n1 : (k == 1) = false := by simpa using hkind.2.1
  have n2 : (k == 2) = false := by simpa using hkind.2.2
  clear hkind
  clear hR y1 y2 y3 hy hkd hrt hc hp hown
  have ways : (tell s3 = 2) ∨ (tell s3 = 0 ∧ br = false) ∨ (tell s3 = 0 ∧ br = true) := by
    unfold tell
    split
    · exact .inl rfl
    · cases br
      · exact .inr (.inl ⟨rfl, rfl⟩)
      · exact .inr (.inr ⟨rfl, rfl⟩)
  have e1 : tell s3 = 2 → decide (tell s3 = 0 ∧ br = true) = false := fun h => by rw [h]; simp
  have e2 : br = false → decide (tell s3 = 0 ∧ br = true) = false := fun h => by rw [h]; simp
  have e3 : tell s3 = 0 → br = true → decide (tell s3 = 0 ∧ br = true) = true := fun h h' => by rw [h, h']; simp
  generalize decide (tell s3 = 0 ∧ br = true) = ok at e1 e2 e3 ⊢
  rcases ways with htell | ⟨htell, rfl⟩ | ⟨htell, rfl⟩
  · have HOK := Lib.hid (e1 htell)
    have HT := Lib.hid htell
    clear e1 e2 e3 htell
    go_enter Try.func23, Try.ntmps23
    go_wp2_with (first
      | (at_builtin; refine wpList_clone8 rfl (.tmp 7) (.tmp 8) rfl (w.heap.size + 1) _ rfl HOWN.out q dq _ xs rfl rfl hl HC.out HP.out (by simp) ?_; intro v' w1 ho hg; obtain ⟨pq, cq, rfl⟩ := own_slice ho; obtain ⟨hr, hz, hb, hs⟩ := reader_laid ho rfl hg; have R0 := Lib.hid hr; have Z0 := Lib.hid hz; have B0 := Lib.hid hb; have hlow := hr.lt; clear ho hg hr hz hb HOWN HC HP)
      | (go_at_call 55; (with_reducible refine (C1.out _ _ R0.out).mono ?_); rintro e u1 ⟨rfl, hr, hg⟩; have T1 := Lib.hid (FrmSt.lay hlow hg hr Y1.out k); clear hr hg R0 hlow)
      | (go_at_call 55; (with_reducible refine (C2.out _ _ T1.out.rdr).mono ?_); rintro e u2 ⟨rfl, hr, hg⟩; have S1 := T1.out.read rw_t hr Y2.out hg; obtain ⟨z0, c0, c1, c2, c3, c4, c5, c6, c7, c8, c9, c10, ee⟩ := S1.cells; simp only [noTk, List.length_nil] at c6 c7 c8 c9 c10; have f1 := ee 1; have T2 := Lib.hid (S1.put 1 (.int .i64 a) ⟨k, a, 0, 0, 0, 0, noTk⟩ rfl rfl); clear S1 hr hg T1 ee)
      | (go_at_call 55; (with_reducible refine (C3.out _ _ T2.out.rdr).mono ?_); rintro e u3 ⟨rfl, hr, hg⟩; clear z0 c0 c1 c2 c3 c4 c5 c6 c7 c8 c9 c10; clear f1; have S1 := T2.out.read rw_t hr Y3.out hg; obtain ⟨z0, c0, c1, c2, c3, c4, c5, c6, c7, c8, c9, c10, ee⟩ := S1.cells; simp only [noTk, List.length_nil] at c6 c7 c8 c9 c10; have f2 := ee 2; have T3 := Lib.hid (S1.put 2 (.int .i64 d) ⟨k, a, d, 0, 0, 0, noTk⟩ rfl rfl); clear S1 hr hg T2 ee)
      | (go_at_call 7; (with_reducible refine (HRT.out _ none 0 none 0 T3.out.stamps T3.out.rows).mono ?_); rintro e u6 ⟨rfl, hb6⟩; clear z0 c0 c1 c2 c3 c4 c5 c6 c7 c8 c9 c10; have S1 := T3.out.below hb6; have hz7 := S1.out Z0.out (by omega) B0.out (by omega); obtain ⟨x0, d0, d1, d2, d3, d4, d5, d6, d7, d8, d9, d10, ff⟩ := hz7.1.cells; have g0 := ff 0; have g1 := ff 1; have g2 := ff 2; have g3 := ff 3; have g4 := ff 4; have g5 := ff 5; have g6 := ff 6; have g7 := ff 7; have g8 := ff 8; have g9 := ff 9; have g10 := ff 10; clear ff; have Z7 := Lib.hid hz7; obtain ⟨z0, c0, c1, c2, c3, c4, c5, c6, c7, c8, c9, c10, -⟩ := S1.cells; simp only [noTk, List.length_nil] at c6 c7 c8 c9 c10; have T7 := Lib.hid S1; clear S1 hz7 hb6 T3)
      | (go_at_call 58; have cd := rdone_any _ s3 _ T7.out.rdr; rw [HT.out] at cd; (with_reducible refine cd.mono ?_); rintro e u8 ⟨rfl, rfl⟩; clear cd))
    refine bodyPost_ret (v := .tuple #[.agg #[.int .i64 0, .int .i64 0, .int .i64 0, .int .i64 0, .int .i64 0, .int .u64 0, .int .i64 0, .int .i64 0, .slice none 0 0, .int .i64 0, .slice none 0 0], .int .i64 2]) (by simp [results, Try.results23, go_sem, *]) rfl ?_
    rw [HOK.out]
    exact ⟨none, 0, none, 0, rfl, after_store Z7.out.1 T7.out.stamps T7.out.rows Z7.out.2 (Nat.le_refl _) (((((((((((grown_set w.heap.size 0 _).trans (grown_set w.heap.size 1 _)).trans (grown_set w.heap.size 2 _)).trans (grown_set w.heap.size 3 _)).trans (grown_set w.heap.size 4 _)).trans (grown_set w.heap.size 5 _)).trans (grown_set w.heap.size 6 _)).trans (grown_set w.heap.size 7 _)).trans (grown_set w.heap.size 8 _)).trans (grown_set w.heap.size 9 _)).trans (grown_set w.heap.size 10 _))⟩
  · have HOK := Lib.hid (e2 rfl)
    have HT := Lib.hid htell
    clear e1 e2 e3 htell
    go_enter Try.func23, Try.ntmps23
    go_wp2_with (first
      | (at_builtin; refine wpList_clone8 rfl (.tmp 7) (.tmp 8) rfl (w.heap.size + 1) _ rfl HOWN.out q dq _ xs rfl rfl hl HC.out HP.out (by simp) ?_; intro v' w1 ho hg; obtain ⟨pq, cq, rfl⟩ := own_slice ho; obtain ⟨hr, hz, hb, hs⟩ := reader_laid ho rfl hg; have R0 := Lib.hid hr; have Z0 := Lib.hid hz; have B0 := Lib.hid hb; have hlow := hr.lt; clear ho hg hr hz hb HOWN HC HP)
      | (go_at_call 55; (with_reducible refine (C1.out _ _ R0.out).mono ?_); rintro e u1 ⟨rfl, hr, hg⟩; have T1 := Lib.hid (FrmSt.lay hlow hg hr Y1.out k); clear hr hg R0 hlow)
      | (go_at_call 55; (with_reducible refine (C2.out _ _ T1.out.rdr).mono ?_); rintro e u2 ⟨rfl, hr, hg⟩; have S1 := T1.out.read rw_t hr Y2.out hg; obtain ⟨z0, c0, c1, c2, c3, c4, c5, c6, c7, c8, c9, c10, ee⟩ := S1.cells; simp only [noTk, List.length_nil] at c6 c7 c8 c9 c10; have f1 := ee 1; have T2 := Lib.hid (S1.put 1 (.int .i64 a) ⟨k, a, 0, 0, 0, 0, noTk⟩ rfl rfl); clear S1 hr hg T1 ee)
      | (go_at_call 55; (with_reducible refine (C3.out _ _ T2.out.rdr).mono ?_); rintro e u3 ⟨rfl, hr, hg⟩; clear z0 c0 c1 c2 c3 c4 c5 c6 c7 c8 c9 c10; clear f1; have S1 := T2.out.read rw_t hr Y3.out hg; obtain ⟨z0, c0, c1, c2, c3, c4, c5, c6, c7, c8, c9, c10, ee⟩ := S1.cells; simp only [noTk, List.length_nil] at c6 c7 c8 c9 c10; have f2 := ee 2; have T3 := Lib.hid (S1.put 2 (.int .i64 d) ⟨k, a, d, 0, 0, 0, noTk⟩ rfl rfl); clear S1 hr hg T2 ee)
      | (go_at_call 7; (with_reducible refine (HRT.out _ none 0 none 0 T3.out.stamps T3.out.rows).mono ?_); rintro e u6 ⟨rfl, hb6⟩; clear z0 c0 c1 c2 c3 c4 c5 c6 c7 c8 c9 c10; have S1 := T3.out.below hb6; have hz7 := S1.out Z0.out (by omega) B0.out (by omega); obtain ⟨x0, d0, d1, d2, d3, d4, d5, d6, d7, d8, d9, d10, ff⟩ := hz7.1.cells; have g0 := ff 0; have g1 := ff 1; have g2 := ff 2; have g3 := ff 3; have g4 := ff 4; have g5 := ff 5; have g6 := ff 6; have g7 := ff 7; have g8 := ff 8; have g9 := ff 9; have g10 := ff 10; clear ff; have Z7 := Lib.hid hz7; obtain ⟨z0, c0, c1, c2, c3, c4, c5, c6, c7, c8, c9, c10, -⟩ := S1.cells; simp only [noTk, List.length_nil] at c6 c7 c8 c9 c10; have T7 := Lib.hid S1; clear S1 hz7 hb6 T3)
      | (go_at_call 58; have cd := rdone_any _ s3 _ T7.out.rdr; rw [HT.out] at cd; (with_reducible refine cd.mono ?_); rintro e u8 ⟨rfl, rfl⟩; clear cd))
    refine bodyPost_ret (v := .tuple #[.agg #[.int .i64 0, .int .i64 0, .int .i64 0, .int .i64 0, .int .i64 0, .int .u64 0, .int .i64 0, .int .i64 0, .slice none 0 0, .int .i64 0, .slice none 0 0], .int .i64 2]) (by simp [results, Try.results23, go_sem, *]) rfl ?_
    rw [HOK.out]
    exact ⟨none, 0, none, 0, rfl, after_store Z7.out.1 T7.out.stamps T7.out.rows Z7.out.2 (Nat.le_refl _) (((((((((((grown_set w.heap.size 0 _).trans (grown_set w.heap.size 1 _)).trans (grown_set w.heap.size 2 _)).trans (grown_set w.heap.size 3 _)).trans (grown_set w.heap.size 4 _)).trans (grown_set w.heap.size 5 _)).trans (grown_set w.heap.size 6 _)).trans (grown_set w.heap.size 7 _)).trans (grown_set w.heap.size 8 _)).trans (grown_set w.heap.size 9 _)).trans (grown_set w.heap.size 10 _))⟩
  · have HOK := Lib.hid (e3 htell rfl)
    have HT := Lib.hid htell
    clear e1 e2 e3 htell
    go_enter Try.func23, Try.ntmps23
    go_wp2_with (first
      | (at_builtin; refine wpList_clone8 rfl (.tmp 7) (.tmp 8) rfl (w.heap.size + 1) _ rfl HOWN.out q dq _ xs rfl rfl hl HC.out HP.out (by simp) ?_; intro v' w1 ho hg; obtain ⟨pq, cq, rfl⟩ := own_slice ho; obtain ⟨hr, hz, hb, hs⟩ := reader_laid ho rfl hg; have R0 := Lib.hid hr; have Z0 := Lib.hid hz; have B0 := Lib.hid hb; have hlow := hr.lt; clear ho hg hr hz hb HOWN HC HP)
      | (go_at_call 55; (with_reducible refine (C1.out _ _ R0.out).mono ?_); rintro e u1 ⟨rfl, hr, hg⟩; have T1 := Lib.hid (FrmSt.lay hlow hg hr Y1.out k); clear hr hg R0 hlow)
      | (go_at_call 55; (with_reducible refine (C2.out _ _ T1.out.rdr).mono ?_); rintro e u2 ⟨rfl, hr, hg⟩; have S1 := T1.out.read rw_t hr Y2.out hg; obtain ⟨z0, c0, c1, c2, c3, c4, c5, c6, c7, c8, c9, c10, ee⟩ := S1.cells; simp only [noTk, List.length_nil] at c6 c7 c8 c9 c10; have f1 := ee 1; have T2 := Lib.hid (S1.put 1 (.int .i64 a) ⟨k, a, 0, 0, 0, 0, noTk⟩ rfl rfl); clear S1 hr hg T1 ee)
      | (go_at_call 55; (with_reducible refine (C3.out _ _ T2.out.rdr).mono ?_); rintro e u3 ⟨rfl, hr, hg⟩; clear z0 c0 c1 c2 c3 c4 c5 c6 c7 c8 c9 c10; clear f1; have S1 := T2.out.read rw_t hr Y3.out hg; obtain ⟨z0, c0, c1, c2, c3, c4, c5, c6, c7, c8, c9, c10, ee⟩ := S1.cells; simp only [noTk, List.length_nil] at c6 c7 c8 c9 c10; have f2 := ee 2; have T3 := Lib.hid (S1.put 2 (.int .i64 d) ⟨k, a, d, 0, 0, 0, noTk⟩ rfl rfl); clear S1 hr hg T2 ee)
      | (go_at_call 7; (with_reducible refine (HRT.out _ none 0 none 0 T3.out.stamps T3.out.rows).mono ?_); rintro e u6 ⟨rfl, hb6⟩; clear z0 c0 c1 c2 c3 c4 c5 c6 c7 c8 c9 c10; have S1 := T3.out.below hb6; have hz7 := S1.out Z0.out (by omega) B0.out (by omega); obtain ⟨x0, d0, d1, d2, d3, d4, d5, d6, d7, d8, d9, d10, ff⟩ := hz7.1.cells; have g0 := ff 0; have g1 := ff 1; have g2 := ff 2; have g3 := ff 3; have g4 := ff 4; have g5 := ff 5; have g6 := ff 6; have g7 := ff 7; have g8 := ff 8; have g9 := ff 9; have g10 := ff 10; clear ff; have Z7 := Lib.hid hz7; obtain ⟨z0, c0, c1, c2, c3, c4, c5, c6, c7, c8, c9, c10, -⟩ := S1.cells; simp only [noTk, List.length_nil] at c6 c7 c8 c9 c10; have T7 := Lib.hid S1; clear S1 hz7 hb6 T3)
      | (go_at_call 58; have cd := rdone_any _ s3 _ T7.out.rdr; rw [HT.out] at cd; (with_reducible refine cd.mono ?_); rintro e u8 ⟨rfl, rfl⟩; clear cd))
    refine bodyPost_ret (v := .tuple #[.agg #[.int .i64 k, .int .i64 a, .int .i64 d, .int .i64 0, .int .i64 0, .int .u64 0, .int .i64 0, .int .i64 0, .slice none 0 0, .int .i64 0, .slice none 0 0], .int .i64 0]) (by simp [results, Try.results23, go_sem, *]) rfl ?_
    rw [HOK.out]
    exact ⟨none, 0, none, 0, rfl, after_store Z7.out.1 T7.out.stamps T7.out.rows Z7.out.2 (Nat.le_refl _) (((((((((((grown_set w.heap.size 0 _).trans (grown_set w.heap.size 1 _)).trans (grown_set w.heap.size 2 _)).trans (grown_set w.heap.size 3 _)).trans (grown_set w.heap.size 4 _)).trans (grown_set w.heap.size 5 _)).trans (grown_set w.heap.size 6 _)).trans (grown_set w.heap.size 7 _)).trans (grown_set w.heap.size 8 _)).trans (grown_set w.heap.size 9 _)).trans (grown_set w.heap.size 10 _))⟩

/-- Parse, of any bytes. -/
theorem parse_any (q : Option Addr) (d : Nat) (xs : List Int) (w : World) (hl : xs.length ≤ 1000000) (hy : IsBytes xs) (hc : Cel w q xs) (hp : q = none → xs = [] ∧ d = 0) :
    Calls Try.prog 23 #[.slice q xs.length d] w (Decoded rWay w xs) := by
  have h0 : Calls Try.prog 23 #[.slice q xs.length d] w (Parsed w (rdFrame rWay (xs, false))) := by
    by_cases k0 : (rdNum rWay (xs, false)).1 = 0
    · exact parse_0 q d xs w hl hy hc hp k0
    · by_cases k1 : (rdNum rWay (xs, false)).1 = 1
      · exact parse_1 q d xs w hl hy hc hp k1
      · by_cases k2 : (rdNum rWay (xs, false)).1 = 2
        · exact parse_2 q d xs w hl hy hc hp k2
        · exact parse_3 q d xs w hl hy hc hp ⟨k0, k1, k2⟩
  have hsm := small_frame rWay rWay_ok (xs, false)
  have hok : rdOk rWay xs = decide (tell (rdFrame rWay (xs, false)).2 = 0 ∧ frameOk (rdFrame rWay (xs, false)).1 = true) := by
    unfold rdOk
    rw [Bool.eq_iff_iff]
    simp
  have hdec : decFr rWay xs = if rdOk rWay xs = true then (rdFrame rWay (xs, false)).1 else ⟨0, 0, 0, 0, 0, 0, noTk⟩ := rfl
  refine h0.mono ?_
  intro e w' h
  unfold Parsed at h
  rw [← hok] at h
  obtain ⟨ps, cs, p, c, rfl, h1, h2, h3⟩ := h
  unfold Decoded
  rw [hdec]
  cases rdOk rWay xs with
  | true => exact ⟨ps, cs, p, c, rfl, lying_of h1 h2 hsm.1 hsm.2.1 hsm.2.2, h3⟩
  | false => exact ⟨none, 0, none, 0, rfl, lying_none w', h3⟩
end Go.Proofs.Ytnogfhjeckkckaa.Frame
