/-
  QueueTurn returns true, of at most 80 acts and of more.
-/
import Derived.Test.YtdcclmellabnlaaQueueTurnWords
namespace Go.Proofs.Ytdcclmellabnlaa.Queue
open Go.RowKit
open _root_.Go.Proofs.Ytdcclmellabnlaa.Codec (lt_of_heap frozen_of heap_set below_new own_below)
open _root_.Go.Proofs.Ytdcclmellabnlaa.Kit (Enc Lies Own At Kept Laid Off Two cell_on lt_heap take_snoc below_drewN box5 ints own_keep own_lt cells)

theorem own_lies {T : TypeId} {B n c : Nat} {w : World} {p : Option Addr} {l : List It} (h : Own item T B w (.slice p n c) l) : Lies item w p l := by
  obtain ⟨p', c', e, hl⟩ := h.lies
  simp only [Value.slice.injEq] at e
  obtain ⟨rfl, -, -⟩ := e
  exact hl
theorem heap_two (w : World) (o o' : Obj) : ((w.alloc o).alloc o').heap[w.heap.size + 1]? = some o' := by
  have := heap_alloc_new (w.alloc o) o'
  simpa using this
/-- Where the first one is asked for the first time. -/
theorem tst_start {B q : Nat} {room : Int} {u1 u2 u3 : World} {T : List It} {wv : Value} (x : It) (h : Pq (fun _ => False) B u1 q room T) (hB : B ≤ u1.heap.size) (ho : Own item 35 u1.heap.size u2 wv T) (hb : Below u1.heap.size u1 u2) (hb3 : Below u2.heap.size u2 u3) :
    Tst B q room T u3.heap.size x wv (.slice none 0 0) T [] (u3.alloc (.cells #[.int .i64 x.id, .int .i64 x.key, .int .i64 x.cost, .int .i64 x.cls, .int .i64 x.til] 35)) := by
  have h2 := way12.grow (way12.below (way12.grow h hb) hb3) (lay u3 (.cells #[.int .i64 x.id, .int .i64 x.key, .int .i64 x.cost, .int .i64 x.cls, .int .i64 x.til] 35))
  have e1 : ∀ g, wv.ownBlock = some g → u1.heap.size ≤ g ∧ g < u2.heap.size := fun g e => ⟨(World.ownsRow.lt ho g e).1, own_lt ho e⟩
  refine ⟨pq_sub h2 ?_, ⟨Own.none _ _ _ _, ((ho.lower hB).on hb3).on (lay u3 _), fun b e => by simp [Value.ownBlock] at e⟩, heap_alloc_new _ _, by simp [Value.ownBlock], fun e => ?_, Nat.le_trans hB (Nat.le_trans hb.size hb3.size)⟩
  · rintro g (e | e | e)
    · exact .inr ⟨by omega, by subst e; simp⟩
    · exact .inl (.inr (e1 g e))
    · simp [Value.ownBlock] at e
  · have := e1 _ e
    have := hb3.size
    omega
set_option maxRecDepth 100000 in
set_option maxHeartbeats 8000000 in
theorem turn_few (W : World) (p : Option Addr) (c : Nat) (l : List Ac) (ha : ActsAt W p l) (hn : ∀ a ∈ l, AcNum a) (hl : l.length ≤ 80) (rm key : Int) (hr0 : 0 ≤ rm) (_ : rm ≤ 255) (nk : Num key) :
    Calls Try.prog 4 #[.int .u8 rm, .slice p l.length c, .int .i64 key] W fun e w' => e = .returned (.bool true) ∧ Below W.heap.size W w' := by
  have h0 : 0 ≤ rm.tmod 17 := by rw [Int.tmod_eq_emod_of_nonneg hr0]; omega
  have h1 : rm.tmod 17 ≤ 16 := by rw [Int.tmod_eq_emod_of_nonneg hr0]; omega
  have c0 := way12.new (rm.tmod 17) W h0 h1
  generalize hrm : rm.tmod 17 = room at *
  have RD := Lib.hid (fun (q v j : Nat) (hj : j < l.length) => (round_any (W := W) (q := q) (v := v) way12 h1 (st_good h0 l hn j (by omega)) (hn (l.getD j za) (by simp [List.getD, hj])) nk).step)
  have S0 := Lib.hid (st_zero room l)
  have SS := Lib.hid (fun (j : Nat) (hj : j < l.length) => st_succ room l hj)
  have GT := Lib.hid (st_good h0 l hn l.length (Nat.le_refl _))
  have HA := Lib.hid ha
  have hl' : ¬ (80 : Int) < (l.length : Int) := by omega
  generalize st room l = ST at *
  clear ha hn
  go_enter Try.func4, Try.ntmps4
  go_wp2_with (first
    | (go_at_call 6; (with_reducible refine c0.mono ?_); rintro e u0 ⟨q, rfl, h0, hb⟩; have L0 := Lib.hid (show Qst Pq (fun _ => False) W q u0.heap.size room (ST 0) (ST 0) (u0.alloc (.cells #[.int .i64 room, .slice none 0 0] 32)) from by (rw [S0.out]; exact ⟨way12.sub (way12.below h0 (lay u0 _)) (fun _ h => h.elim), ⟨hb.size, _, heap_alloc_new _ _, Own.none _ _ _ _⟩, hb.trans ((lay u0 _).mono hb.size)⟩)); clear h0 hb c0))
  go_loopw [10] (fun i wr => ∃ j : Nat, j ≤ l.length ∧ i = .int .i64 (j : Int) ∧ Hid (Qst Pq (fun _ => False) W q u0.heap.size room (ST j) (ST j) wr)) (fun i _ => l.length - (intOf i).toNat)
  case atStart => exact ⟨0, by omega, rfl, L0⟩
  case round =>
    obtain ⟨j, hj, rfl, L1⟩ := hrel
    clear L0
    by_cases hlt : j < l.length
    · have hlt' : (j : Int) < (l.length : Int) := by omega
      obtain ⟨b, o, rfl, hat⟩ := acts_at (by have := HA.out; exact this) hlt
      obtain ⟨k0, k1, k2, k3, k4, k5⟩ := hat.below L1.out.below
      have r1 := RD.out q u0.heap.size j hlt
      have HS := Lib.hid (SS.out j hlt)
      generalize ST j = s at *
      generalize l.getD j za = a at *
      have R1 := Lib.hid r1
      clear r1 hat SS S0 RD HA
      obtain ⟨kind, ⟨xi, xk, xc, xs, xt⟩⟩ := a
      simp only [actVal] at *
      go_wp2_with (first
        | (go_at_call 8; (with_reducible refine (R1.out _ L1.out).mono ?_); rintro e u2 ⟨rfl, h2⟩; have L2 := Lib.hid h2; clear k0 k1 k2 k3 k4 k5; clear h2 R1))
      go_roundw
      case rel => exact ⟨j + 1, by omega, by go_num, by rw [HS.out]; exact L2⟩
      case measure => simp only [intOf]; omega
    · have hlt' : ¬ (j : Int) < (l.length : Int) := by omega
      obtain rfl : j = l.length := by omega
      have hg := GT.out
      clear GT RD S0 SS HA
      generalize ST l.length = T at *
      have hT := good_len hg h1
      have GT := Lib.hid hg
      have cA := pall_any L1.out.pw hT
      have cF := fun u (hu : Below wr.heap.size wr u) => way12.first (way12.below L1.out.pw hu) hg hT key nk
      have HZ := Lib.hid (fun u2 u3 (wv : Value) (x : It) (ho : Own item 35 wr.heap.size u2 wv T) (hb : Below wr.heap.size wr u2) (hb3 : Below u2.heap.size u2 u3) => tst_start x L1.out.pw L1.out.below.size ho hb hb3)
      have BW := Lib.hid L1.out.below
      have hd := head_drop (of T key) (Nat.zero_le _)
      rw [List.drop_zero] at hd
      rw [hd] at cF
      clear hd hg L1
      have hO : (of T key).length ≤ 16 := Nat.le_trans (of_len _ _) hT
      have hOf := Lib.hid (show of T key = (of T key).drop 0 by simp)
      generalize hOO : of T key = O at *
      generalize hok : decide (0 < O.length) = ok0 at *
      generalize hx0 : O.getD 0 z = x0 at *
      obtain ⟨xi, xk, xc, xs, xt⟩ := x0
      simp only [val] at cF
      go_wp2_with (first
        | (go_at_call 11; (with_reducible refine cA.mono ?_); rintro e u2 ⟨y, rfl, ho, hb⟩; obtain ⟨pw, cw, rfl, -, -⟩ := own_slice ho; have O2 := Lib.hid ho; have B2 := Lib.hid hb; clear ho hb cA)
        | (go_at_call 17; (with_reducible refine (cF _ B2.out).mono ?_); rintro e u3 ⟨rfl, hb⟩; have H3 := Lib.hid (HZ.out u2 u3 _ ⟨xi, xk, xc, xs, xt⟩ O2.out B2.out hb); have B3 := Lib.hid ((BW.out.trans (B2.out.mono BW.out.size)).trans (hb.mono (Nat.le_trans BW.out.size B2.out.size))); have B4 := Lib.hid (B3.out.trans ((lay u3 (.cells #[.int .i64 xi, .int .i64 xk, .int .i64 xc, .int .i64 xs, .int .i64 xt] 35)).mono B3.out.size)); clear hb cF HZ))
      clear B2 O2 BW
      go_loopw [12, 14, 15] (fun gv okv iv wt => ∃ (j : Nat) (R : List It) (pg : Option Addr) (cg : Nat) (ok : Bool), j ≤ O.length ∧ iv = .int .i64 (j : Int) ∧ gv = .slice pg j cg ∧ okv = .bool ok ∧ Hid (ok = decide (j < O.length)) ∧ Hid (Tst W.heap.size q room R u3.heap.size (O.getD j z) (.slice pw T.length cw) (.slice pg j cg) T (O.take j) wt) ∧ Hid (Good room R ∧ of R key = O.drop j ∧ R.filter (other key) = T.filter (other key) ∧ R.length + j = T.length) ∧ Hid (Below W.heap.size W wt)) (fun _ _ i _ => O.length + 1 - (intOf i).toNat)
      case atStart => exact ⟨0, T, none, 0, ok0, by omega, rfl, rfl, rfl, Lib.hid hok.symm, by rw [hx0, List.take_zero]; exact H3, Lib.hid ⟨GT.out, by rw [← hOf.out]; exact hOO, rfl, rfl⟩, B4⟩
      case round =>
        obtain ⟨j, R, pg, cg, ok, hj, rfl, rfl, rfl, hok1, H1, HR1, B1⟩ := hrel
        clear H3 B4 B3 hok hx0 hOf
        by_cases hlt : j < O.length
        · obtain ⟨hg, hof, hfil, hlen⟩ := HR1.out
          have hdr : O.drop j = O.getD j z :: O.drop (j + 1) := by rw [List.drop_eq_getElem_cons hlt]; simp [List.getD, hlt]
          rw [hdr] at hof
          obtain ⟨hk, hm, ht, hof2, hfil2, hlen2, hg2⟩ := turn_one hg hof
          obtain rfl : ok = true := by rw [hok1.out]; simpa using hlt
          have hR := good_len hg h1
          have hR2 := good_len hg2 h1
          have nx := (hg.each _ hm).2.1
          have cT := way12.take H1.out.pq H1.out.lt hg hR (O.getD j z).id nx
          rw [ht] at cT
          have cF := fun (u : World) (gv : Value) (Gl : List It) (h : Tst W.heap.size q room (R.filter fun y => !isId (O.getD j z).id y) u3.heap.size (O.getD j z) (.slice pw T.length cw) gv T Gl u) => way12.first h.pq hg2 hR2 key nk
          have hd := head_drop O (show j + 1 ≤ O.length by omega)
          rw [hof2, hd] at cF
          have HR2 := Lib.hid (And.intro hg2 (And.intro hof2 (And.intro (hfil2.trans hfil) (show (R.filter fun y => !isId (O.getD j z).id y).length + (j + 1) = T.length by omega))))
          have hts := Lib.hid (take_snoc z hlt)
          have htl := Lib.hid (show (O.take j).length = j by simp; omega)
          clear hg hof hfil hlen hdr hm ht hof2 hfil2 hlen2 hg2 hR hR2 nx hd HR1 hok1
          have h20 : (j : Int) < 20 := by omega
          have hkk : ((O.getD j z).key != key) = false := by rw [hk]; simp
          clear hk
          have heq := fun (u : World) => neq5q (O.getD j z) u
          obtain ⟨b0, b1, b2, b3, b4⟩ := box5 H1.out.box
          generalize (R.filter fun y => !isId (O.getD j z).id y) = R2 at *
          generalize O.getD j z = x at *
          generalize O.take j = Oj at *
          generalize hx9 : O.getD (j + 1) z = x9 at *
          generalize hok9 : decide (j + 1 < O.length) = ok9 at *
          obtain ⟨xi, xk, xc, xs, xt⟩ := x
          obtain ⟨yi, yk, yc, ys, yt⟩ := x9
          simp only [val] at *
          go_wp2_with (first
            | (go_at_call 20; (with_reducible refine cT.mono ?_); rintro e u4 ⟨rfl, hm⟩; have H4 := Lib.hid (H1.out.take hm); have H5 := Lib.hid (H4.out.on (lay u4 (.cells #[.int .i64 xi, .int .i64 xk, .int .i64 xc, .int .i64 xs, .int .i64 xt] 35))); have B5 := Lib.hid ((B1.out.trans hm.below).trans ((lay u4 (.cells #[.int .i64 xi, .int .i64 xk, .int .i64 xc, .int .i64 xs, .int .i64 xt] 35)).mono H4.out.lt)); clear b0 b1 b2 b3 b4 hm cT; obtain ⟨b0, b1, b2, b3, b4⟩ := box5 H5.out.box; obtain ⟨y0, y1, y2, y3, y4⟩ := box5 (heap_alloc_new u4 (.cells #[.int .i64 xi, .int .i64 xk, .int .i64 xc, .int .i64 xs, .int .i64 xt] 35)))
            | (at_builtin; refine push_turn laidP rfl _ _ rfl _ rfl j htl.out H5.out (lay (u4.alloc (.cells #[.int .i64 xi, .int .i64 xk, .int .i64 xc, .int .i64 xs, .int .i64 xt] 35)) (.cells #[.int .i64 xi, .int .i64 xk, .int .i64 xc, .int .i64 xs, .int .i64 xt] 35)) (u4.heap.size + 1) ⟨xi, xk, xc, xs, xt⟩ rfl (heap_two u4 (.cells #[.int .i64 xi, .int .i64 xk, .int .i64 xc, .int .i64 xs, .int .i64 xt] 35) (.cells #[.int .i64 xi, .int .i64 xk, .int .i64 xc, .int .i64 xs, .int .i64 xt] 35)) (by omega) ?_; intro p6 c6 w6 R6 B6; have B7 := Lib.hid (B5.out.trans (B6 _ ((lay (u4.alloc (.cells #[.int .i64 xi, .int .i64 xk, .int .i64 xc, .int .i64 xs, .int .i64 xt] 35)) (.cells #[.int .i64 xi, .int .i64 xk, .int .i64 xc, .int .i64 xs, .int .i64 xt] 35)).mono H5.out.lt) (Nat.le_refl _))); clear B6 H4)
            | (go_at_call 17; (with_reducible refine (cF _ _ _ R6.out).mono ?_); rintro e u7 ⟨rfl, hb⟩; have H7 := Lib.hid (R6.out.on hb); have B8 := Lib.hid (B7.out.trans (hb.mono R6.out.lt)); clear b0 b1 b2 b3 b4 y0 y1 y2 y3 y4 hb cF; obtain ⟨b0, b1, b2, b3, b4⟩ := box5 H7.out.box; obtain ⟨f0, f1, f2, f3, f4⟩ := Kit.frozen5 H7.out.box))
          rw [show ((((u7.setCell ⟨u3.heap.size, 0, none⟩ (.int .i64 yi)).setCell ⟨u3.heap.size, 1, none⟩ (.int .i64 yk)).setCell ⟨u3.heap.size, 2, none⟩ (.int .i64 yc)).setCell ⟨u3.heap.size, 3, none⟩ (.int .i64 ys)).setCell ⟨u3.heap.size, 4, none⟩ (.int .i64 yt) = set5 u7 u3.heap.size ⟨yi, yk, yc, ys, yt⟩ from rfl]
          have H8 := Lib.hid (H7.out.set ⟨yi, yk, yc, ys, yt⟩)
          have B9 := Lib.hid (set5_below B8.out H7.out.ge ⟨yi, yk, yc, ys, yt⟩)
          generalize set5 u7 u3.heap.size ⟨yi, yk, yc, ys, yt⟩ = u8 at *
          go_roundw
          case rel => exact ⟨j + 1, R2, p6, c6, ok9, by omega, by go_num, rfl, rfl, Lib.hid hok9.symm, by rw [hx9, hts.out]; exact H8, HR2, B9⟩
          case measure => simp only [intOf]; omega
        · obtain rfl : j = O.length := by omega
          obtain ⟨hg, hof, hfil, hlen⟩ := HR1.out
          obtain rfl : ok = false := by rw [hok1.out]; simp
          rw [List.drop_length] at hof
          have hRT : R = T.filter (other key) := (of_none hg hof).symm.trans hfil
          subst hRT
          have cA2 := pall_any H1.out.pq (good_len hg h1)
          have LW1 := Lib.hid (own_lies H1.out.two.o2)
          have LG1 := Lib.hid (show Lies item wr pg O from by have := own_lies H1.out.two.o1; rwa [List.take_length] at this)
          have HO3 := Lib.hid (fun (j : Nat) (hj : j < T.length) (h : other key (T.getD j z) = true) => others_at key T j hj h)
          have HS4 := Lib.hid (fun (i : Nat) (hi : i + 1 < (of T key).length) => sorted_at GT.out key hi)
          rw [hOO] at HS4
          generalize hQ : T.filter (other key) = Q at *
          have hw : (O.length : Int) + (Q.length : Int) = (T.length : Int) := by omega
          have hw2 : ((T.length : Int) != (T.length : Int)) = false := by simp
          have h20 : (O.length : Int) < 20 := by omega
          clear hg hof hfil HR1 hok1
          go_wp2_with (first
            | (go_at_call 11; (with_reducible refine cA2.mono ?_); rintro e u5 ⟨y, rfl, ho, hb⟩; obtain ⟨pr, cr, rfl, -, -⟩ := own_slice ho; have LR := Lib.hid (own_lies ho); have LW := Lib.hid (LW1.out.below hb); have LG := Lib.hid (LG1.out.below hb); have B5 := Lib.hid (B1.out.trans (hb.mono H1.out.lt)); clear ho hb cA2))
          clear H1 LW1 LG1 B1 h20 hw hw2
          have HN3 := Lib.hid (fun (j : Nat) (hj : j < T.length) => others_take key hj)
          have hQT : Q.length ≤ T.length := by omega
          go_loopw [19, 20] (fun av iv wz => ∃ (j m : Nat), j ≤ T.length ∧ iv = .int .i64 (j : Int) ∧ av = .int .i64 (m : Int) ∧ Hid (m = ((T.take j).filter (other key)).length) ∧ Hid (Below u5.heap.size u5 wz)) (fun _ i _ => T.length - (intOf i).toNat)
          case atStart => exact ⟨0, 0, by omega, rfl, rfl, Lib.hid (by simp), Lib.hid (Below.refl _ _)⟩
          case round =>
            obtain ⟨j, m, hj, rfl, rfl, hm, B6⟩ := hrel
            by_cases hlt : j < T.length
            · have hlt' : (j : Int) < (T.length : Int) := by omega
              obtain ⟨b, o, rfl, hat⟩ := lies_at (LW.out.below B6.out) hlt
              obtain ⟨k0, k1, k2, k3, k4⟩ := at5 hat
              have HN := Lib.hid (HN3.out j hlt)
              by_cases hk : (T.getD j z).key = key
              · have hno : other key (T.getD j z) = false := by unfold other; rw [hk]; simp
                have HM := Lib.hid (show m = ((T.take (j + 1)).filter (other key)).length by rw [HN.out, hno, hm.out]; simp)
                rw [hk] at k1
                clear hat hk hno HN HN3 hm LW
                go_wp2
                go_roundw
                case rel => exact ⟨j + 1, m, by omega, by go_num, rfl, HM, B6⟩
                case measure => simp only [intOf]; omega
              · have hyes : other key (T.getD j z) = true := by simpa [other] using hk
                have HM := Lib.hid (show m + 1 = ((T.take (j + 1)).filter (other key)).length by rw [HN.out, hyes, hm.out]; simp)
                obtain ⟨hm1, hm2⟩ := HO3.out j hlt hyes
                rw [← hm.out] at hm1 hm2
                obtain ⟨b', o', rfl, hat'⟩ := lies_at (LR.out.below B6.out) hm1
                obtain ⟨y0, y1, y2, y3, y4⟩ := at5 hat'
                rw [hm2] at y0 y1 y2 y3 y4
                have hm1' : (m : Int) < (Q.length : Int) := by omega
                have heq := fun (u : World) => neq5q (T.getD j z) u
                have hmT : m < T.length := by omega
                clear hat hat' hyes HN HN3 hm hm2 LW LR HO3
                generalize T.getD j z = x at *
                obtain ⟨xi, xk, xc, xs, xt⟩ := x
                simp only [val] at *
                go_wp2
                go_quiet (fail)
                go_wp2
                go_roundw
                case rel => exact ⟨j + 1, m + 1, by omega, by go_num, by go_num, HM, Lib.hid (B6.out.trans ((below_drewN _ _).mono B6.out.size))⟩
                case measure => simp only [intOf]; omega
            · have hlt' : ¬ (j : Int) < (T.length : Int) := by omega
              clear HN3 HO3 LR hm
              have B7 := Lib.hid (B5.out.trans (B6.out.mono B5.out.size))
              have LW2 := Lib.hid (LW.out.below B6.out)
              have LG2 := Lib.hid (LG.out.below B6.out)
              have ca := fun (u : World) => alive_way way12 u
              have cP := fun (u : World) (id : Int) (hu : Below wr.heap.size wr u) => tplace_any (c := cw) (LW2.out.below hu) (show T.length ≤ 1000 by omega) id
              have HPG := Lib.hid (fun (id : Int) => place_ge T id)
              clear LW LG
              go_wp2
              rename World => W9
              go_loopw [21] (fun iv wz => ∃ (j n : Nat), iv = .int .i64 (n : Int) ∧ Hid (n = j + 1) ∧ Hid (Below W9.heap.size W9 wz)) (fun i _ => O.length - (intOf i).toNat)
              case atStart => exact ⟨0, 1, rfl, Lib.hid rfl, Lib.hid (Below.refl _ _)⟩
              case round =>
                obtain ⟨j, n, rfl, hnj, B8⟩ := hrel
                by_cases hlt : n < O.length
                · have hlt' : (n : Int) < (O.length : Int) := by omega
                  have hnj1 := hnj.out
                  have hj : j < O.length := by omega
                  have hj' : (j : Int) < (O.length : Int) := by omega
                  have hsub : (n : Int) - 1 = (j : Int) := by omega
                  have hwj : IntKind.i64.wrap (j : Int) = (j : Int) := IntWalk.i64_in _ (by omega)
                  obtain ⟨b, o, rfl, hat⟩ := lies_at (LG2.out.below B8.out) hj
                  obtain ⟨k0, k1, k2, k3, k4⟩ := at5 hat
                  obtain ⟨b', o', e, hat'⟩ := lies_at (LG2.out.below B8.out) hlt
                  simp only [Option.some.injEq, Addr.mk.injEq, and_true] at e
                  obtain ⟨rfl, rfl⟩ := e
                  obtain ⟨y0, y1, y2, y3, y4⟩ := at5 hat'
                  have hs := HS4.out j (by omega)
                  rw [← hnj1] at hs
                  have c1 := fun u (hu : Below W9.heap.size W9 u) => cP u (O.getD j z).id hu
                  have c2 := fun u (hu : Below W9.heap.size W9 u) => cP u (O.getD n z).id hu
                  clear hat hat' hnj1 cP
                  generalize place T (O.getD j z).id = pa at *
                  generalize place T (O.getD n z).id = pb at *
                  generalize O.getD j z = x at *
                  generalize O.getD n z = y at *
                  obtain ⟨xi, xk, xc, xs, xt⟩ := x
                  obtain ⟨yi, yk, yc, ys, yt⟩ := y
                  simp only at hs k0 k1 k2 k3 k4 y0 y1 y2 y3 y4 c1 c2
                  go_wp2_with (first
                    | (go_at_call 23; (with_reducible refine (c1 _ B8.out).mono ?_); rintro e v1 ⟨rfl, hb⟩; have B9 := Lib.hid (B8.out.trans (hb.mono B8.out.size)); clear c1; replace k3 := cell_on k3 hb; replace y0 := cell_on y0 hb; replace y3 := cell_on y3 hb; clear hb)
                    | (go_at_call 23; (with_reducible refine (c2 _ B9.out).mono ?_); rintro e v2 ⟨rfl, hb⟩; have B10 := Lib.hid (B9.out.trans (hb.mono B9.out.size)); clear c2; replace k3 := cell_on k3 hb; replace y3 := cell_on y3 hb; clear hb))
                  rcases hs with hs | ⟨rfl, hs⟩
                  · have hs1 : ¬ ys < xs := by omega
                    have hs2 : ¬ xs = ys := by omega
                    clear hs
                    go_wp2
                    go_quiet (fail)
                    go_wp2
                    go_roundw
                    case rel => exact ⟨n, n + 1, by go_num, Lib.hid rfl, Lib.hid (B10.out.trans ((below_drewN _ _).mono B10.out.size))⟩
                    case measure => simp only [intOf]; omega
                  · have hs1 : ¬ xs < xs := by omega
                    have hs2 : ¬ pb ≤ pa := by omega
                    go_wp2
                    go_quiet (fail)
                    go_wp2
                    go_roundw
                    case rel => exact ⟨n, n + 1, by go_num, Lib.hid rfl, Lib.hid (B10.out.trans ((below_drewN _ _).mono B10.out.size))⟩
                    case measure => simp only [intOf]; omega
                · have hlt' : ¬ (n : Int) < (O.length : Int) := by omega
                  clear LG2 LW2 cP HS4 HPG hnj
                  go_wp2_with (go_at_call 5; (with_reducible refine (ca _).mono ?_); rintro e v3 ⟨rfl, hb⟩; have B9 := Lib.hid (B8.out.trans (hb.mono B8.out.size)); clear hb ca)
                  go_ret
                  exact ⟨rfl, B7.out.trans (B9.out.mono B7.out.size)⟩
set_option maxRecDepth 100000 in
set_option maxHeartbeats 4000000 in
theorem turn_many (W : World) (p : Option Addr) (c n : Nat) (hl : (80 : Int) < (n : Int)) (rm key : Int) :
    Calls Try.prog 4 #[.int .u8 rm, .slice p n c, .int .i64 key] W fun e w' => e = .returned (.bool true) ∧ Below W.heap.size W w' := by
  have ca := fun u => alive_way way12 u
  go_enter Try.func4, Try.ntmps4
  go_wp2_with (go_at_call 5; (with_reducible refine (ca _).mono ?_); rintro e u2 ⟨rfl, hb⟩; have B2 := Lib.hid hb; clear hb ca)
  go_ret
  exact ⟨rfl, B2.out⟩
end Go.Proofs.Ytdcclmellabnlaa.Queue
