/-
  The program's last: the last state of records, or the error; of what lay when the call began nothing has turned.
-/
import Derived.Test.YtlbdkigiphnabaaVpRead
namespace Go.Proofs.Ytlbdkigiphnabaa.Vault
open Go.RowKit
open _root_.Go.Proofs.Ytlbdkigiphnabaa.Codec (pUpto num IsBytes St Rdr Step Stays Lies Cel lt_of_heap frozen_of heap_set grown_set tell NewReader)

/-- What lies while the records are read: the reader, the result's box, the box of the state that was read last. -/
structure Lst (W : World) (rb : Nat) (st : St) (a : Sv) (u : World) : Prop where
  rdr : Rdr 95 5 u rb st.1 st.2
  res : u.heap[W.heap.size]? = some (.cells #[.int .i64 0, .int .i64 0, .int .i64 0, .int .i64 0] 25 (0, 0))
  box : u.heap[W.heap.size + 1]? = some (.cells #[.int .i64 a.p, .int .i64 a.g, .int .i64 a.h, .int .i64 a.r] 25 (0, 0))
  below : Below W.heap.size W u
  ge : W.heap.size ≤ rb
section
variable {W u u' : World} {rb : Nat} {st st' : St} {a : Sv}
theorem Lst.on (h : Lst W rb st a u) (hb : Below u.heap.size u u') : Lst W rb st a u' :=
  ⟨h.rdr.below hb, (hb.block _ (lt_of_heap h.res)).trans h.res, (hb.block _ (lt_of_heap h.box)).trans h.box, h.below.trans (hb.mono h.below.size), h.ge⟩
theorem Lst.step (h : Lst W rb st a u) (hr : Rdr 95 5 u' rb st'.1 st'.2) (hg : u.grownBy u' (some rb)) : Lst W rb st' a u' :=
  ⟨hr, box_step h.rdr h.res hg, box_step h.rdr h.box hg, h.below.grown hg h.below.size (fun k hk => by cases hk; exact h.ge), h.ge⟩
theorem Lst.set (h : Lst W rb st a u) (p g k r : Int) : Lst W rb st ⟨p, g, k, r⟩ ((((u.setCell ⟨W.heap.size + 1, 0, none⟩ (.int .i64 p)).setCell ⟨W.heap.size + 1, 1, none⟩ (.int .i64 g)).setCell ⟨W.heap.size + 1, 2, none⟩ (.int .i64 k)).setCell ⟨W.heap.size + 1, 3, none⟩ (.int .i64 r)) := by
  have k1 := heap_set _ 0 _ (.int .i64 p) h.box
  have k2 := heap_set _ 1 _ (.int .i64 g) k1
  have k3 := heap_set _ 2 _ (.int .i64 k) k2
  refine ⟨rdr_set25 (rdr_set25 (rdr_set25 (rdr_set25 h.rdr h.box 0 _) k1 1 _) k2 2 _) k3 3 _, ?_, ?_, ?_, h.ge⟩
  · exact (Below.heap_setCell _ _ _ _ (by simp)).trans ((Below.heap_setCell _ _ _ _ (by simp)).trans ((Below.heap_setCell _ _ _ _ (by simp)).trans ((Below.heap_setCell _ _ _ _ (by simp)).trans h.res)))
  · rw [heap_set _ 3 _ _ k3]; rfl
  · exact (((h.below.setCell (by simp) _).setCell (by simp) _).setCell (by simp) _).setCell (by simp) _
/-- The result's box is set. -/
theorem Lst.out (h : Lst W rb st a u) (z1 z2 z3 z4 : Value) : Below W.heap.size W ((((u.setCell ⟨W.heap.size, 0, none⟩ z1).setCell ⟨W.heap.size, 1, none⟩ z2).setCell ⟨W.heap.size, 2, none⟩ z3).setCell ⟨W.heap.size, 3, none⟩ z4) :=
  (((h.below.setCell (by simp) _).setCell (by simp) _).setCell (by simp) _).setCell (by simp) _
end

set_option maxRecDepth 100000 in
set_option maxHeartbeats 2000000 in
theorem last_any (p : Option Addr) (c q : Nat) (D : List Int) (w : World) (hl : D.length = 32 * q) (hm : D.length ≤ 16777216) (hc : Cel w p D) (hp : p = none → D = []) (hy : IsBytes D) :
    Calls Try.prog 26 #[.slice p (32 * q) c] w fun e w' => ((states D = none ∧ e = .returned (.tuple #[val zero, .int .i64 2])) ∨ (∃ l, states D = some l ∧ e = .returned (.tuple #[val (last l), .int .i64 0]))) ∧ Below w.heap.size w w' := by
  have hb0 : Below w.heap.size w ((w.alloc (.cells #[.int .i64 0, .int .i64 0, .int .i64 0, .int .i64 0] 25)).alloc (.cells #[.int .i64 0, .int .i64 0, .int .i64 0, .int .i64 0] 25)) := ((Below.refl _ _).alloc (Nat.le_refl _) _).alloc (by simp) _
  have hread : Calls Try.prog 42 #[.slice p (32 * q) c] ((w.alloc (.cells #[.int .i64 0, .int .i64 0, .int .i64 0, .int .i64 0] 25)).alloc (.cells #[.int .i64 0, .int .i64 0, .int .i64 0, .int .i64 0] 25)) fun e w' => ∃ rb, e = .returned (.pointer (some ⟨rb, 0, none⟩)) ∧ Lst w rb (D, false) zero w' := by
    have := Codec.read_any p c D ((w.alloc (.cells #[.int .i64 0, .int .i64 0, .int .i64 0, .int .i64 0] 25)).alloc (.cells #[.int .i64 0, .int .i64 0, .int .i64 0, .int .i64 0] 25)) (by omega) (hc.below hb0) hp
    rw [hl] at this
    refine this.mono ?_
    rintro e w' ⟨rb, hrb, rfl, hr, hb⟩
    refine ⟨rb, rfl, hr, ?_, ?_, hb0.trans (hb.mono hb0.size), Nat.le_trans hb0.size hrb⟩
    · exact (hb.block _ (by simp; omega)).trans ((Below.heap_alloc _ _ _ (by simp)).trans (heap_alloc_new _ _))
    · refine (hb.block _ (by simp)).trans ?_
      have := heap_alloc_new (w.alloc (.cells #[.int .i64 0, .int .i64 0, .int .i64 0, .int .i64 0] 25)) (.cells #[.int .i64 0, .int .i64 0, .int .i64 0, .int .i64 0] 25)
      rwa [show (w.alloc (.cells #[.int .i64 0, .int .i64 0, .int .i64 0, .int .i64 0] 25)).heap.size = w.heap.size + 1 by simp] at this
  have hq1 : 32 * (q : Int) ≤ 16777216 := by omega
  have hdiv : D.length / 32 = q := by omega
  have K0 := Lib.hid (known_start D q hdiv)
  have HL := Lib.hid hl
  have HDV := Lib.hid hdiv
  have HY := Lib.hid hy
  clear hl hm hc hp hy hb0 hdiv
  go_enter Try.func26, Try.ntmps26
  go_wp2_with (go_at_call 42; (with_reducible refine hread.mono ?_); rintro e w1 ⟨rb, rfl, hr⟩; have L0 := Lib.hid hr; clear hread hr)
  go_loopw [13] (fun i wr => ∃ (k : Nat) (st : St) (a : Sv), k ≤ q ∧ i = .int .i64 (k : Int) ∧ Hid (Lst w rb st a wr) ∧ Hid (Known D q k st a)) (fun i _ => q - (intOf i).toNat)
  case atStart => exact ⟨0, _, _, by omega, rfl, L0, K0⟩
  case round =>
    obtain ⟨k, st, a, hk, rfl, hlo, hkn⟩ := hrel
    clear L0 K0
    by_cases hlt : k < q
    · have hL := hlo.out
      have hread := read_any7 rb st wr hL.rdr (hkn.out.ok HY.out)
      have hround := hkn.out.round HY.out HDV.out hlt
      have hrise := fun u => prises_any a (pFour st).1 u
      generalize pFour st = z at hread hround hrise
      obtain ⟨⟨p1, g1, h1, r1⟩, st'⟩ := z
      generalize rises a _ = R at hround hrise
      obtain ⟨p', g', h', r'⟩ := a
      simp only [val] at hread hrise
      clear hlo hkn
      rcases hround with ⟨rfl, hs⟩ | ⟨rfl, hs⟩
      · have HS := Lib.hid hs
        clear hs
        go_wp2_with (first
          | (go_at_call 43; (with_reducible refine hread.mono ?_); rintro e u1 ⟨rfl, hr, hg⟩; have hL1 := hL.step hr hg; obtain ⟨c10, c11, c12, c13, -⟩ := box_facts hL1.box; have lt1 := lt_of_heap hL1.box; have L1 := Lib.hid hL1; have ba : Below u1.heap.size u1 (u1.alloc (.cells #[.int .i64 p1, .int .i64 g1, .int .i64 h1, .int .i64 r1] 25)) := (Below.refl _ _).alloc (Nat.le_refl _) _; have hn := heap_alloc_new u1 (.cells #[.int .i64 p1, .int .i64 g1, .int .i64 h1, .int .i64 r1] 25); have BA := Lib.hid ba; have HN := Lib.hid hn; clear hread hr hg hL hL1 ba hn)
          | (go_at_call 19; (with_reducible refine (hrise _).mono ?_); rintro e u2 ⟨rfl, hb2⟩; have hn2 := (hb2.block _ (lt_of_heap HN.out)).trans HN.out; obtain ⟨n20, n21, n22, n23, -⟩ := box_facts hn2; have hL2 := L1.out.on (BA.out.trans (hb2.mono BA.out.size)); obtain ⟨c20, c21, c22, c23, ff⟩ := box_facts hL2.box; have f20 := ff 0; have f21 := ff 1; have f22 := ff 2; have f23 := ff 3; obtain ⟨z20, z21, z22, z23, gg⟩ := box_facts hL2.res; have g20 := gg 0; have g21 := gg 1; have g22 := gg 2; have g23 := gg 3; have L2 := Lib.hid hL2; clear hrise hb2 hn2 hL2 ff gg c10 c11 c12 c13 L1 BA HN))
        refine bodyPost_ret (v := .tuple #[.agg #[.int .i64 0, .int .i64 0, .int .i64 0, .int .i64 0], .int .i64 2]) (by simp [results, Try.results26, go_sem, z20, z21, z22, z23]) rfl ⟨.inl ⟨HS.out, rfl⟩, L2.out.out _ _ _ _⟩
      · have HS := Lib.hid hs
        clear hs
        go_wp2_with (first
          | (go_at_call 43; (with_reducible refine hread.mono ?_); rintro e u1 ⟨rfl, hr, hg⟩; have hL1 := hL.step hr hg; obtain ⟨c10, c11, c12, c13, -⟩ := box_facts hL1.box; have lt1 := lt_of_heap hL1.box; have L1 := Lib.hid hL1; have ba : Below u1.heap.size u1 (u1.alloc (.cells #[.int .i64 p1, .int .i64 g1, .int .i64 h1, .int .i64 r1] 25)) := (Below.refl _ _).alloc (Nat.le_refl _) _; have hn := heap_alloc_new u1 (.cells #[.int .i64 p1, .int .i64 g1, .int .i64 h1, .int .i64 r1] 25); have BA := Lib.hid ba; have HN := Lib.hid hn; clear hread hr hg hL hL1 ba hn)
          | (go_at_call 19; (with_reducible refine (hrise _).mono ?_); rintro e u2 ⟨rfl, hb2⟩; have hn2 := (hb2.block _ (lt_of_heap HN.out)).trans HN.out; obtain ⟨n20, n21, n22, n23, -⟩ := box_facts hn2; have hL2 := L1.out.on (BA.out.trans (hb2.mono BA.out.size)); obtain ⟨c20, c21, c22, c23, ff⟩ := box_facts hL2.box; have f20 := ff 0; have f21 := ff 1; have f22 := ff 2; have f23 := ff 3; obtain ⟨z20, z21, z22, z23, gg⟩ := box_facts hL2.res; have g20 := gg 0; have g21 := gg 1; have g22 := gg 2; have g23 := gg 3; have L2 := Lib.hid hL2; clear hrise hb2 hn2 hL2 ff gg c10 c11 c12 c13 L1 BA HN))
        have L3 := Lib.hid (L2.out.set p1 g1 h1 r1)
        go_roundw
        case rel => exact ⟨k + 1, st', ⟨p1, g1, h1, r1⟩, by omega, by go_num, L3, HS⟩
        case measure => simp [intOf]; omega
    · obtain rfl : k = q := by omega
      have hL := hlo.out
      have hdone := Codec.pdone_any rb st wr hL.rdr
      have hkd := hkn.out.done HL.out
      generalize tell st = y at hdone hkd
      obtain ⟨p', g', h', r'⟩ := a
      obtain ⟨c20, c21, c22, c23, ff⟩ := box_facts hL.box
      obtain ⟨z20, z21, z22, z23, gg⟩ := box_facts hL.res
      have g20 := gg 0
      have g21 := gg 1
      have g22 := gg 2
      have g23 := gg 3
      have LL := Lib.hid hL
      clear hlo hkn hL ff gg
      rcases hkd with ⟨rfl, hs⟩ | ⟨rfl, l, hs, ha⟩
      · have HS := Lib.hid hs
        clear hs
        go_wp2_with (go_at_call 44; (with_reducible refine hdone.mono ?_); rintro e u2 ⟨rfl, rfl⟩; clear hdone)
        refine bodyPost_ret (v := .tuple #[.agg #[.int .i64 0, .int .i64 0, .int .i64 0, .int .i64 0], .int .i64 2]) (by simp [results, Try.results26, go_sem, z20, z21, z22, z23]) rfl ⟨.inl ⟨HS.out, rfl⟩, LL.out.out _ _ _ _⟩
      · have HS := Lib.hid hs
        have HA := Lib.hid ha
        clear hs ha
        go_wp2_with (go_at_call 44; (with_reducible refine hdone.mono ?_); rintro e u2 ⟨rfl, rfl⟩; clear hdone)
        refine bodyPost_ret (v := .tuple #[.agg #[.int .i64 p', .int .i64 g', .int .i64 h', .int .i64 r'], .int .i64 0]) (by simp [results, Try.results26, go_sem, z20, z21, z22, z23]) rfl ⟨.inr ⟨l, HS.out, by rw [← HA.out]; rfl⟩, LL.out.out _ _ _ _⟩
end Go.Proofs.Ytlbdkigiphnabaa.Vault
