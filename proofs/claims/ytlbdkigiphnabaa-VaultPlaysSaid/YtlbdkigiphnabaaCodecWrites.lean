/-
  The program's writer: spoil, Bits, Num, Done, of any writer's block whose bytes it owns, of one that is wrong, and of none: each leaves the writer as the document says, and Done tells a new row of all bytes, and OK, or nothing, and ErrArg; of what lay ahead of the writer nothing has turned; any bits, any slice of up to 150 ints.
-/
import Derived.Test.YtlbdkigiphnabaaCodecPut
import Derived.Deep.RegionLaw
namespace Go.Proofs.Ytlbdkigiphnabaa.Codec
open Go.RowKit

set_option maxRecDepth 100000 in
set_option maxHeartbeats 400000 in
theorem wbits_good (B b : Nat) (bs : List Int) (x : Int) (w : World) (h : Wtr 90 5 B w b bs) (hl : bs.length ≤ 100000) (hBw : B ≤ w.heap.size) :
    Calls Try.prog 54 #[.pointer (some ⟨b, 0, none⟩), .int .u64 x] w fun e w' => e = .returned (.pointer (some ⟨b, 0, none⟩)) ∧ Wtr 90 5 B w' b (bs ++ eight x) ∧ Below B w w' := by
  obtain ⟨i0, hi, hz0, hz1, hz2⟩ := info_parts info8
  have c1 : w.cell? ⟨b, 1, none⟩ = some (.bool false) := by
    obtain ⟨_, v, hv, _⟩ := h
    rw [cell_of_row w b 1 _ _ (0, 0) hv]; rfl
  have HW := Lib.hid h; clear h
  go_enter Try.func54, Try.ntmps54
  go_wp2
  go_loopw [15] (fun i wr => ∃ k : Nat, k ≤ 8 ∧ i = .int .i64 (k : Int) ∧ Hid (Wtr 90 5 B wr b (bs ++ some8 x k)) ∧ Below B w wr) (fun i _ => 8 - (intOf i).toNat)
  case atStart => exact ⟨0, by omega, rfl, (by rw [some8_zero, List.append_nil]; exact HW), Below.refl _ _⟩
  case round =>
    obtain ⟨k, hk, rfl, hw, hb⟩ := hrel
    by_cases hlt : k < 8
    · obtain ⟨hB, v, hv, hown⟩ := hw.out
      have hBr : B ≤ wr.heap.size := Nat.le_trans hBw hb.size
      have hln : (bs ++ some8 x k).length ≤ 100008 := by rw [List.length_append, len_some8]; omega
      have d0 : wr.cell? ⟨b, 0, none⟩ = some v := by rw [cell_of_row wr b 0 _ _ (0, 0) hv]; rfl
      have g0 : wr.frozen? ⟨b, 0, none⟩ = false := frozen_of hv
      have hbl : b < wr.heap.size := lt_of_heap hv
      have HV := Lib.hid hv
      have HO := Lib.hid hown
      clear hv hown hw
      obtain ⟨bk, hbk⟩ : ∃ l, l = bs ++ some8 x k := ⟨_, rfl⟩
      rw [← hbk] at HO hln
      have HB := Lib.hid hbk
      clear hbk
      go_wp2
      have e0 : IntKind.i64.wrap (7 - (k : Int)) = 7 - (k : Int) := IntWalk.i64_in _ (by omega)
      have e1 : IntKind.i64.wrap (8 * (7 - (k : Int))) = 8 * (7 - (k : Int)) := IntWalk.i64_in _ (by omega)
      have e2 : 0 ≤ 8 * (7 - (k : Int)) := by omega
      have e3 : 8 * (7 - (k : Int)) ≤ 64 := by omega
      have e4 : (8 * (7 - (k : Int))).toNat = 8 * (7 - k) := by omega
      go_region_law (refine step_append_lies _ rfl (.tmp 22) (.tmp 29) 39 rfl B 5 i0 (.int .u8 0) 1 1 Try.underlying39 hi hz0 hz1 hz2 rfl (by decide) v bk.length (cells8 bk) rfl (HO.out.alloc _) ⟨wr.heap.size, 0, none⟩ 1 1 [.int .u8 (IntKind.u8.wrap (x / 2 ^ (8 * (7 - k))))] rfl rfl (World.news_of_block (heap_alloc_new _ _)) (by intro u hu; simp at hu; subst hu; rfl) (by decide) (by unfold maxLen; omega) (by omega) (by simp; omega) _ rfl ?_; intro g cap w1 ho hg _ _; obtain ⟨k0, k1, D⟩ := push_all hg ho (by decide) hB HV.out HO.out hBr; clear ho hg)
      all_goals
        clear e0 e1 e2 e3 e4
        have R : Hid (Wtr 90 5 B _ b (bs ++ some8 x (k + 1))) := (by show Wtr 90 5 B _ b _; rw [some8_succ, ← List.append_assoc, ← HB.out, ← byteAt_of x k _ rfl, ← IntKind.wrap_u8]; exact D.out.1)
        have R2 := hb.trans D.out.2
        clear D
        go_wp2
        go_roundw
        case rel => exact ⟨k + 1, by omega, by go_num, R, R2⟩
        case measure => simp [intOf]; omega
    · obtain rfl : k = 8 := by omega
      go_wp2
      go_ret
      exact ⟨rfl, hw.out, hb⟩
theorem wbits_bad (b : Nat) (v : Value) (x : Int) (w : World) (h : w.heap[b]? = some (.cells #[v, .bool true] 90 (0, 0))) :
    Calls Try.prog 54 #[.pointer (some ⟨b, 0, none⟩), .int .u64 x] w fun e w' => e = .returned (.pointer (some ⟨b, 0, none⟩)) ∧ w = w' := by
  have c1 : w.cell? ⟨b, 1, none⟩ = some (.bool true) := by rw [cell_of_row w b 1 _ _ (0, 0) h]; rfl
  clear h
  go_enter Try.func54, Try.ntmps54
  go_wp2
  go_ret
  exact ⟨rfl, rfl⟩
theorem wbits_nil (x : Int) (w : World) : Calls Try.prog 54 #[.pointer none, .int .u64 x] w fun e w' => e = .returned (.pointer none) ∧ w = w' := by
  go_enter Try.func54, Try.ntmps54
  go_wp2
  go_ret
  exact ⟨rfl, rfl⟩
/-- Bits, of any writer. -/
theorem wbits_any (B b : Nat) (bs : List Int) (k : Bool) (x : Int) (w : World) (h : WSt 90 5 B w b bs k) (hl : bs.length ≤ 100000) (hBw : B ≤ w.heap.size) :
    Calls Try.prog 54 #[.pointer (some ⟨b, 0, none⟩), .int .u64 x] w fun e w' => e = .returned (.pointer (some ⟨b, 0, none⟩)) ∧ WSt 90 5 B w' b (bs ++ eight x) k ∧ Below B w w' := by
  cases k with
  | true => exact wbits_good B b bs x w h hl hBw
  | false =>
    refine (wbits_bad b _ x w h.2).mono ?_
    rintro e w' ⟨rfl, rfl⟩
    exact ⟨rfl, h, Below.refl _ _⟩

set_option maxRecDepth 100000 in
theorem spoil_any (B b : Nat) (bs : List Int) (k : Bool) (w : World) (h : WSt 90 5 B w b bs k) (xs : List Int) :
    Calls Try.prog 53 #[.pointer (some ⟨b, 0, none⟩)] w fun e w' => e = .returned (.tuple #[]) ∧ WSt 90 5 B w' b xs false ∧ Below B w w' := by
  obtain ⟨hB, _, v, hv⟩ := h.cells
  have c0 : w.cell? ⟨b, 0, none⟩ = some v := by rw [cell_of_row w b 0 _ _ (0, 0) hv]; rfl
  have c1 : w.cell? ⟨b, 1, none⟩ = some (.bool (!k)) := by rw [cell_of_row w b 1 _ _ (0, 0) hv]; rfl
  have f0 : w.frozen? ⟨b, 0, none⟩ = false := frozen_of hv
  have f1 : w.frozen? ⟨b, 1, none⟩ = false := frozen_of hv
  have HW : Hid (((w.setCell ⟨b, 0, none⟩ (.slice none 0 0)).setCell ⟨b, 1, none⟩ (.bool true)).heap[b]? = some (.cells #[.slice none 0 0, .bool true] 90 (0, 0))) :=
    (by show _ = _; rw [heap_set b 1 _ _ (heap_set b 0 _ _ hv)]; rfl)
  clear h hv
  generalize (!k) = k' at c1
  go_enter Try.func53, Try.ntmps53
  go_wp2
  go_end0
  exact ⟨rfl, ⟨hB, HW.out⟩, ((Below.refl _ _).setCell (p := ⟨b, 0, none⟩) hB _).setCell (p := ⟨b, 1, none⟩) hB _⟩

/-- Done, of a writer that is right. -/
theorem wdone_good (B b : Nat) (bs : List Int) (w : World) (h : WSt 90 5 B w b bs true) (hl : bs.length ≤ 100000) :
    Calls Try.prog 48 #[.pointer (some ⟨b, 0, none⟩)] w (Made 5 w bs (fun v => .tuple #[v, .int .i64 0])) := by
  obtain ⟨hB, v, hv, hown⟩ := h
  obtain ⟨p, c, rfl, hc, hm, hx, hp⟩ := own_lies hown
  have hclone := clone_any p c bs w (by omega) hx.cel hp
  have c0 : w.cell? ⟨b, 0, none⟩ = some (.slice p bs.length c) := by rw [cell_of_row w b 0 _ _ (0, 0) hv]; rfl
  have c1 : w.cell? ⟨b, 1, none⟩ = some (.bool false) := by rw [cell_of_row w b 1 _ _ (0, 0) hv]; rfl
  clear hx hp hown hv
  go_enter Try.func48, Try.ntmps48
  go_wp2_with (go_at_call 50; refine hclone.mono ?_; rintro e w1 ⟨v1, rfl, ho, hb⟩; have HO := Lib.hid ho; clear hclone ho)
  go_ret2
  exact ⟨v1, rfl, HO.out, hb⟩
theorem wdone_bad (B b : Nat) (bs : List Int) (w : World) (h : WSt 90 5 B w b bs false) :
    Calls Try.prog 48 #[.pointer (some ⟨b, 0, none⟩)] w fun e w' => e = .returned (.tuple #[.slice none 0 0, .int .i64 1]) ∧ w = w' := by
  obtain ⟨hB, hv⟩ := h
  have c1 : w.cell? ⟨b, 1, none⟩ = some (.bool true) := by rw [cell_of_row w b 1 _ _ (0, 0) hv]; rfl
  clear hv
  go_enter Try.func48, Try.ntmps48
  go_wp2
  go_ret2
  exact ⟨rfl, rfl⟩
theorem wdone_nil (w : World) : Calls Try.prog 48 #[.pointer none] w fun e w' => e = .returned (.tuple #[.slice none 0 0, .int .i64 1]) ∧ w = w' := by
  go_enter Try.func48, Try.ntmps48
  go_wp2
  go_ret2
  exact ⟨rfl, rfl⟩

set_option maxRecDepth 100000 in
theorem wnum_some (B b : Nat) (bs : List Int) (k0 : Bool) (g o c : Nat) (zs : List Int) (w : World) (h : WSt 90 5 B w b bs k0) (hl : bs.length ≤ 1000) (hBw : B ≤ w.heap.size) (hz : zs.length ≤ 150)
    (hg : g < B) (hc : ∀ j, j < zs.length → w.cell? ⟨g, o + j, none⟩ = some (.int .i64 (zs.getD j 0))) :
    Calls Try.prog 47 #[.pointer (some ⟨b, 0, none⟩), .slice (some ⟨g, o, none⟩) zs.length c] w fun e w' => e = .returned (.pointer (some ⟨b, 0, none⟩)) ∧ WSt 90 5 B w' b (bs ++ puts zs) (k0 && goods zs) ∧ Below B w w' := by
  have HC := Lib.hid hc; clear hc
  have HW := Lib.hid h; clear h
  go_enter Try.func47, Try.ntmps47
  go_wp2
  go_loopw [9] (fun i wr => ∃ k : Nat, k ≤ zs.length ∧ i = .int .i64 (k : Int) ∧ Hid (WSt 90 5 B wr b (bs ++ puts (zs.take k)) (k0 && goods (zs.take k))) ∧ Below B w wr) (fun i _ => zs.length - (intOf i).toNat)
  case atStart => exact ⟨0, by omega, rfl, (by simpa [puts, goods] using HW), Below.refl _ _⟩
  case round =>
    obtain ⟨k, hk, rfl, hw, hb⟩ := hrel
    by_cases hlt : k < zs.length
    · have hcw : wr.cell? ⟨g, o + k, none⟩ = some (.int .i64 (zs.getD k 0)) := (hb.cell (p := ⟨g, o + k, none⟩) hg).trans (HC.out k hlt)
      have HX := Lib.hid (goods_take_succ zs k hlt)
      have HP := Lib.hid (puts_take_succ zs k hlt)
      generalize zs.getD k 0 = x at hcw HX HP
      have hBr : B ≤ wr.heap.size := Nat.le_trans hBw hb.size
      have hln : (bs ++ puts (zs.take k)).length ≤ 100000 := by rw [List.length_append, len_puts]; simp; omega
      obtain ⟨q, hq⟩ : ∃ q, q = (k0 && goods (zs.take k)) := ⟨_, rfl⟩
      rw [← hq] at hw
      obtain ⟨l, hle⟩ : ∃ l, l = bs ++ puts (zs.take k) := ⟨_, rfl⟩
      rw [← hle] at hw hln
      have HQ := Lib.hid hq
      have HL := Lib.hid hle
      clear hq hle
      by_cases hgx : good x = true
      · have hbits := wbits_any B b l q x wr hw.out hln hBr
        have R : Hid (∀ w2, WSt 90 5 B w2 b (l ++ eight x) q → WSt 90 5 B w2 b (bs ++ puts (zs.take (k + 1))) (k0 && goods (zs.take (k + 1)))) := (by
          show ∀ _, _
          intro w2 h2
          rw [HX.out, HP.out, hgx, Bool.and_true, ← HQ.out, ← List.append_assoc, ← HL.out]
          exact h2)
        simp only [good, decide_eq_true_eq] at hgx
        obtain ⟨h0, h1⟩ := hgx
        clear HX HP HQ HL hw
        go_wp2_with (go_at_call 54; refine hbits.mono ?_; rintro e w1 ⟨rfl, hw1, hb1⟩; have HW1 := Lib.hid hw1; clear hbits hw1)
        go_roundw
        case rel => exact ⟨k + 1, by omega, by go_num, R.out _ HW1.out, hb.trans hb1⟩
        case measure => simp [intOf]; omega
      · have hgf : good x = false := Bool.eq_false_iff.2 hgx
        have R : Hid (∀ w2 l2, WSt 90 5 B w2 b l2 false → WSt 90 5 B w2 b (bs ++ puts (zs.take (k + 1))) (k0 && goods (zs.take (k + 1)))) := (by
          show ∀ _, _
          intro w2 l2 h2
          rw [HX.out, hgf, Bool.and_false, Bool.and_false]
          exact h2)
        have hx' : x < 0 ∨ (0 ≤ x ∧ 4611686018427387904 < x) := by
          simp [good] at hgf
          omega
        have hspoil := spoil_any B b l q wr hw.out []
        clear HX HP HQ HL hw hgx hgf
        rcases hx' with h0 | ⟨h0, h1⟩
        · go_wp2_with (first
            | (go_at_call 53; refine hspoil.mono ?_; rintro e w1 ⟨rfl, hw1, hb1⟩; have HW1 := Lib.hid hw1; clear hspoil hw1; have hB1 := Nat.le_trans hBr hb1.size)
            | (go_at_call 54; refine (wbits_any B b [] false _ w1 HW1.out (by simp) hB1).mono ?_; rintro e w2 ⟨rfl, hw2, hb2⟩; have HW2 := Lib.hid hw2; clear hw2))
          go_roundw
          case rel => exact ⟨k + 1, by omega, by go_num, R.out _ _ HW2.out, (hb.trans hb1).trans hb2⟩
          case measure => simp [intOf]; omega
        · go_wp2_with (first
            | (go_at_call 53; refine hspoil.mono ?_; rintro e w1 ⟨rfl, hw1, hb1⟩; have HW1 := Lib.hid hw1; clear hspoil hw1; have hB1 := Nat.le_trans hBr hb1.size)
            | (go_at_call 54; refine (wbits_any B b [] false _ w1 HW1.out (by simp) hB1).mono ?_; rintro e w2 ⟨rfl, hw2, hb2⟩; have HW2 := Lib.hid hw2; clear hw2))
          go_roundw
          case rel => exact ⟨k + 1, by omega, by go_num, R.out _ _ HW2.out, (hb.trans hb1).trans hb2⟩
          case measure => simp [intOf]; omega
    · obtain rfl : k = zs.length := by omega
      rw [List.take_length] at hw
      go_wp2
      go_ret
      exact ⟨rfl, hw.out, hb⟩
/-- Num of no numbers. -/
theorem wnum_zero (q p : Option Addr) (c : Nat) (w : World) :
    Calls Try.prog 47 #[.pointer q, .slice p 0 c] w fun e w' => e = .returned (.pointer q) ∧ w = w' := by
  go_enter Try.func47, Try.ntmps47
  go_wp2
  refine wp_loop_rounds 1 ?_
  rw [rounds_succ]
  go_wp2
  go_ret
  exact ⟨rfl, rfl⟩
/-- Num of one number that may be, wherever it lies. -/
theorem wnum_one (B b : Nat) (bs : List Int) (g o c : Nat) (x : Int) (w : World) (h : WSt 90 5 B w b bs true) (hl : bs.length ≤ 1000) (hBw : B ≤ w.heap.size) (h0 : 0 ≤ x) (h1 : x ≤ 4611686018427387904)
    (hc : w.cell? ⟨g, o, none⟩ = some (.int .i64 x)) :
    Calls Try.prog 47 #[.pointer (some ⟨b, 0, none⟩), .slice (some ⟨g, o, none⟩) 1 c] w fun e w' => e = .returned (.pointer (some ⟨b, 0, none⟩)) ∧ WSt 90 5 B w' b (bs ++ eight x) true ∧ Below B w w' := by
  have hbits := wbits_any B b bs true x w h (by omega) hBw
  clear h
  go_enter Try.func47, Try.ntmps47
  go_wp2
  refine wp_loop_rounds 2 ?_
  rw [rounds_succ]
  go_wp2_with (go_at_call 54; refine hbits.mono ?_; rintro e w1 ⟨rfl, hw1, hb1⟩; have HW1 := Lib.hid hw1; clear hbits hw1)
  rw [rounds_succ]
  go_wp2
  go_ret
  exact ⟨rfl, HW1.out, hb1⟩
theorem wnum_one_nil (g o c : Nat) (x : Int) (w : World) (h0 : 0 ≤ x) (h1 : x ≤ 4611686018427387904) (hc : w.cell? ⟨g, o, none⟩ = some (.int .i64 x)) :
    Calls Try.prog 47 #[.pointer none, .slice (some ⟨g, o, none⟩) 1 c] w fun e w' => e = .returned (.pointer none) ∧ w = w' := by
  go_enter Try.func47, Try.ntmps47
  go_wp2
  refine wp_loop_rounds 2 ?_
  rw [rounds_succ]
  go_wp2_with (go_at_call 54; refine (wbits_nil _ _).mono ?_; rintro e w1 ⟨rfl, rfl⟩)
  rw [rounds_succ]
  go_wp2
  go_ret
  exact ⟨rfl, rfl⟩
/-- Num, of any slice that lay ahead of the writer. -/
theorem wnum_any (B b : Nat) (bs : List Int) (k0 : Bool) (p : Option Addr) (c : Nat) (zs : List Int) (w W : World) (h : WSt 90 5 B w b bs k0) (hl : bs.length ≤ 1000) (hBw : B ≤ w.heap.size) (hz : zs.length ≤ 150) (hW : B = W.heap.size) (hb : Below B W w) (hc : Ints W p zs) :
    Calls Try.prog 47 #[.pointer (some ⟨b, 0, none⟩), .slice p zs.length c] w fun e w' => e = .returned (.pointer (some ⟨b, 0, none⟩)) ∧ WSt 90 5 B w' b (bs ++ puts zs) (k0 && goods zs) ∧ Below B w w' := by
  rcases hc with rfl | ⟨g, o, rfl, hc⟩
  · refine (wnum_zero _ p c w).mono ?_
    rintro e w' ⟨rfl, rfl⟩
    refine ⟨rfl, ?_, Below.refl _ _⟩
    simpa [puts, goods] using h
  · by_cases hn : zs = []
    · subst hn
      refine (wnum_zero _ _ c w).mono ?_
      rintro e w' ⟨rfl, rfl⟩
      refine ⟨rfl, ?_, Below.refl _ _⟩
      simpa [puts, goods] using h
    · have h0 : 0 < zs.length := List.length_pos_iff.2 hn
      have hg : g < B := by rw [hW]; exact World.block_lt_of_cell? _ _ (hc 0 h0)
      exact wnum_some B b bs k0 g o c zs w h hl hBw hz hg (fun j hj => (hb.cell (p := ⟨g, o + j, none⟩) hg).trans (hc j hj))
end Go.Proofs.Ytlbdkigiphnabaa.Codec
