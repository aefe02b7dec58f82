/-
  The program's writer once more: what Bits and Num of numbers that may be leave as it was: all ahead of the writer, and all blocks that are neither a writer's nor bytes.
-/
import Derived.Test.YtlbdkigiphnabaaCodecWrites
import Derived.Deep.RegionLaw
namespace Go.Proofs.Ytlbdkigiphnabaa.Codec
open Go.RowKit

/-- What a writer's step leaves as it was. -/
def WK (B : Nat) (w w' : World) : Prop := B ≤ w.heap.size ∧ Below B w w' ∧ ∀ T, T ≠ 90 → T ≠ 5 → Stays T w w'
section
variable {B : Nat} {w w' w'' : World}
theorem WK.refl (h : B ≤ w.heap.size) : WK B w w := ⟨h, Below.refl _ _, fun _ _ _ => .refl⟩
theorem WK.trans (h : WK B w w') (k : WK B w' w'') : WK B w w'' := ⟨h.1, h.2.1.trans k.2.1, fun T h1 h2 => (h.2.2 T h1 h2).trans (k.2.2 T h1 h2)⟩
theorem WK.below (h : B ≤ w.heap.size) (hb : Below w.heap.size w w') : WK B w w' := ⟨h, hb.mono h, fun _ _ _ => .below hb⟩
theorem WK.size (h : WK B w w') : B ≤ w'.heap.size := Nat.le_trans h.1 h.2.1.size
theorem WK.cell {b o : Nat} {cs : Array Value} {z : Nat × Nat} {T : TypeId} (h : WK B w w') (hb : w.heap[b]? = some (.cells cs T z)) (h1 : T ≠ 90) (h2 : T ≠ 5) : w'.cell? ⟨b, o, none⟩ = cs[o]? :=
  cell_of_row _ _ _ _ _ _ (h.2.2 T h1 h2 b cs z hb)

/-- A byte is appended: what else stays. -/
theorem push_stays {E T T' : TypeId} {o : Obj} {b : Nat} {v u : Value} {n : Nat} {xs : List Value} {cs : Array Value} (hg : ((w.alloc o).drew).grownBy w' v.ownBlock) (h1 : T' ≠ T) (h2 : T' ≠ E) (hT : T ≠ E) (hv : w.heap[b]? = some (.cells cs T (0, 0))) (hown : w.ownsRow B E 1 v n xs) :
    Stays T' w (w'.setCell ⟨b, 0, none⟩ u) := by
  intro k ds z hk
  have h0 : Below w.heap.size w (w.alloc o).drew := below_new
  have e1 : w'.heap[k]? = some (.cells ds T' z) := (hg.block k (Nat.lt_of_lt_of_le (lt_of_heap hk) h0.size) (fun e => own_ne h2 hown hk e.symm)).trans ((h0.block k (lt_of_heap hk)).trans hk)
  have e2 := push_block hT hv hown h0 hg
  exact Stays.grown e2 (Ne.symm h1) (grown_set b 0 u) k ds z e1
theorem push_wk {o : Obj} {b g cap : Nat} {v : Value} {bs : List Int} {y : Int} (hg : ((w.alloc o).drew).grownBy w' v.ownBlock) (ho : w'.ownsRow B 5 1 (.slice (some ⟨g, 0, none⟩) (bs.length + 1) cap) (bs.length + 1) (cells8 bs ++ [.int .u8 y]))
    (hB : B ≤ b) (hv : w.heap[b]? = some (.cells #[v, .bool false] 90 (0, 0))) (hown : w.ownsRow B 5 1 v bs.length (cells8 bs)) (hBw : B ≤ w.heap.size) :
    w'.cell? ⟨b, 0, none⟩ = some v ∧ w'.frozen? ⟨b, 0, none⟩ = false ∧ Hid (Wtr 90 5 B (w'.setCell ⟨b, 0, none⟩ (.slice (some ⟨g, 0, none⟩) (bs.length + 1) cap)) b (bs ++ [y]) ∧ WK B w (w'.setCell ⟨b, 0, none⟩ (.slice (some ⟨g, 0, none⟩) (bs.length + 1) cap))) := by
  obtain ⟨h1, h2, h3⟩ := push_all hg ho (by decide) hB hv hown hBw
  exact ⟨h1, h2, ⟨h3.out.1, hBw, h3.out.2, fun T e1 e2 => push_stays hg e1 e2 (by decide) hv hown⟩⟩
end

set_option maxRecDepth 100000 in
set_option maxHeartbeats 400000 in
theorem wbits_wk (B b : Nat) (bs : List Int) (x : Int) (w : World) (h : Wtr 90 5 B w b bs) (hl : bs.length ≤ 100000) (hBw : B ≤ w.heap.size) :
    Calls Try.prog 54 #[.pointer (some ⟨b, 0, none⟩), .int .u64 x] w fun e w' => e = .returned (.pointer (some ⟨b, 0, none⟩)) ∧ Wtr 90 5 B w' b (bs ++ eight x) ∧ WK B w w' := by
  obtain ⟨i0, hi, hz0, hz1, hz2⟩ := info_parts info8
  have c1 : w.cell? ⟨b, 1, none⟩ = some (.bool false) := by
    obtain ⟨_, v, hv, _⟩ := h
    rw [cell_of_row w b 1 _ _ (0, 0) hv]; rfl
  have HW := Lib.hid h; clear h
  go_enter Try.func54, Try.ntmps54
  go_wp2
  go_loopw [15] (fun i wr => ∃ k : Nat, k ≤ 8 ∧ i = .int .i64 (k : Int) ∧ Hid (Wtr 90 5 B wr b (bs ++ some8 x k)) ∧ Hid (WK B w wr)) (fun i _ => 8 - (intOf i).toNat)
  case atStart => exact ⟨0, by omega, rfl, (by rw [some8_zero, List.append_nil]; exact HW), .refl hBw⟩
  case round =>
    obtain ⟨k, hk, rfl, hw, hb⟩ := hrel
    by_cases hlt : k < 8
    · obtain ⟨hB, v, hv, hown⟩ := hw.out
      have hBr : B ≤ wr.heap.size := hb.out.size
      have hln : (bs ++ some8 x k).length ≤ 100008 := by rw [List.length_append, len_some8]; omega
      have d0 : wr.cell? ⟨b, 0, none⟩ = some v := by rw [cell_of_row wr b 0 _ _ (0, 0) hv]; rfl
      have g0 : wr.frozen? ⟨b, 0, none⟩ = false := frozen_of hv
      have hbl : b < wr.heap.size := lt_of_heap hv
      have HV := Lib.hid hv
      have HO := Lib.hid hown
      clear hv hown hw
      obtain ⟨bk, hbk⟩ : ∃ l, l = bs ++ some8 x k := ⟨_, rfl⟩
      rw [← hbk] at HO hln
      have HB := Lib.hid hbk
      clear hbk
      go_wp2
      have e0 : IntKind.i64.wrap (7 - (k : Int)) = 7 - (k : Int) := IntWalk.i64_in _ (by omega)
      have e1 : IntKind.i64.wrap (8 * (7 - (k : Int))) = 8 * (7 - (k : Int)) := IntWalk.i64_in _ (by omega)
      have e2 : 0 ≤ 8 * (7 - (k : Int)) := by omega
      have e3 : 8 * (7 - (k : Int)) ≤ 64 := by omega
      have e4 : (8 * (7 - (k : Int))).toNat = 8 * (7 - k) := by omega
      go_region_law (refine step_append_lies _ rfl (.tmp 22) (.tmp 29) 39 rfl B 5 i0 (.int .u8 0) 1 1 Try.underlying39 hi hz0 hz1 hz2 rfl (by decide) v bk.length (cells8 bk) rfl (HO.out.alloc _) ⟨wr.heap.size, 0, none⟩ 1 1 [.int .u8 (IntKind.u8.wrap (x / 2 ^ (8 * (7 - k))))] rfl rfl (World.news_of_block (heap_alloc_new _ _)) (by intro u hu; simp at hu; subst hu; rfl) (by decide) (by unfold maxLen; omega) (by omega) (by simp; omega) _ rfl ?_; intro g cap w1 ho hg _ _; obtain ⟨k0, k1, D⟩ := push_wk hg ho hB HV.out HO.out hBr; clear ho hg)
      all_goals
        clear e0 e1 e2 e3 e4
        have R : Hid (Wtr 90 5 B _ b (bs ++ some8 x (k + 1))) := (by show Wtr 90 5 B _ b _; rw [some8_succ, ← List.append_assoc, ← HB.out, ← byteAt_of x k _ rfl, ← IntKind.wrap_u8]; exact D.out.1)
        have R2 := Lib.hid (hb.out.trans D.out.2)
        clear D
        go_wp2
        go_roundw
        case rel => exact ⟨k + 1, by omega, by go_num, R, R2⟩
        case measure => simp [intOf]; omega
    · obtain rfl : k = 8 := by omega
      go_wp2
      go_ret
      exact ⟨rfl, hw.out, hb.out⟩

set_option maxRecDepth 100000 in
/-- Num, of numbers that may be, in a block of ints. -/
theorem wnum_wk (B b : Nat) (bs : List Int) (g o c : Nat) (zs : List Int) (w : World) (h : Wtr 90 5 B w b bs) (hl : bs.length ≤ 50000) (hBw : B ≤ w.heap.size) (hz : zs.length ≤ 150) (hgood : goods zs = true)
    (hg : ∃ cs z, w.heap[g]? = some (.cells cs 3 z)) (hc : ∀ j, j < zs.length → w.cell? ⟨g, o + j, none⟩ = some (.int .i64 (zs.getD j 0))) :
    Calls Try.prog 47 #[.pointer (some ⟨b, 0, none⟩), .slice (some ⟨g, o, none⟩) zs.length c] w fun e w' => e = .returned (.pointer (some ⟨b, 0, none⟩)) ∧ Wtr 90 5 B w' b (bs ++ puts zs) ∧ WK B w w' := by
  have HC := Lib.hid hc; clear hc
  have HW := Lib.hid h; clear h
  have HG := Lib.hid hgood; clear hgood
  have HT := Lib.hid hg; clear hg
  go_enter Try.func47, Try.ntmps47
  go_wp2
  go_loopw [9] (fun i wr => ∃ k : Nat, k ≤ zs.length ∧ i = .int .i64 (k : Int) ∧ Hid (Wtr 90 5 B wr b (bs ++ puts (zs.take k))) ∧ Hid (WK B w wr)) (fun i _ => zs.length - (intOf i).toNat)
  case atStart => exact ⟨0, by omega, rfl, (by simpa [puts] using HW), .refl hBw⟩
  case round =>
    obtain ⟨k, hk, rfl, hw, hb⟩ := hrel
    by_cases hlt : k < zs.length
    · have hcw : wr.cell? ⟨g, o + k, none⟩ = some (.int .i64 (zs.getD k 0)) := by
        obtain ⟨cs, z, hcs⟩ := HT.out
        rw [hb.out.cell hcs (by decide) (by decide), ← cell_of_row _ _ _ _ _ _ hcs]
        exact HC.out k hlt
      have HP := Lib.hid (puts_take_succ zs k hlt)
      obtain ⟨h0, h1⟩ := good_at zs HG.out k hlt
      generalize zs.getD k 0 = x at hcw HP h0 h1
      have hBr : B ≤ wr.heap.size := hb.out.size
      have hln : (bs ++ puts (zs.take k)).length ≤ 100000 := by rw [List.length_append, len_puts]; simp; omega
      obtain ⟨l, hle⟩ : ∃ l, l = bs ++ puts (zs.take k) := ⟨_, rfl⟩
      rw [← hle] at hw hln
      have HL := Lib.hid hle
      clear hle
      have hbits := wbits_wk B b l x wr hw.out hln hBr
      have R : Hid (∀ w2, Wtr 90 5 B w2 b (l ++ eight x) → Wtr 90 5 B w2 b (bs ++ puts (zs.take (k + 1)))) := (by
        show ∀ _, _
        intro w2 h2
        rw [HP.out, ← List.append_assoc, ← HL.out]
        exact h2)
      clear HP HL hw
      go_wp2_with (go_at_call 54; refine hbits.mono ?_; rintro e w1 ⟨rfl, hw1, hb1⟩; have HW1 := Lib.hid hw1; have HB1 := Lib.hid hb1; clear hbits hw1 hb1)
      go_roundw
      case rel => exact ⟨k + 1, by omega, by go_num, R.out _ HW1.out, hb.out.trans HB1.out⟩
      case measure => simp [intOf]; omega
    · obtain rfl : k = zs.length := by omega
      rw [List.take_length] at hw
      go_wp2
      go_ret
      exact ⟨rfl, hw.out, hb.out⟩
theorem Wtr.on {T E : TypeId} {B b : Nat} {bs : List Int} {w w' : World} (h : Wtr T E B w b bs) (hb : Below w.heap.size w w') : Wtr T E B w' b bs := WSt.below (k := true) h hb
end Go.Proofs.Ytlbdkigiphnabaa.Codec
