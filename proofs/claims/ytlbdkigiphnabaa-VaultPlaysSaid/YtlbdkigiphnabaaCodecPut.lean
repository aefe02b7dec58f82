/-
  The document's in, and Put: of any slice of up to 100000 ints: the numbers' bytes, a new row, and OK, if each is a number from 0 to 2^62; else nothing, and ErrArg; of what lay when the call began nothing has turned.
-/
import Derived.Test.YtlbdkigiphnabaaCodecRows
namespace Go.Proofs.Ytlbdkigiphnabaa.Codec
open Go.RowKit

theorem in_yes (x : Int) (w : World) (h : good x = true) : Calls Try.prog 55 #[.int .i64 x] w fun e w' => e = .returned (.bool true) ∧ w = w' := by
  simp only [good, decide_eq_true_eq] at h
  obtain ⟨h0, h1⟩ := h
  go_enter Try.func55, Try.ntmps55
  go_wp2
  go_ret
  exact ⟨rfl, rfl⟩
theorem in_no (x : Int) (w : World) (h : good x = false) : Calls Try.prog 55 #[.int .i64 x] w fun e w' => e = .returned (.bool false) ∧ w = w' := by
  simp only [good, decide_eq_false_iff_not] at h
  by_cases h0 : x < 0
  · go_enter Try.func55, Try.ntmps55
    go_wp2
    go_ret
    exact ⟨rfl, rfl⟩
  · have h1 : 4611686018427387904 < x := by omega
    have h2 : 0 ≤ x := by omega
    have h3 : decide (x ≤ 4611686018427387904) = false := by simp; omega
    clear h h0 h1
    go_enter Try.func55, Try.ntmps55
    go_wp2
    go_ret
    exact ⟨rfl, rfl⟩

/-- What Put tells. -/
def PutTold (w : World) (zs : List Int) (e : Ending) (w' : World) : Prop :=
  (goods zs = true ∧ Made 5 w (puts zs) (fun v => .tuple #[v, .int .i64 0]) e w') ∨ (goods zs = false ∧ e = .returned (.tuple #[.slice none 0 0, .int .i64 1]) ∧ Below w.heap.size w w')

theorem goods_take_succ (zs : List Int) (k : Nat) (hk : k < zs.length) : goods (zs.take (k + 1)) = (goods (zs.take k) && good (zs.getD k 0)) := by
  rw [take_snoc zs k hk]
  simp [goods]
theorem goods_bad (zs : List Int) (k : Nat) (hk : k < zs.length) (h : good (zs.getD k 0) = false) : goods zs = false := by
  rw [goods, List.all_eq_false]
  exact ⟨zs.getD k 0, (by simp [List.getD, hk]), (by rw [h]; simp)⟩
theorem puts_take_succ (zs : List Int) (k : Nat) (hk : k < zs.length) : puts (zs.take (k + 1)) = puts (zs.take k) ++ eight (zs.getD k 0) := by
  rw [take_snoc zs k hk, puts_snoc]

set_option maxRecDepth 100000 in
theorem put_some (b o c : Nat) (zs : List Int) (w : World) (hl : zs.length ≤ 100000) (hc : ∀ j, j < zs.length → w.cell? ⟨b, o + j, none⟩ = some (.int .i64 (zs.getD j 0))) :
    Calls Try.prog 49 #[.slice (some ⟨b, o, none⟩) zs.length c] w (PutTold w zs) := by
  obtain ⟨i0, hi, hz0, hz1, hz2⟩ := info_parts info8
  have HC := Lib.hid hc; clear hc
  go_enter Try.func49, Try.ntmps49
  go_wp2
  go_loopw [4, 5] (fun v i wr => ∃ k : Nat, k ≤ zs.length ∧ i = .int .i64 (k : Int) ∧ Hid (goods (zs.take k) = true) ∧ wr.ownsRow w.heap.size 5 1 v (puts (zs.take k)).length (cells8 (puts (zs.take k))) ∧ Below w.heap.size w wr) (fun _ i _ => zs.length - (intOf i).toNat)
  case atStart => exact ⟨0, by omega, rfl, (by simp [Hid, goods]), World.ownsRow_nil _ _ _ _, Below.refl _ _⟩
  case round =>
    obtain ⟨k, hk, rfl, hgo, hown, hb⟩ := hrel
    by_cases hlt : k < zs.length
    · have hck := HC.out k hlt
      have hcw : wr.cell? ⟨b, o + k, none⟩ = some (.int .i64 (zs.getD k 0)) := (hb.cell (p := ⟨b, o + k, none⟩) (World.block_lt_of_cell? _ _ hck)).trans hck
      obtain ⟨x, hx⟩ : ∃ x, x = zs.getD k 0 := ⟨_, rfl⟩
      rw [← hx] at hcw
      have HX := Lib.hid hx
      clear hx hck
      by_cases hg : good x = true
      · have hgx := hg
        simp only [good, decide_eq_true_eq] at hgx
        obtain ⟨h0, h1⟩ := hgx
        have HG := Lib.hid hg
        clear hg
        have hB : w.heap.size ≤ wr.heap.size := hb.size
        have hlen : (puts (zs.take k)).length ≤ 800000 := by rw [len_puts]; simp; omega
        have HO := Lib.hid hown
        clear hown
        go_wp2_with (first
          | (go_at_call 55; refine (in_yes _ _ HG.out).mono ?_; rintro e w1 ⟨rfl, rfl⟩)
          | (go_at_call 56; refine (eight_any x _).mono ?_; rintro e w1 ⟨v2, rfl, ho2, hb2⟩; rw [len_eight] at ho2; obtain ⟨g, cap, rfl, _, _⟩ := ho2.form (by omega); have HO2 := Lib.hid ho2; clear ho2; have hs2 := hb2.size)
          | (at_builtin; refine wpList_append_own _ rfl (.tmp 20) (.tmp 26) 39 rfl w.heap.size 5 i0 (.int .u8 0) 1 1 Try.underlying39 hi hz0 hz1 hz2 rfl (by decide) _ _ _ rfl (own_below HO.out hb2) ⟨g, 0, none⟩ 8 cap (cells8 (eight x)) rfl (by rw [len_cells8, len_eight]) (HO2.out.cells rfl) (cells8_one _) (by unfold maxLen; omega) (by omega) (by omega) ?_; intro v' w2 ho hgr _; clear HO2))
        have ho' : w2.ownsRow w.heap.size 5 1 v' (puts (zs.take (k + 1))).length (cells8 (puts (zs.take (k + 1)))) := by
          rw [puts_take_succ zs k hlt, ← HX.out, cells8_append, List.length_append, len_eight]
          exact ho
        have hb1 := (hb.trans (hb2.mono hB)).grown hgr (by omega) (fun j hj => (HO.out.lt j hj).1)
        have R := Lib.hid ho'
        have R2 : Hid (goods (zs.take (k + 1)) = true) := by show _ = _; rw [goods_take_succ zs k hlt, hgo.out, ← HX.out, HG.out]; rfl
        clear hgr HO hb ho ho' hb2
        go_roundw
        case rel => exact ⟨k + 1, by omega, by go_num, R2, R.out, hb1⟩
        case measure => simp [intOf]; omega
      · have HG := Lib.hid (Bool.eq_false_iff.2 hg)
        clear hg
        have HO := Lib.hid hown
        clear hown
        go_wp2_with (go_at_call 55; refine (in_no _ _ HG.out).mono ?_; rintro e w1 ⟨rfl, rfl⟩)
        go_ret2
        exact .inr ⟨goods_bad zs k hlt (by rw [← HX.out]; exact HG.out), rfl, hb⟩
    · obtain rfl : k = zs.length := by omega
      rw [List.take_length] at hown hgo
      have HO := Lib.hid hown
      clear hown
      go_wp2
      go_ret2
      exact .inl ⟨hgo.out, _, rfl, HO.out, hb⟩

set_option maxRecDepth 100000 in
theorem put_zero (p : Option Addr) (c : Nat) (w : World) :
    Calls Try.prog 49 #[.slice p 0 c] w (PutTold w []) := by
  go_enter Try.func49, Try.ntmps49
  go_wp2
  refine wp_loop_rounds 1 ?_
  rw [rounds_succ]
  go_wp2
  go_ret2
  exact .inl ⟨rfl, _, rfl, World.ownsRow_nil _ _ _ _, Below.refl _ _⟩

/-- Put, of any slice of ints. -/
theorem put_any (p : Option Addr) (c : Nat) (zs : List Int) (w : World) (hl : zs.length ≤ 100000) (hc : Ints w p zs) :
    Calls Try.prog 49 #[.slice p zs.length c] w (PutTold w zs) := by
  rcases hc with rfl | ⟨b, o, rfl, hc⟩
  · exact put_zero p c w
  · exact put_some b o c zs w hl hc
end Go.Proofs.Ytlbdkigiphnabaa.Codec
