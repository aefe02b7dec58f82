/-
  slices.Clone at bytes, and the document's Eight: each returns a new row of the bytes that it was given, or of the number's; of what lay when the call began nothing has turned; any bytes, any number.
-/
import Derived.Test.YtlbdkigiphnabaaChecked
import Derived.Test.YtlbdkigiphnabaaCodecWords
import Derived.Outline
import Derived.WalkSpells
namespace Go.Proofs.Ytlbdkigiphnabaa.Codec
open Go.RowKit

theorem info8 : (Try.prog.info? 5).map (fun i => (i.zero, i.size, i.bytes)) = some (some (.int .u8 0), 1, 1) := by kernel_rfl
theorem eq_nil (w : World) (a : Option Addr) (n c n' c' : Nat) : (binOp .eql 39 (.slice a n c) (.slice none n' c')).run Try.prog w = .ok (.bool a.isNone) w := Lib.run_eql_slice_nil w _ _ a n c n' c' Try.underlying39

set_option maxRecDepth 100000 in
theorem clone_nil (n c : Nat) (w : World) : Calls Try.prog 50 #[.slice none n c] w fun e w' => e = .returned (.slice none 0 0) ∧ w = w' := by
  have hq := fun (w : World) a n c n' c' => eq_nil w a n c n' c'
  go_enter Try.func50, Try.ntmps50
  go_wp2
  go_ret
  exact ⟨rfl, rfl⟩

set_option maxRecDepth 100000 in
theorem clone_some (a : Addr) (c : Nat) (xs : List Int) (w : World) (hl : xs.length ≤ 100000000) (hc : Cel w (some a) xs) :
    Calls Try.prog 50 #[.slice (some a) xs.length c] w (Made 5 w xs id) := by
  obtain ⟨i0, hi, hz0, hz1, hz2⟩ := info_parts info8
  have hb : Below w.heap.size w (w.alloc (.cells #[] 5)) := (Below.refl _ _).alloc (Nat.le_refl _) _
  have HC := Lib.hid (hc.at_ hb); clear hc
  have hown : (w.alloc (.cells #[] 5)).ownsRow w.heap.size 5 1 (.slice (some ⟨w.heap.size, 0, none⟩) 0 0) 0 [] := World.ownsRow_made w #[] 0 (Nat.le_refl _) (Nat.zero_le _) rfl
  have hq := fun (w : World) a n c n' c' => eq_nil w a n c n' c'
  go_enter Try.func50, Try.ntmps50
  go_wp2_with (at_builtin; refine wpList_append_own _ rfl (.tmp 5) (.tmp 6) 39 rfl w.heap.size 5 i0 (.int .u8 0) 1 1 Try.underlying39 hi hz0 hz1 hz2 rfl (by decide) _ _ _ rfl hown a xs.length c (cells8 xs) rfl (by rw [len_cells8, Nat.mul_one]) HC.out (cells8_one xs) (by unfold maxLen; omega) (by omega) (by simp) ?_)
  intro v w1 ho hg _
  have hb1 := hb.grown hg (by simp) (fun k hk => by simp [Value.ownBlock] at hk; omega)
  clear hg hown HC
  go_wp2
  go_ret
  exact ⟨v, rfl, ho, hb1⟩

/-- slices.Clone, of any slice. -/
theorem clone_any (p : Option Addr) (c : Nat) (xs : List Int) (w : World) (hl : xs.length ≤ 100000000) (hc : Cel w p xs) (hp : p = none → xs = []) :
    Calls Try.prog 50 #[.slice p xs.length c] w (Made 5 w xs id) := by
  cases p with
  | none =>
    obtain rfl := hp rfl
    refine (clone_nil 0 c w).mono ?_
    rintro e w' ⟨rfl, rfl⟩
    exact ⟨_, rfl, World.ownsRow_nil _ _ _ _, Below.refl _ _⟩
  | some a => exact clone_some a c xs w hl hc

set_option maxRecDepth 100000 in
theorem eight_any (x : Int) (w : World) :
    Calls Try.prog 56 #[.int .u64 x] w (Made 5 w (eight x) id) := by
  obtain ⟨i0, hi, hz0, hz1, hz2⟩ := info_parts info8
  go_enter Try.func56, Try.ntmps56
  go_wp2
  go_loopw [3, 4] (fun v i wr => ∃ k : Nat, k ≤ 8 ∧ i = .int .i64 (7 - (k : Int)) ∧ wr.ownsRow w.heap.size 5 1 v (some8 x k).length (cells8 (some8 x k)) ∧ Below w.heap.size w wr) (fun _ i _ => (intOf i + 1).toNat)
  case atStart => exact ⟨0, by omega, rfl, World.ownsRow_nil _ _ _ _, Below.refl _ _⟩
  case round =>
    obtain ⟨k, hk, rfl, hown, hb⟩ := hrel
    by_cases hlt : k < 8
    · rw [len_some8] at hown
      have hB : w.heap.size ≤ wr.heap.size := hb.size
      go_wp2_with (at_builtin; refine wpList_append_own _ rfl (.tmp 9) (.tmp 16) 39 rfl w.heap.size 5 i0 (.int .u8 0) 1 1 Try.underlying39 hi hz0 hz1 hz2 rfl (by decide) _ _ _ rfl (hown.alloc _) ⟨wr.heap.size, 0, none⟩ 1 1 [.int .u8 (x / 2 ^ (8 * (7 - k)) % 256)] rfl rfl ?c1 ?c2 ?c3 ?c4 ?c5 ?_)
      case c1 => intro j u hj; match j, hj with | 0, hj => simp at hj; subst hj; simp [Addr.add]
      case c2 => intro u hu; simp at hu; subst hu; rfl
      case c3 => unfold maxLen; omega
      case c4 => omega
      case c5 => simp; omega
      intro v' w1 ho hg _
      have ho' : w1.ownsRow w.heap.size 5 1 v' (some8 x (k + 1)).length (cells8 (some8 x (k + 1))) := by
        rw [len_some8, some8_succ, cells8_append]
        rw [byteAt_of x k _ rfl] at ho
        exact ho
      have hb1 := (hb.alloc hB _).grown hg (by simp; omega) (fun j hj => (hown.lt j hj).1)
      have R := Lib.hid ho'
      clear hg hown hb ho ho'
      go_wp2
      go_roundw
      case rel => exact ⟨k + 1, by omega, by congr 1; omega, R.out, hb1⟩
      case measure => simp [intOf]; omega
    · obtain rfl : k = 8 := by omega
      have R := Lib.hid hown; clear hown
      go_wp2
      go_ret
      exact ⟨_, rfl, R.out, hb⟩
end Go.Proofs.Ytlbdkigiphnabaa.Codec
