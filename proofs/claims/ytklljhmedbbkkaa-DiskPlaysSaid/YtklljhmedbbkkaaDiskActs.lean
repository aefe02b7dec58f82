/-
  Acts in memory; New, of any room; Fits, of any acts; step, of any act. The given acts' numbers are such as their types hold.
-/
import Derived.Test.YtklljhmedbbkkaaDiskStep
import Derived.Test.YtklljhmedbbkkaaDiskStep1
import Derived.Test.YtklljhmedbbkkaaDiskStep2
namespace Go.Proofs.Ytklljhmedbbkkaa.Disk
open Go.RowKit Codec

/-- Acts that lie in memory. -/
def ActsAt (w : World) (p : Option Addr) (l : List Ac) : Prop :=
  l = [] ∨ ∃ g o, p = some ⟨g, o, none⟩ ∧ ∀ j, j < l.length → w.cell? ⟨g, o + j * 3, none⟩ = some (.int .u8 (l.getD j noAc).kind) ∧ w.cell? ⟨g, o + j * 3 + 2, none⟩ = some (.int .i64 (l.getD j noAc).n) ∧
    ∃ q c, w.cell? ⟨g, o + j * 3 + 1, none⟩ = some (.slice q (l.getD j noAc).b.length c) ∧ (q = none → (l.getD j noAc).b = [] ∧ c = 0) ∧ Cel w q (l.getD j noAc).b
/-- Numbers such as their types hold. -/
def Wide (l : List Ac) : Prop := ∀ a ∈ l, 0 ≤ a.kind ∧ a.kind < 256 ∧ -9223372036854775808 ≤ a.n ∧ a.n ≤ 9223372036854775807 ∧ (a.b.length : Int) ≤ 9223372036854775807
theorem wide_at {l : List Ac} (h : Wide l) (j : Nat) (hj : j < l.length) : 0 ≤ (l.getD j noAc).kind ∧ (l.getD j noAc).kind < 256 ∧ -9223372036854775808 ≤ (l.getD j noAc).n ∧ (l.getD j noAc).n ≤ 9223372036854775807 ∧ ((l.getD j noAc).b.length : Int) ≤ 9223372036854775807 := by
  apply h
  simp [List.getD, hj]

section
variable {B d m : Nat} {room : Int} {s : Sl} {x : Option Nat} {w : World}

/-- Any act. -/
theorem step_any (a : Ac) (q : Option Addr) (c : Nat) (h : Pair 44 37 5 B w d m room s s x) (hr : Holds room s) (h0 : 0 ≤ room) (hm : room ≤ 16777216) (hBw : B ≤ w.heap.size)
    (k0 : 0 ≤ a.kind) (k1 : a.kind < 256) (n0 : -9223372036854775808 ≤ a.n) (n1 : a.n ≤ 9223372036854775807) (hbc : ∀ u, Below B w u → Cel u q a.b) (hq : q = none → a.b = [] ∧ c = 0) (hl : (a.b.length : Int) ≤ 3000) :
    Calls Try.prog 15 #[.pointer (some ⟨d, 0, none⟩), .pointer (some ⟨m, 0, none⟩), .agg #[.int .u8 a.kind, .slice q a.b.length c, .int .i64 a.n]] w fun e w' => e = .returned (.bool true) ∧ Both B w d m room (dStep room s a) w' := by
  have hc : a.kind % 5 = 0 ∨ a.kind % 5 = 1 ∨ a.kind % 5 = 2 ∨ a.kind % 5 = 3 ∨ a.kind % 5 = 4 := by omega
  rcases hc with e | e | e | e | e
  · have : dStep room s a = dWrite room s a.b := by simp [dStep, way, e]
    rw [this]
    exact step_write0 a.kind a.n q c a.b h hr hm hBw e k0 k1 h0 hbc hq hl
  · have : dStep room s a = dWrite room s a.b := by simp [dStep, way, e]
    rw [this]
    exact step_write1 a.kind a.n q c a.b h hr hm hBw e k0 k1 h0 hbc hq hl
  · have : dStep room s a = dSync s := by simp [dStep, way, e]
    rw [this]
    exact step_sync a.kind a.n q c a.b h hr hm hBw e k0 k1
  · have : dStep room s a = dCrash a.n s := by simp [dStep, way, e]
    rw [this]
    exact step_crash a.kind a.n q c a.b h hr hm hBw e k0 k1 n0 n1
  · have : dStep room s a = dReplace room s a.b := by simp [dStep, way, e]
    rw [this]
    exact step_replace a.kind a.n q c a.b h hr hm hBw e k0 k1 hbc hq hl
end

/-- New. -/
theorem new_ok (room : Int) (w : World) (h0 : 0 ≤ room) (h1 : room ≤ 16777216) :
    Calls Try.prog 7 #[.int .i64 room] w fun e w' => e = .returned (.tuple #[.pointer (some ⟨w.heap.size, 0, none⟩), .int .i64 0]) ∧ w' = w.alloc (.cells #[.int .i64 room, .slice none 0 0, .int .i64 0] 44) := by
  go_enter Try.func7, Try.ntmps7
  go_wp2
  go_ret2
  exact ⟨rfl, rfl⟩
theorem new_bad (room : Int) (w : World) (h : room < 0 ∨ (0 ≤ room ∧ 16777216 < room)) :
    Calls Try.prog 7 #[.int .i64 room] w fun e w' => e = .returned (.tuple #[.pointer none, .int .i64 1]) ∧ w = w' := by
  rcases h with h | ⟨h0, h⟩
  all_goals
    go_enter Try.func7, Try.ntmps7
    go_wp2
    go_ret2
    exact ⟨rfl, rfl⟩
theorem dsk_new (room : Int) (w : World) : Dsk 44 5 w.heap.size (w.alloc (.cells #[.int .i64 room, .slice none 0 0, .int .i64 0] 44)) w.heap.size room ([], []) none :=
  ⟨Nat.le_refl _, none, 0, heap_alloc_new _ _, World.ownsRow_nil _ _ _ _, rfl⟩
theorem pair_new (room : Int) (w : World) :
    Pair 44 37 5 w.heap.size ((w.alloc (.cells #[.int .i64 room, .slice none 0 0, .int .i64 0] 44)).alloc (.cells #[.int .i64 room, .slice none 0 0, .slice none 0 0] 37)) w.heap.size (w.heap.size + 1) room ([], []) ([], []) none := by
  refine ⟨(dsk_new room w).below ((Below.refl _ _).alloc (Nat.le_refl _) _), by omega, none, 0, none, 0, ?_, .nil, .nil⟩
  have := heap_alloc_new (w.alloc (.cells #[.int .i64 room, .slice none 0 0, .int .i64 0] 44)) (.cells #[.int .i64 room, .slice none 0 0, .slice none 0 0] 37)
  rwa [show (w.alloc (.cells #[.int .i64 room, .slice none 0 0, .int .i64 0] 44)).heap.size = w.heap.size + 1 by simp] at this

theorem fits_one {l : List Ac} {j : Nat} (h : 3000 < sum (l.take (j + 1))) : fits l = false := by
  have := sum_take_le l (j + 1)
  simp only [fits, Bool.and_eq_false_iff, decide_eq_false_iff_not]
  right
  omega

set_option maxRecDepth 100000 in
/-- Fits. -/
theorem fits_some (g o c : Nat) (l : List Ac) (w : World) (hll : (l.length : Int) ≤ 9223372036854775807) (hw : Wide l)
    (hc : ∀ j, j < l.length → ∃ q c, w.cell? ⟨g, o + j * 3 + 1, none⟩ = some (.slice q (l.getD j noAc).b.length c)) :
    Calls Try.prog 5 #[.slice (some ⟨g, o, none⟩) l.length c] w fun e w' => e = .returned (.bool (fits l)) ∧ w = w' := by
  have HC := Lib.hid hc; clear hc
  have HW := Lib.hid hw; clear hw
  go_enter Try.func5, Try.ntmps5
  go_wp2
  go_loopw [3, 4] (fun s i wr => ∃ k : Nat, k ≤ l.length ∧ k ≤ 61 ∧ i = .int .i64 (k : Int) ∧ (∃ t : Nat, Hid (t = sum (l.take k)) ∧ t ≤ 3000 ∧ s = .int .i64 (t : Int)) ∧ wr = w) (fun _ i _ => 61 - (intOf i).toNat)
  case atStart => exact ⟨0, by omega, by omega, rfl, ⟨0, (by simp [Hid, sum]), by omega, rfl⟩, rfl⟩
  case round =>
    obtain ⟨k, hk, hk61, rfl, ⟨t, ht, ht3, rfl⟩, rfl⟩ := hrel
    by_cases hlt : k < l.length
    · by_cases hlt2 : k ≤ 60
      · obtain ⟨q, cq, hcell⟩ := HC.out k hlt
        have hsucc := sum_take_succ l k hlt
        have hwide := (wide_at HW.out k hlt).2.2.2.2
        rw [← ht.out] at hsucc
        generalize (l.getD k noAc).b.length = y at *
        have hk1 : (k : Int) < (l.length : Int) := by omega
        by_cases hy : 3000 < y
        · have hy' : 3000 < (y : Int) := by omega
          have hf := Lib.hid (fits_one (by rw [hsucc]; omega))
          clear HC hsucc ht HW
          go_wp2
          go_ret
          exact ⟨by rw [hf.out]; rfl, rfl⟩
        · have hy' : (y : Int) ≤ 3000 := by omega
          by_cases hz : 3000 < t + y
          · have hz' : 3000 < (t : Int) + (y : Int) := by omega
            have hf := Lib.hid (fits_one (by rw [hsucc]; omega))
            clear HC hsucc ht HW
            go_wp2
            go_ret
            exact ⟨by rw [hf.out]; rfl, rfl⟩
          · have hz' : (t : Int) + (y : Int) ≤ 3000 := by omega
            have HS := Lib.hid hsucc
            clear HC hsucc ht HW
            go_wp2
            go_roundw
            case rel => exact ⟨k + 1, by omega, by omega, by go_num, ⟨t + y, HS.out.symm, by omega, by go_num⟩, trivial⟩
            case measure => simp [intOf]; omega
      · have hk1 : (k : Int) < (l.length : Int) := by omega
        have hk2 : (60 : Int) < (k : Int) := by omega
        have hf : fits l = false := by
          simp only [fits, Bool.and_eq_false_iff, decide_eq_false_iff_not]
          left
          omega
        have hll2 : decide ((l.length : Int) ≤ 60) = false := by simp; omega
        have HF := Lib.hid hf
        clear HC ht HW hf
        go_wp2
        go_ret
        exact ⟨by rw [HF.out]; rfl, rfl⟩
    · obtain rfl : k = l.length := by omega
      have hs := ht.out
      rw [List.take_length] at hs
      have hf : fits l = decide ((l.length : Int) ≤ 60) := by
        have h1 : decide (sum l ≤ 3000) = true := decide_eq_true (by omega)
        rw [fits, h1, Bool.and_true]
        by_cases h : l.length ≤ 60
        · rw [decide_eq_true h, decide_eq_true (by omega)]
        · rw [decide_eq_false h, decide_eq_false (by omega)]
      have HF := Lib.hid hf
      clear HC ht HW hs hf
      go_wp2
      go_ret
      exact ⟨by rw [HF.out]; rfl, rfl⟩
/-- Fits of no acts. -/
theorem fits_zero (p : Option Addr) (c : Nat) (w : World) : Calls Try.prog 5 #[.slice p 0 c] w fun e w' => e = .returned (.bool true) ∧ w = w' := by
  go_enter Try.func5, Try.ntmps5
  go_wp2
  refine wp_loop_rounds 1 ?_
  rw [rounds_succ]
  go_wp2
  go_ret
  exact ⟨rfl, rfl⟩
theorem fits_any (p : Option Addr) (c : Nat) (l : List Ac) (w : World) (hll : (l.length : Int) ≤ 9223372036854775807) (hw : Wide l) (hc : ActsAt w p l) :
    Calls Try.prog 5 #[.slice p l.length c] w fun e w' => e = .returned (.bool (fits l)) ∧ w = w' := by
  rcases hc with rfl | ⟨g, o, rfl, hc⟩
  · exact fits_zero p c w
  · exact fits_some g o c l w hll hw fun j hj => by
      obtain ⟨_, _, q, k, h, _⟩ := hc j hj
      exact ⟨q, k, h⟩
end Go.Proofs.Ytklljhmedbbkkaa.Disk
