/-
  slices.Repeat of one number, up to 64 times.
-/
import Derived.Test.YtagedggmfihhjaaTokFresh
import Derived.Test.YtagedggmfihhjaaRange
import Derived.Test.YtagedggmfihhjaaShelf
import Derived.Test.YtagedggmfihhjaaRingWalks
import Derived.Test.YtagedggmfihhjaaFrmTable
import Derived.IntWalk
import Derived.Deep.QuietTactic
import Derived.BigQuiet
import Derived.Deep.RegionHeld3
namespace Go.Proofs.Ytagedggmfihhjaa.Token
open Go.RowKit
open _root_.Go.Proofs.Ytagedggmfihhjaa.Frame (Rw Tb Tk noRow LeasesAt RowAt RowsAt cell_on Asked tokenOk)
open _root_.Go.Proofs.Ytagedggmfihhjaa.Codec (Ints lt_of_heap frozen_of heap_set)
open _root_.Go.Proofs.Ytagedggmfihhjaa.Range (Lay Fill)

theorem mul_one (n : Nat) (hn : n ≤ 64) (w : World) : Calls Try.prog 33 #[.int .u64 1, .int .u64 (n : Int)] w fun e w' => e = .returned (.tuple #[.int .u64 0, .int .u64 (n : Int)]) ∧ w = w' := by
  have h := Try.bits_Mul 1 n (by decide) (by omega) w
  rw [show 1 * n / 18446744073709551616 = 0 by omega, show 1 * n % 18446744073709551616 = n by omega] at h
  refine h.mono ?_
  rintro e w' ⟨rfl, rfl⟩
  exact ⟨rfl, rfl⟩
theorem infoI1 : (Try.prog.info? 3).map (·.size) = some 1 := by kernel_rfl
set_option maxRecDepth 100000 in
theorem repeat_any (x : Int) (n : Nat) (b : Nat) (w : World) (h1 : 1 ≤ n) (hn : n ≤ 64) (hx : w.cell? ⟨b, 0, none⟩ = some (.int .i64 x)) :
    Calls Try.prog 20 #[.slice (some ⟨b, 0, none⟩) 1 1, .int .i64 (n : Int)] w fun e w' => ∃ g, e = .returned (.slice (some ⟨g, 0, none⟩) n n) ∧ Fill w g n (List.replicate n (.int .i64 x)) w' := by
  have hm := fun u => mul_one n hn u
  obtain ⟨i0, hi, hz0, hz1, hz2⟩ := info_parts infoI
  have o1 : ∀ (k : Nat), ∀ v ∈ List.replicate k (Value.int .i64 x), v.oneCell' = true := fun k v hv => by
    rw [(List.mem_replicate.1 hv).2]; rfl
  have hX : Lay w (some ⟨b, 0, none⟩) (List.replicate 1 (Value.int .i64 x)) := .inr ⟨b, 0, rfl, fun j v hv => by
    have hj : j = 0 := by have := (List.getElem?_eq_some_iff.1 hv).1; simp at this; omega
    subst hj
    simp at hv
    rw [← hv]; exact hx⟩
  have HX := Lib.hid hX
  have O1 := Lib.hid o1
  have HI := Lib.hid hi
  clear hX o1 hx
  have hn1 : (List.replicate 1 (Value.int .i64 x)).length = Nat.min 1 n * 1 := by
    rw [List.length_replicate, Nat.mul_one]; exact (Nat.min_eq_left h1).symm
  have hn2 : 0 + (List.replicate 1 (Value.int .i64 x)).length ≤ n * 1 := by rw [List.length_replicate]; omega
  have HN1 := Lib.hid hn1
  have HN2 := Lib.hid hn2
  clear hn1 hn2
  go_enter Try.func20, Try.ntmps20
  go_wp2_with (first
    | (go_at_call 33; (with_reducible refine (hm _).mono ?_); rintro e w1 ⟨rfl, rfl⟩)
    | (at_make; refine Range.wpList_make_range rfl (.tmp 29) (.tmp 29) 24 rfl 3 i0 (.int .i64 0) 1 Try.underlying24 HI.out hz0 hz1 .i64 .i64 _ _ n rfl rfl (by omega) (by omega) (by rw [hz2]; omega) (by omega) ?_; intro w1 b1 s1 t1; have F1 := Lib.hid (Fill.mk (X := []) t1 (fun j v hv => by simp at hv) b1 (Nat.le_refl _)); clear t1 b1 s1)
    | ((with_reducible refine Range.wpList_copy_range (o := ⟨some 33, _, _, _, _, _⟩) rfl (.tmp 31) (.tmp 32) 24 24 rfl 3 1 Try.underlying24 infoI1 (some ⟨w.heap.size, 0, none⟩) (some ⟨b, 0, none⟩) n n 1 1 rfl rfl w.heap.size 0 (List.replicate 1 (Value.int .i64 x)) HN1.out (HX.out.on F1.out.below) (.inr rfl) (F1.out.sub 0 _ HN2.out) (O1.out 1) ?_); intro w2 e2; have F2 := Lib.hid (F1.out.step e2.out rfl HN2.out); clear F1 e2))
  go_loopw [8] (fun i wr => ∃ j : Nat, 1 ≤ j ∧ j ≤ n ∧ i = .int .i64 (j : Int) ∧ Hid (Fill w w.heap.size (n * 1) (List.replicate j (Value.int .i64 x)) wr)) (fun i _ => n - (intOf i).toNat)
  case atStart => exact ⟨1, Nat.le_refl _, h1, rfl, F2⟩
  case round =>
    obtain ⟨j, hj1, hj, rfl, F3⟩ := hrel
    clear F2 HN1 HN2 HX hm HI
    by_cases hlt : j < n
    · obtain ⟨q2, S2, Q2⟩ := Range.cut_tail Try.prog 24 3 1 Try.underlying24 infoI1 (some ⟨w.heap.size, 0, none⟩) n n j (j : Int) rfl hj (Nat.le_refl _)
      have S3 := Range.cut_head Try.prog 24 3 1 Try.underlying24 infoI1 (some ⟨w.heap.size, 0, none⟩) n n j hj
      have hd3 : List.replicate (Nat.min j (n - j)) (Value.int .i64 x) = [] ∨ q2 = some ⟨w.heap.size, j, none⟩ := by
        rcases Q2 with h | h
        · omega
        · right; rw [h]; simp [Addr.add_mid]
      have hk1 : Nat.min j (n - j) ≤ j := Nat.min_le_left _ _
      have hk2 : Nat.min j (n - j) ≤ n - j := Nat.min_le_right _ _
      have hk3 : 1 ≤ Nat.min j (n - j) := Nat.le_min.2 ⟨hj1, by omega⟩
      have hk4 : (List.replicate (Nat.min j (n - j)) (Value.int .i64 x)).length = Nat.min j (n - j) * 1 := by rw [List.length_replicate, Nat.mul_one]
      have hl3 : Lay wr (some ⟨w.heap.size, 0, none⟩) (List.replicate (Nat.min j (n - j)) (Value.int .i64 x)) := by
        have h : Lay wr (some ⟨w.heap.size, 0, none⟩) (List.replicate j (Value.int .i64 x)) := .inr ⟨_, 0, rfl, F3.out.has⟩
        rw [show List.replicate j (Value.int .i64 x) = List.replicate (Nat.min j (n - j)) (Value.int .i64 x) ++ List.replicate (j - Nat.min j (n - j)) (Value.int .i64 x) by rw [List.replicate_append_replicate]; congr 1; omega] at h
        exact h.left
      have hm3 : j + (List.replicate (Nat.min j (n - j)) (Value.int .i64 x)).length ≤ n * 1 := by rw [List.length_replicate]; omega
      have ht3 := F3.out.sub j _ hm3
      have hw : IntKind.i64.wrap ((j : Int) + ((Nat.min j (n - j) : Nat) : Int)) = (j : Int) + ((Nat.min j (n - j) : Nat) : Int) := IntWalk.i64_in _ (by omega)
      have hO := O1.out (Nat.min j (n - j))
      have hR : List.replicate j (Value.int .i64 x) ++ List.replicate (Nat.min j (n - j)) (Value.int .i64 x) = List.replicate (j + Nat.min j (n - j)) (Value.int .i64 x) := List.replicate_append_replicate
      have HR := Lib.hid hR
      have HM3 := Lib.hid hm3
      have HO := Lib.hid hO
      have HK4 := Lib.hid hk4
      clear Q2 hR hm3 hO hk4
      go_wp2
      go_region_law (refine Range.step_copy_range rfl (.tmp 41) (.tmp 44) 24 24 rfl 3 1 Try.underlying24 infoI1 q2 (some ⟨w.heap.size, 0, none⟩) (n - j) (n - j) j n (by simp [Act.eval, Act.put]) (by simp [Act.eval, Act.put]) w.heap.size j (List.replicate (Nat.min j (n - j)) (Value.int .i64 x)) HK4.out (Range.lay_heap rfl hl3) hd3 (Range.there_heap rfl ht3) HO.out ?_; intro w4 e4)
      all_goals
        have F4 := Lib.hid ((F3.out.same (Below.refl _ _).drew).step e4.out (by simp) HM3.out)
        clear e4 S2 S3 hl3 hd3 ht3 HM3 HK4 HO
        rw [HR.out] at F4
        go_wp2
        refine ⟨⟨.int .i64 ((j : Int) + ((Nat.min j (n - j) : Nat) : Int)), _, _, _, _, _, _, _, _, _, _, _, _, _, ⟨j + Nat.min j (n - j), by omega, by omega, by go_num, F4⟩, rfl⟩, ?measure⟩
        case measure =>
          show n - ((j : Int) + ((Nat.min j (n - j) : Nat) : Int)).toNat < n - ((j : Int)).toNat
          omega
    · obtain rfl : j = n := by omega
      rw [Nat.mul_one] at F3
      go_wp2
      go_ret
      exact ⟨_, rfl, F3.out⟩
end Go.Proofs.Ytagedggmfihhjaa.Token
