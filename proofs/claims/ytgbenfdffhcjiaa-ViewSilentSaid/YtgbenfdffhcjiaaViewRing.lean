/-
  The document's Next of sets, and its Same of two lists that are one.
-/
import Derived.Test.YtgbenfdffhcjiaaRingWalks
import Derived.Test.YtgbenfdffhcjiaaKit
import Derived.Deep.QuietTactic
import Derived.BigQuiet
namespace Go.Proofs.Ytgbenfdffhcjiaa.View
open Go.RowKit
open _root_.Go.Proofs.Ytgbenfdffhcjiaa.Ring
open _root_.Go.Proofs.Ytgbenfdffhcjiaa.Kit (Enc Lies Own At Kept Laid cell_on lt_heap take_snoc below_drewN ints)

theorem next_out' {x n i : Int} (h : (okRing n && (decide (0 ≤ i) && decide (i < n))) = false) : Ring.next x n i = -1 := by
  unfold Ring.next; rw [h]; rfl
theorem next_in' {x n i : Int} (h : (okRing n && (decide (0 ≤ i) && decide (i < n))) = true) : Ring.next x n i = ((behind n i).find? (fun j => has x j)).getD i := by
  unfold Ring.next; rw [h]; rfl
theorem find_none' {x : Int} {l : List Int} (h : ∀ y ∈ l, has x y = false) (i : Int) : (l.find? (fun j => has x j)).getD i = i := by
  have : l.find? (fun j => has x j) = none := List.find?_eq_none.2 (fun y hy => by rw [h y hy]; simp)
  rw [this]; rfl
theorem find_first' {x y : Int} {pre l : List Int} (hp : (pre ++ [y]) <+: l) (h : ∀ z ∈ pre, has x z = false) (hy : has x y = true) (i : Int) : (l.find? (fun j => has x j)).getD i = y := by
  obtain ⟨r, rfl⟩ := hp
  rw [List.append_assoc, List.find?_append, List.find?_eq_none.2 (fun z hz => by rw [h z hz]; simp)]
  simp [hy]
/-- The first nodes behind. -/
def pre (n i : Int) (q : Nat) : List Int := (List.range q).map (fun k : Nat => (i + ((k : Int) + 1)) % n)
theorem pre_succ (n i : Int) (q : Nat) : pre n i (q + 1) = pre n i q ++ [(i + ((q : Int) + 1)) % n] := by simp [pre, List.range_succ]
theorem pre_in (n i : Int) (q : Nat) (h : q ≤ n.toNat - 1) : pre n i q <+: behind n i := by
  unfold pre behind
  obtain ⟨d, hd⟩ : ∃ d, n.toNat - 1 = q + d := ⟨n.toNat - 1 - q, by omega⟩
  rw [hd, List.range_add, List.map_append]
  exact List.prefix_append _ _
theorem pre_all (n i : Int) : pre n i (n.toNat - 1) = behind n i := rfl
set_option maxRecDepth 100000 in
set_option maxHeartbeats 1000000 in
theorem refnext_set (x n i : Int) (w : World) (hx0 : 0 ≤ x) :
    Calls Try.prog 26 #[.int .u64 x, .int .i64 n, .int .i64 i] w fun e w' => e = .returned (.int .i64 (Ring.next x n i)) ∧ w = w' := by
  rcases Bool.eq_false_or_eq_true (okRing n) with ho | ho
  · have hb : 1 ≤ n ∧ n ≤ 64 := by have h := ho; unfold okRing at h; simpa using h
    obtain ⟨h0, h1⟩ := hb
    by_cases hi0 : 0 ≤ i
    · by_cases hi1 : i < n
      · have HR := Lib.hid (show Ring.next x n i = ((behind n i).find? (fun j => has x j)).getD i from next_in' (by rw [ho]; simp [hi0, hi1]))
        go_enter Try.func26, Try.ntmps26
        go_wp2_with (go_at_call 18; refine (right_any _ _).mono ?_; rintro e w' ⟨rfl, rfl⟩)
        go_loop [8] (fun k => ∃ q : Nat, k = .int .i64 ((q : Int) + 1) ∧ (q : Int) + 1 ≤ n ∧ ∀ y ∈ pre n i q, has x y = false) (fun k => 65 - (intOf k).toNat)
        case atStart => exact ⟨0, rfl, by omega, by simp [pre]⟩
        case round =>
          obtain ⟨q, rfl, hq, hf⟩ := hrel
          have HF := Lib.hid hf; clear hf
          by_cases hq2 : (q : Int) + 1 < n
          · have he : (i + ((q : Int) + 1)).tmod n = (i + ((q : Int) + 1)) % n := Int.tmod_eq_emod_of_nonneg (by omega)
            have hs := pre_succ n i q
            have hp := pre_in n i (q + 1) (by omega)
            rw [hs] at hp
            have HS := Lib.hid hs; clear hs
            have HP := Lib.hid hp; clear hp
            rcases Bool.eq_false_or_eq_true (has x ((i + ((q : Int) + 1)) % n)) with hy | hy
            · go_wp2_with (go_at_call 32; refine (refhas_any _ _ _ hx0).mono ?_; rintro e w' ⟨rfl, rfl⟩)
              go_ret
              refine ⟨ret_int ?_, rfl⟩
              rw [HR.out, find_first' HP.out HF.out hy]
            · go_wp2_with (go_at_call 32; refine (refhas_any _ _ _ hx0).mono ?_; rintro e w' ⟨rfl, rfl⟩)
              go_round
              case rel => exact ⟨q + 1, by go_num, by omega, fun z hz => by rw [HS.out] at hz; exact (List.mem_append.1 hz).elim (HF.out z) (fun e => by simp at e; rw [e]; exact hy)⟩
              case measure => simp [intOf]; omega
          · have HQ := Lib.hid (show pre n i q = behind n i by rw [← pre_all]; congr 1; omega)
            go_wp2
            go_ret
            refine ⟨ret_int ?_, rfl⟩
            have h := HF.out; rw [HQ.out] at h
            rw [HR.out, find_none' h]
      · have HR := Lib.hid (show Ring.next x n i = -1 from next_out' (by simp [hi1]))
        go_enter Try.func26, Try.ntmps26
        go_wp2_with (go_at_call 18; refine (right_any _ _).mono ?_; rintro e w' ⟨rfl, rfl⟩)
        go_ret
        exact ⟨ret_int HR.out.symm, rfl⟩
    · have HR := Lib.hid (show Ring.next x n i = -1 from next_out' (by simp [hi0]))
      go_enter Try.func26, Try.ntmps26
      go_wp2_with (go_at_call 18; refine (right_any _ _).mono ?_; rintro e w' ⟨rfl, rfl⟩)
      go_ret
      exact ⟨ret_int HR.out.symm, rfl⟩
  · have HR := Lib.hid (show Ring.next x n i = -1 from next_out' (by rw [ho]; rfl))
    go_enter Try.func26, Try.ntmps26
    go_wp2_with (go_at_call 18; refine (right_any _ _).mono ?_; rintro e w' ⟨rfl, rfl⟩)
    go_ret
    exact ⟨ret_int HR.out.symm, rfl⟩
theorem at1 {w : World} {b o : Nat} {x : Int} (h : At ints w b o x) : w.cell? ⟨b, o, none⟩ = some (.int .i64 x) := h 0 _ rfl
theorem ints_at {w : World} {p : Option Addr} {l : List Int} (h : Lies ints w p l) {j : Nat} (hj : j < l.length) : ∃ b o, p = some ⟨b, o, none⟩ ∧ w.cell? ⟨b, o + j, none⟩ = some (.int .i64 (l.getD j 0)) := by
  obtain ⟨b, o, e, ha⟩ := Kit.lies_at h hj
  refine ⟨b, o, e, ?_⟩
  have := at1 ha
  rwa [show ints.n = 1 from rfl, Nat.mul_one] at this
set_option maxRecDepth 100000 in
theorem same_ints {l : List Int} {p q : Option Addr} {c d : Nat} {w : World} (h : Lies ints w p l) (h' : Lies ints w q l) (hl : l.length ≤ 1000) :
    Calls Try.prog 10 #[.slice p l.length c, .slice q l.length d] w fun e w' => e = .returned (.bool true) ∧ Below w.heap.size w w' := by
  have HB := Lib.hid (Below.refl w.heap.size w)
  have HL := Lib.hid h
  have HM := Lib.hid h'
  clear h h'
  have hne : ((l.length : Int) != (l.length : Int)) = false := by simp
  go_enter Try.func10, Try.ntmps10
  go_wp2
  go_loopw [5] (fun i wr => ∃ j : Nat, j ≤ l.length ∧ i = .int .i64 (j : Int) ∧ Hid (Below w.heap.size w wr)) (fun i _ => l.length - (intOf i).toNat)
  case atStart => exact ⟨0, by omega, rfl, HB⟩
  case round =>
    obtain ⟨j, hj, rfl, hbw⟩ := hrel
    by_cases hlt : j < l.length
    · obtain ⟨b, o, rfl, k0⟩ := ints_at (HL.out.below hbw.out) hlt
      obtain ⟨b', o', rfl, x0⟩ := ints_at (HM.out.below hbw.out) hlt
      have hlt' : (j : Int) < (l.length : Int) := by omega
      clear HL HM
      generalize l.getD j 0 = x at *
      have heq : (x != x) = false := by simp
      go_wp2
      go_quiet (fail)
      go_wp2
      go_roundw
      case rel => exact ⟨j + 1, by omega, by go_num, Lib.hid (hbw.out.trans ((below_drewN _ _).mono hbw.out.size))⟩
      case measure => simp only [intOf]; omega
    · have hlt' : ¬ (j : Int) < (l.length : Int) := by omega
      clear HL HM
      go_wp2
      go_ret
      exact ⟨rfl, hbw.out⟩
end Go.Proofs.Ytgbenfdffhcjiaa.View
