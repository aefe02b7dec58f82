/-
  What a vault keeps, plain: its file is its records, which rise; behind a crash, however much is torn, its states are the first ones of them; what was safe rises to the last of these, and it to the last one put. No program.
-/
import Derived.Test.YtlbdkigiphnabaaVaultPlain
namespace Go.Proofs.Ytlbdkigiphnabaa.Vault
open _root_.Go.Proofs.Ytlbdkigiphnabaa.Codec (puts goods IsBytes)
open _root_.Go.Proofs.Ytlbdkigiphnabaa.Disk (Sl all over dWrite eWrite dSync dReplace dCrash Holds stay much gone holds_write holds_sync holds_crash stay_le)

theorem recs_bytes (l : List Sv) : IsBytes (recs l) := by
  intro y hy
  simp only [recs, List.mem_flatMap] at hy
  obtain ⟨s, _, hs⟩ := hy
  exact Codec.puts_ok _ y hs
theorem last_take (l : List Sv) (n : Nat) (hn : n < l.length) : last (l.take (n + 1)) = l[n] := by
  rw [List.take_succ_eq_append_getElem hn, last_snoc]
theorem chain_right : ∀ (l : List Sv) (s : Sv), Chain s l → ∀ t ∈ l, right t = true
  | [], _, _, t, ht => by cases ht
  | u :: l, s, ⟨h1, _, h3⟩, t, ht => by
    rcases List.mem_cons.1 ht with rfl | h
    · exact h1
    · exact chain_right l u h3 t h
theorem last_mem {l : List Sv} (h : l ≠ []) : last l ∈ l := by
  rw [last, List.getLastD_eq_getLast?, List.getLast?_eq_some_getLast h]
  exact List.getLast_mem h
theorem right_last {l : List Sv} (h : Chain zero l) (hl : l ≠ []) : right (last l) = true := chain_right l zero h _ (last_mem hl)
theorem chain_rises : ∀ (l : List Sv) (s : Sv), Chain s l → rises s (l.getLastD s) = true
  | [], s, _ => rises_refl s
  | t :: l, s, ⟨_, h2, h3⟩ => by
    rw [last_cons]
    exact rises_trans h2 (chain_rises l t h3)
theorem chain_drop : ∀ (l : List Sv) (s : Sv) (n : Nat), Chain s l → Chain ((l.take n).getLastD s) (l.drop n)
  | [], _, n, _ => by simp [Chain]
  | _ :: _, _, 0, h => h
  | t :: l, s, n + 1, ⟨_, _, h3⟩ => by
    rw [List.take_succ_cons, last_cons]
    exact chain_drop l t n h3
theorem getLastD_append (a b : List Sv) (s : Sv) : (a ++ b).getLastD s = b.getLastD (a.getLastD s) := by
  induction a generalizing s with
  | nil => rfl
  | cons t a ih => rw [List.cons_append, last_cons, last_cons, ih]
/-- Of states that rise, an earlier one rises to a later one. -/
theorem take_rises {l : List Sv} (h : Chain zero l) {i j : Nat} (hij : i ≤ j) : rises (last (l.take i)) (last (l.take j)) = true := by
  have h1 := chain_take l zero j h
  have h2 := chain_drop (l.take j) zero i h1
  have h3 := chain_rises _ _ h2
  rw [List.take_take, Nat.min_eq_left hij] at h3
  have h4 := getLastD_append (l.take i) ((l.take j).drop i) zero
  rw [show l.take i ++ (l.take j).drop i = l.take j by
    have := List.take_append_drop i (l.take j)
    rwa [List.take_take, Nat.min_eq_left hij] at this] at h4
  unfold last
  rw [h4]
  exact h3

/-- The file is the records, which rise; it fits. -/
structure Good (room : Int) (v : Vs) : Prop where
  file : all v.1 = recs v.2
  chain : Chain zero v.2
  holds : Holds room v.1
theorem Good.len {room : Int} {v : Vs} (h : Good room v) : 32 * (v.2.length : Int) ≤ room := by
  have h1 := congrArg List.length h.file
  have h2 := h.holds
  rw [len_recs] at h1
  simp only [all, List.length_append, Holds] at h1 h2
  omega
theorem good_none {room : Int} (h : 0 ≤ room) : Good room (([], []), []) := ⟨rfl, trivial, by simpa [Holds] using h⟩
theorem all_write {room : Int} {d : Sl} {b : List Int} (h : over room d b = false) : all (dWrite room d b) = all d ++ b := by
  simp [dWrite, h, all]
theorem good_put {room : Int} {v : Vs} (h : Good room v) (s : Sv) : Good room (vPut room v s) := by
  unfold vPut
  split
  · rename_i hc
    obtain ⟨h1, h2, h3⟩ := hc
    exact ⟨by rw [recs_snoc, ← h.file]; exact all_write h3, chain_snoc v.2 zero s h.chain h1 h2, holds_write _ h.holds⟩
  · exact h
theorem all_sync (d : Sl) : all (dSync d) = all d := by simp [all, dSync]
theorem good_sync {room : Int} {v : Vs} (h : Good room v) : Good room (vSync room v) := by
  unfold vSync
  split
  · rename_i hl
    have hne : v.2 ≠ [] := by intro e; rw [e] at hl; simp at hl
    have hlen := h.len
    have hm : much room (rec (last v.2)) = false := by simp [much, len_rec]; omega
    have hr := right_last h.chain hne
    have e : dReplace room (dSync v.1) (rec (last v.2)) = (rec (last v.2), []) := by simp [dReplace, hm]
    rw [e]
    exact ⟨by simp [all, recs], ⟨hr, rises_zero hr, trivial⟩, by simp [Holds, len_rec]; omega⟩
  · exact ⟨by rw [all_sync]; exact h.file, h.chain, holds_sync h.holds⟩
theorem all_crash (k : Int) (d : Sl) : all (dCrash k d) = (all d).take (d.1.length + stay k d) := by
  simp only [all, dCrash, List.append_nil]
  rw [List.take_append, List.take_of_length_le (l := d.1) (i := d.1.length + stay k d) (by omega), show d.1.length + stay k d - d.1.length = stay k d by omega]
/-- Behind a crash. -/
theorem good_open {room : Int} {v : Vs} (h : Good room v) (keep : Int) : ∃ n, n = (v.1.1.length + stay keep v.1) / 32 ∧ n ≤ v.2.length ∧ states (all (dCrash keep v.1)) = some (v.2.take n) ∧ Good room (cut room (dCrash keep v.1), v.2.take n) := by
  have hs := stay_le keep v.1
  have hl := congrArg List.length h.file
  rw [len_recs] at hl
  simp only [all, List.length_append] at hl
  have hk : v.1.1.length + stay keep v.1 ≤ 32 * v.2.length := by omega
  obtain ⟨t1, t2, t3⟩ := states_torn v.2 (v.1.1.length + stay keep v.1) h.chain hk
  rw [← h.file, ← all_crash] at t1
  have hlen : (all (dCrash keep v.1)).length = v.1.1.length + stay keep v.1 := by
    rw [all_crash, List.length_take]
    simp only [all, List.length_append]
    omega
  refine ⟨_, rfl, by omega, t1, ?_, chain_take _ _ _ h.chain, ?_⟩
  · unfold cut
    rw [hlen]
    have hb : (all (dCrash keep v.1)).take (32 * ((v.1.1.length + stay keep v.1) / 32)) = recs (v.2.take ((v.1.1.length + stay keep v.1) / 32)) := by
      rw [all_crash, List.take_take, Nat.min_eq_left t2, h.file, t3]
    split
    · have hm : much room ((all (dCrash keep v.1)).take (32 * ((v.1.1.length + stay keep v.1) / 32))) = false := by
        have := h.len
        simp only [much, decide_eq_false_iff_not, List.length_take]
        omega
      simp only [dReplace, hm, Bool.false_eq_true, if_false]
      rw [hb]
      simp [all]
    · rename_i hn
      rw [← hb, show 32 * ((v.1.1.length + stay keep v.1) / 32) = (all (dCrash keep v.1)).length by omega, List.take_length]
  · unfold cut
    split
    · exact Disk.holds_replace _ (holds_crash _ h.holds)
    · exact holds_crash _ h.holds

/-- .. of which the first j are safe. -/
structure Safe (room : Int) (v : Vs) (safe : Sv) : Prop where
  good : Good room v
  safe : ∃ j, j ≤ v.2.length ∧ v.1.1 = recs (v.2.take j) ∧ safe = last (v.2.take j)
theorem safe_none {room : Int} (h : 0 ≤ room) : Safe room (([], []), []) zero := ⟨good_none h, 0, Nat.le_refl _, rfl, rfl⟩
theorem safe_put {room : Int} {v : Vs} {t : Sv} (h : Safe room v t) (s : Sv) : Safe room (vPut room v s) t := by
  refine ⟨good_put h.good s, ?_⟩
  obtain ⟨j, h1, h2, h3⟩ := h.safe
  unfold vPut
  split
  · rename_i hc
    have ht : (v.2 ++ [s]).take j = v.2.take j := List.take_append_of_le_length h1
    refine ⟨j, by simp; omega, ?_, ?_⟩
    · simp only [dWrite, hc.2.2, Bool.false_eq_true, if_false]
      rw [ht]
      exact h2
    · simp only
      rw [ht]
      exact h3
  · exact ⟨j, h1, h2, h3⟩
theorem safe_sync {room : Int} {v : Vs} {t : Sv} (h : Safe room v t) : Safe room (vSync room v) (last v.2) := by
  refine ⟨good_sync h.good, ?_⟩
  unfold vSync
  split
  · rename_i hl
    have hlen := h.good.len
    have hm : much room (rec (last v.2)) = false := by simp [much, len_rec]; omega
    refine ⟨1, by simp, ?_, ?_⟩
    · simp [dReplace, hm, recs]
    · simp [last]
  · exact ⟨v.2.length, Nat.le_refl _, by simp only [List.take_length, dSync]; exact h.good.file, by simp only [List.take_length]⟩
/-- Never back. -/
theorem never_back {room : Int} {v : Vs} {t : Sv} (h : Safe room v t) (keep : Int) (n : Nat) (hn : n = (v.1.1.length + stay keep v.1) / 32) :
    rises t (last (v.2.take n)) = true ∧ rises (last (v.2.take n)) (last v.2) = true ∧ (keep ≤ 0 → last (v.2.take n) = t) ∧ (last (v.2.take n) = t ∨ last (v.2.take n) ∈ v.2) := by
  obtain ⟨j, h1, h2, rfl⟩ := h.safe
  have hl := congrArg List.length h2
  rw [len_recs, List.length_take, Nat.min_eq_left h1] at hl
  have hjn : j ≤ n := by omega
  refine ⟨take_rises h.good.chain hjn, ?_, ?_, ?_⟩
  · have := take_rises h.good.chain (i := n) (j := n + v.2.length) (by omega)
    rwa [List.take_of_length_le (l := v.2) (i := n + v.2.length) (by omega)] at this
  · intro hk
    have : stay keep v.1 = 0 := by unfold stay; omega
    rw [show n = j by omega]
  · by_cases h0 : v.2.take n = []
    · left
      have hj : v.2.take j = [] := by
        have : v.2.take j = (v.2.take n).take j := by rw [List.take_take, Nat.min_eq_left hjn]
        rw [this, h0]
        simp
      rw [h0, hj]
    · right
      exact List.mem_of_mem_take (last_mem h0)
end Go.Proofs.Ytlbdkigiphnabaa.Vault
