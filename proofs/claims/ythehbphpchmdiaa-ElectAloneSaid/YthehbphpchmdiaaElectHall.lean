/-
  Elections of all nodes, plain: frames that were told, ballots that were won; what holds behind each move; who wins has a majority. No program.
-/
import Derived.Test.YthehbphpchmdiaaElectPlain
namespace Go.Proofs.Ythehbphpchmdiaa.Elect
open _root_.Go.Proofs.Ythehbphpchmdiaa.Ring (has put put_lo put_hi has_put okRing maj)

structure Hl where
  n : Nat
  el : Nat → El
  frames : List Rs
  won : List Int
/-- What is promised, once a node's election has moved. -/
def P' (H : Hl) (i : Nat) (e : El) (k : Nat) : Int := if k = i then e.promised else (H.el k).promised
def after (H : Hl) (i : Nat) (e : El) (r : Rs) : Hl := ⟨H.n, fun k => if k = i then e else H.el k, if r.send = true then H.frames ++ [r] else H.frames, if r.won = true then H.won ++ [r.gen] else H.won⟩
structure Inv (H : Hl) : Prop where
  n : 1 ≤ H.n ∧ H.n ≤ 9
  good : ∀ k, k < H.n → Good (H.el k) ∧ (H.el k).n = (H.n : Int) ∧ (H.el k).node = (k : Int)
  frames : ∀ f ∈ H.frames, (1 ≤ f.gen ∧ f.gen ≤ 1099511627776) ∧ Set64 f.bits ∧ ∀ k : Nat, k < H.n → has f.bits (k : Int) = true → f.gen ≤ (H.el k).promised
  stand : ∀ i, i < H.n → (H.el i).ballot ≠ 0 → (H.el i).ballot = (H.el i).promised ∧ (H.el i).ballot % (H.n : Int) = (i : Int) ∧ ∀ k : Nat, k < H.n → has (H.el i).bits (k : Int) = true → (H.el i).ballot ≤ (H.el k).promised
  won : ∀ b ∈ H.won, 1 ≤ b ∧ ∀ i, i < H.n → b % (H.n : Int) = (i : Int) → b ≤ (H.el i).promised ∧ (H.el i).ballot ≠ b
/-- What a move of a node's election makes. -/
structure Res (H : Hl) (i : Nat) (e : El) (r : Rs) : Prop where
  good : Good e ∧ e.n = (H.n : Int) ∧ e.node = (i : Int)
  rises : (H.el i).promised ≤ e.promised
  stand : e.ballot ≠ 0 → e.ballot = e.promised ∧ e.ballot % (H.n : Int) = (i : Int) ∧ ∀ k : Nat, k < H.n → has e.bits (k : Int) = true → e.ballot ≤ P' H i e k
  fr : r.send = true → (1 ≤ r.gen ∧ r.gen ≤ 1099511627776) ∧ Set64 r.bits ∧ ∀ k : Nat, k < H.n → has r.bits (k : Int) = true → r.gen ≤ P' H i e k
  fresh : ∀ b ∈ H.won, b % (H.n : Int) = (i : Int) → e.ballot ≠ b
  won : r.won = true → 1 ≤ r.gen ∧ r.gen % (H.n : Int) = (i : Int) ∧ r.gen ∉ H.won ∧ r.gen ≤ e.promised ∧ e.ballot ≠ r.gen ∧ (H.n : Int) < 2 * (cnt r.bits H.n : Int) ∧ ∀ k : Nat, k < H.n → has r.bits (k : Int) = true → r.gen ≤ P' H i e k
theorem P'_rises {H : Hl} {i : Nat} {e : El} (h : (H.el i).promised ≤ e.promised) (k : Nat) : (H.el k).promised ≤ P' H i e k := by
  unfold P'
  split
  · rename_i e1
    subst e1
    exact h
  · exact Int.le_refl _
theorem after_promised (H : Hl) (i : Nat) (e : El) (r : Rs) (k : Nat) : ((after H i e r).el k).promised = P' H i e k := by
  unfold after P'
  simp only
  split <;> rfl
theorem Inv.after {H : Hl} (h : Inv H) {i : Nat} (hi : i < H.n) {e : El} {r : Rs} (hr : Res H i e r) : Inv (after H i e r) := by
  have hup := P'_rises hr.rises
  refine ⟨h.n, fun k hk => ?_, fun f hf => ?_, fun j hj hb => ?_, fun b hb => ?_⟩
  · show Good (if k = i then e else H.el k) ∧ (if k = i then e else H.el k).n = _ ∧ (if k = i then e else H.el k).node = _
    split
    · rename_i e1
      subst e1
      exact hr.good
    · exact h.good k hk
  · have hf' : f ∈ H.frames ∨ (r.send = true ∧ f = r) := by
      unfold Elect.after at hf
      simp only at hf
      split at hf
      · rename_i hs
        rcases List.mem_append.1 hf with hf | hf
        · exact .inl hf
        · exact .inr ⟨hs, by simpa using hf⟩
      · exact .inl hf
    rcases hf' with hf | ⟨hs, rfl⟩
    · obtain ⟨h1, h2, h3⟩ := h.frames f hf
      exact ⟨h1, h2, fun k hk hb => by rw [after_promised]; exact Int.le_trans (h3 k hk hb) (hup k)⟩
    · obtain ⟨h1, h2, h3⟩ := hr.fr hs
      exact ⟨h1, h2, fun k hk hb => by rw [after_promised]; exact h3 k hk hb⟩
  · by_cases e1 : j = i
    · subst e1
      have he : (Elect.after H j e r).el j = e := by simp [Elect.after]
      rw [he] at hb ⊢
      obtain ⟨h1, h2, h3⟩ := hr.stand hb
      exact ⟨h1, h2, fun k hk hh => by rw [after_promised]; exact h3 k hk hh⟩
    · have he : (Elect.after H i e r).el j = H.el j := by simp [Elect.after, e1]
      rw [he] at hb ⊢
      obtain ⟨h1, h2, h3⟩ := h.stand j hj hb
      exact ⟨h1, h2, fun k hk hh => by rw [after_promised]; exact Int.le_trans (h3 k hk hh) (hup k)⟩
  · have hb' : b ∈ H.won ∨ (r.won = true ∧ b = r.gen) := by
      unfold Elect.after at hb
      simp only at hb
      split at hb
      · rename_i hs
        rcases List.mem_append.1 hb with hb | hb
        · exact .inl hb
        · exact .inr ⟨hs, by simpa using hb⟩
      · exact .inl hb
    clear hb
    have h0 : 1 ≤ b := by
      rcases hb' with hb1 | ⟨hs, rfl⟩
      · exact (h.won b hb1).1
      · exact (hr.won hs).1
    refine ⟨h0, fun j hj hm => ?_⟩
    rw [after_promised]
    have hm' : b % (H.n : Int) = (j : Int) := hm
    have hj' : j < H.n := hj
    rcases hb' with hb1 | ⟨hs, rfl⟩
    · obtain ⟨h1, h2⟩ := (h.won b hb1).2 j hj' hm'
      refine ⟨Int.le_trans h1 (hup j), ?_⟩
      by_cases e1 : j = i
      · subst e1
        have he : (Elect.after H j e r).el j = e := by simp [Elect.after]
        rw [he]
        exact hr.fresh b hb1 hm'
      · have he : (Elect.after H i e r).el j = H.el j := by simp [Elect.after, e1]
        rw [he]
        exact h2
    · obtain ⟨-, w1, w2, w3, w4, -⟩ := hr.won hs
      obtain rfl : j = i := by omega
      have he : (Elect.after H j e r).el j = e := by simp [Elect.after]
      rw [he]
      exact ⟨by unfold P'; rw [if_pos rfl]; exact w3, w4⟩
theorem has_or {x y : Int} (_ : Set64 x) (_ : Set64 y) (k : Nat) (hk : k < 64) : has (orB x y) (k : Int) = (has x (k : Int) || has y (k : Int)) := by
  rw [Ring.has_nat _ k hk, Ring.has_nat _ k hk, Ring.has_nat _ k hk]
  unfold orB
  rw [Int.toNat_natCast, Nat.testBit_or]
theorem has_one {i k : Nat} (_ : k < 64) (h : has (put 0 (i : Int)) (k : Int) = true) : k = i := by
  rw [has_put] at h
  have h0 : has 0 (k : Int) = false := by simp [has]
  rw [h0] at h
  simp at h
  omega
theorem has_put' {x : Int} {i k : Nat} (h : has (put x (i : Int)) (k : Int) = true) : has x (k : Int) = true ∨ k = i := by
  rw [has_put] at h
  simp at h
  rcases h with h | h
  · exact .inl h
  · exact .inr (by omega)
theorem cnt_mono {x : Int} {p : Nat → Bool} : ∀ n : Nat, (∀ k : Nat, k < n → has x (k : Int) = true → p k = true) → cnt x n ≤ (List.range n).countP p
  | 0, _ => Nat.zero_le _
  | n + 1, h => by
    have ih := cnt_mono (x := x) (p := p) n fun k hk => h k (by omega)
    unfold cnt
    rw [List.range_succ, List.countP_append]
    by_cases hh : has x (n : Int) = true
    · rw [if_pos hh]
      simp [h n (by omega) hh]
      exact ih
    · rw [if_neg hh]
      exact Nat.le_trans ih (Nat.le_add_right _ _)
/-- Who wins is promised by a majority. -/
theorem Res.majority {H : Hl} {i : Nat} {e : El} {r : Rs} (h : Res H i e r) (hn : 1 ≤ H.n) (hw : r.won = true) : maj (H.n : Int) ≤ ((List.range H.n).countP (fun k => decide (r.gen ≤ P' H i e k)) : Nat) := by
  obtain ⟨-, -, -, -, -, h5, h6⟩ := h.won hw
  have hc := cnt_mono (x := r.bits) (p := fun k => decide (r.gen ≤ P' H i e k)) H.n (fun k hk hh => by simpa using h6 k hk hh)
  unfold maj
  rw [if_neg (by omega)]
  omega
end Go.Proofs.Ythehbphpchmdiaa.Elect
