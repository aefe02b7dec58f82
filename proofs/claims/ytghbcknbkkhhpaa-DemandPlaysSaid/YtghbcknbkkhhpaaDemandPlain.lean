/-
  Notes as data, and estimates of them: the greatest of all, each halved as often as something was noted since; which keys have one; how much is wanted. Plain functions, no program.
-/
import Derived.Test.YtghbcknbkkhhpaaSatPlain
import Derived.Test.YtghbcknbkkhhpaaCodecWords
import Derived.Test.YtghbcknbkkhhpaaKit
namespace Go.Proofs.Ytghbcknbkkhhpaa.Demand
open _root_.Go.Proofs.Ytghbcknbkkhhpaa.Sat (fit add fit_lo fit_hi)
open _root_.Go.Proofs.Ytghbcknbkkhhpaa.Kit (take_snoc)

structure Nt where
  key : Int
  spent : Int
def z : Nt := ⟨0, 0⟩
def Num (x : Int) : Prop := -9223372036854775808 ≤ x ∧ x ≤ 9223372036854775807
def NtNum (x : Nt) : Prop := Num x.key ∧ Num x.spent
/-- A key's estimate, behind one note more. -/
def estep (k e : Int) (x : Nt) : Int := if x.key = k then max (fit x.spent) (e / 2) else e
def of (l : List Nt) (k : Int) : Int := l.foldl (estep k) 0
def want (e q m : Int) : Int := min (add [e, q]) (fit m)
/-- A number is put among numbers that rise, as the document does it. -/
def kstep (k : Int) (s : List Int × Bool) (a : Int) : List Int × Bool :=
  if s.2 = false ∧ k ≤ a then (if a = k then s.1 ++ [k] else s.1 ++ [k] ++ [a], true) else (if a = k then s.1 else s.1 ++ [a], s.2)
def kfold (k : Int) (l : List Int) : List Int × Bool := l.foldl (kstep k) ([], false)
def kput (k : Int) (l : List Int) : List Int := if (kfold k l).2 = true then (kfold k l).1 else (kfold k l).1 ++ [k]
/-- The keys that have an estimate, of all these notes, among the first ones. -/
def kon (L : List Nt) (s : List Int) (x : Nt) : List Int := if of L x.key = 0 then s else kput x.key s
def some' (L l : List Nt) : List Int := l.foldl (kon L) []
def keys (l : List Nt) : List Int := some' l l
/-- The greatest of all, from behind: each halved as often as something was noted since; and how often something was noted. -/
def bh (k : Int) : List Nt → Int × Nat
  | [] => (0, 0)
  | x :: s => if x.key = k then (max (bh k s).1 (fit x.spent / 2 ^ min (bh k s).2 63), (bh k s).2 + 1) else bh k s

theorem kstep_len (k : Int) (s : List Int × Bool) (a : Int) : (kstep k s a).1.length + (if (kstep k s a).2 = true then 0 else 1) ≤ s.1.length + (if s.2 = true then 0 else 1) + 1 := by
  obtain ⟨l, d⟩ := s
  unfold kstep
  cases d <;> simp only <;> repeat' split <;> simp_all
theorem kfold_snoc (k : Int) (l : List Int) (a : Int) : kfold k (l ++ [a]) = kstep k (kfold k l) a := by unfold kfold; rw [List.foldl_append]; rfl
theorem kfold_len (k : Int) (l : List Int) : (kfold k l).1.length + (if (kfold k l).2 = true then 0 else 1) ≤ l.length + 1 := by
  suffices h : ∀ (l : List Int) (s : List Int × Bool), (l.foldl (kstep k) s).1.length + (if (l.foldl (kstep k) s).2 = true then 0 else 1) ≤ s.1.length + (if s.2 = true then 0 else 1) + l.length by
    have := h l ([], false)
    unfold kfold
    simp at this ⊢
    omega
  intro l
  induction l with
  | nil => intro s; exact Nat.le_refl _
  | cons a l ih =>
    intro s
    have h1 := ih (kstep k s a)
    have h2 := kstep_len k s a
    rw [List.foldl_cons, List.length_cons]
    omega
theorem kput_len (k : Int) (l : List Int) : (kput k l).length ≤ l.length + 1 := by
  have := kfold_len k l
  unfold kput
  split
  · rename_i h
    rw [if_pos h] at this
    omega
  · rename_i h
    rw [if_neg h] at this
    simp
    omega
theorem estep_num (k : Int) {e : Int} (h : 0 ≤ e ∧ e ≤ 4611686018427387904) (x : Nt) : 0 ≤ estep k e x ∧ estep k e x ≤ 4611686018427387904 := by
  have h1 := fit_lo x.spent
  have h2 := fit_hi x.spent
  unfold estep
  split <;> omega
theorem fold_num (k : Int) : ∀ (l : List Nt) {e : Int}, 0 ≤ e ∧ e ≤ 4611686018427387904 → 0 ≤ l.foldl (estep k) e ∧ l.foldl (estep k) e ≤ 4611686018427387904
  | [], _, h => h
  | x :: l, _, h => fold_num k l (estep_num k h x)
theorem of_num (l : List Nt) (k : Int) : 0 ≤ of l k ∧ of l k ≤ 4611686018427387904 := fold_num k l (by omega)
theorem of_snoc (l : List Nt) (x : Nt) (k : Int) : of (l ++ [x]) k = estep k (of l k) x := by unfold of; rw [List.foldl_append]; rfl
theorem of_same (l : List Nt) (k s : Int) : of (l ++ [⟨k, s⟩]) k = max (fit s) (of l k / 2) := by rw [of_snoc]; unfold estep; rw [if_pos rfl]
theorem of_other (l : List Nt) {k k' : Int} (s : Int) (h : k ≠ k') : of (l ++ [⟨k, s⟩]) k' = of l k' := by rw [of_snoc]; unfold estep; rw [if_neg h]
theorem of_low (l : List Nt) {k s : Int} (h : s ≤ 0) : of (l ++ [⟨k, s⟩]) k = of l k / 2 := by
  have h0 := (of_num l k).1
  have hf : fit s = 0 := by unfold fit Sat.top; split <;> (try split) <;> omega
  rw [of_same, hf]
  omega
theorem div_pow (e : Int) (n : Nat) : e / 2 / 2 ^ n = e / 2 ^ (n + 1) := by
  rw [Int.ediv_ediv_of_nonneg (by omega), ← Int.pow_succ']
theorem pow_pos' (n : Nat) : (0 : Int) < 2 ^ n := Int.pow_pos (by decide)
theorem max_div (a b : Int) (n : Nat) : max a b / 2 ^ n = max (a / 2 ^ n) (b / 2 ^ n) := by
  have hp := pow_pos' n
  rcases Int.le_total a b with h | h
  · rw [Int.max_eq_right h, Int.max_eq_right (Int.ediv_le_ediv hp h)]
  · rw [Int.max_eq_left h, Int.max_eq_left (Int.ediv_le_ediv hp h)]
theorem big_div {x : Int} (h0 : 0 ≤ x) (h1 : x ≤ 4611686018427387904) (n : Nat) : x / 2 ^ min n 63 = x / 2 ^ n := by
  by_cases h : n ≤ 63
  · rw [Nat.min_eq_left h]
  · have e1 : x / 2 ^ 63 = 0 := Int.ediv_eq_zero_of_lt h0 (by omega)
    have e2 : x / 2 ^ n = 0 := by
      rw [show n = 63 + (n - 63) by omega, Int.pow_add, ← Int.ediv_ediv_of_nonneg (by omega), e1, Int.zero_ediv]
    rw [Nat.min_eq_right (by omega), e1, e2]
theorem fold_bh (k : Int) : ∀ (l : List Nt) {e : Int}, 0 ≤ e → l.foldl (estep k) e = max (bh k l).1 (e / 2 ^ (bh k l).2)
  | [], e, h => by simp [bh]; omega
  | x :: l, e, h => by
    rw [List.foldl_cons]
    by_cases hk : x.key = k
    · have h1 := fit_lo x.spent
      have h2 := fit_hi x.spent
      have hs : estep k e x = max (fit x.spent) (e / 2) := by unfold estep; rw [if_pos hk]
      rw [hs, fold_bh k l (by omega)]
      have hb : bh k (x :: l) = (max (bh k l).1 (fit x.spent / 2 ^ min (bh k l).2 63), (bh k l).2 + 1) := by
        show (if x.key = k then _ else _) = _
        rw [if_pos hk]
      rw [hb, big_div h1 h2, max_div, div_pow]
      simp only
      omega
    · have hs : estep k e x = e := by unfold estep; rw [if_neg hk]
      have hb : bh k (x :: l) = bh k l := by
        show (if x.key = k then _ else _) = _
        rw [if_neg hk]
      rw [hs, hb, fold_bh k l h]
theorem bh_num (k : Int) : ∀ l : List Nt, 0 ≤ (bh k l).1 ∧ (bh k l).1 ≤ 4611686018427387904 ∧ (bh k l).2 ≤ l.length
  | [] => by simp [bh]
  | x :: l => by
    obtain ⟨h0, h1, h2⟩ := bh_num k l
    have f0 := fit_lo x.spent
    have f1 := fit_hi x.spent
    have hp := pow_pos' (min (bh k l).2 63)
    have q0 : 0 ≤ fit x.spent / 2 ^ min (bh k l).2 63 := Int.ediv_nonneg f0 (Int.le_of_lt hp)
    have q1 : fit x.spent / 2 ^ min (bh k l).2 63 ≤ fit x.spent := Int.ediv_le_self _ f0
    unfold bh
    split
    · simp only [List.length_cons]
      omega
    · simp only [List.length_cons]
      omega
theorem of_bh (l : List Nt) (k : Int) : (bh k l).1 = of l k := by
  have h := fold_bh k l (e := 0) (Int.le_refl _)
  have h0 := (bh_num k l).1
  rw [Int.zero_ediv] at h
  unfold of
  omega
theorem of_none {l : List Nt} {k : Int} (h : ∀ x ∈ l, x.key ≠ k) : of l k = 0 := by
  suffices hh : ∀ (l : List Nt) (e : Int), (∀ x ∈ l, x.key ≠ k) → l.foldl (estep k) e = e from hh l 0 h
  intro l
  induction l with
  | nil => intro e _; rfl
  | cons x l ih =>
    intro e hx
    rw [List.foldl_cons, show estep k e x = e by unfold estep; rw [if_neg (hx x (by simp))]]
    exact ih e fun y hy => hx y (by simp [hy])
theorem some_snoc (L l : List Nt) (x : Nt) : some' L (l ++ [x]) = kon L (some' L l) x := by unfold some'; rw [List.foldl_append]; rfl
theorem some_at (L : List Nt) {l : List Nt} {j : Nat} (h : j < l.length) : some' L (l.take (j + 1)) = kon L (some' L (l.take j)) (l.getD j z) := by
  rw [take_snoc z h, some_snoc]
theorem kon_len (L : List Nt) (s : List Int) (x : Nt) : (kon L s x).length ≤ s.length + 1 := by
  unfold kon
  split
  · omega
  · exact kput_len _ _
theorem some_len (L : List Nt) (l : List Nt) : (some' L l).length ≤ l.length := by
  suffices h : ∀ (l : List Nt) (s : List Int), (l.foldl (kon L) s).length ≤ s.length + l.length by
    have := h l []
    simp only [List.length_nil, Nat.zero_add] at this
    exact this
  intro l
  induction l with
  | nil => intro s; simp
  | cons a l ih =>
    intro s
    have h1 := ih (kon L s a)
    have h2 := kon_len L s a
    rw [List.foldl_cons, List.length_cons]
    omega
theorem keys_len (l : List Nt) : (keys l).length ≤ l.length := some_len l l
theorem kfold_spec (k : Int) : ∀ (n : Nat) (l : List Int), l.length = n → l.Pairwise (· < ·) → kfold k l = if ∃ a ∈ l, k ≤ a then (l.filter (fun x => decide (x < k)) ++ [k] ++ l.filter (fun x => decide (k < x)), true) else (l, false)
  | 0, l, hn, _ => by
    obtain rfl := List.eq_nil_of_length_eq_zero hn
    simp [kfold]
  | n + 1, l, hn, h => by
    obtain ⟨m, a, rfl⟩ : ∃ m a, l = m ++ [a] := ⟨l.dropLast, l.getLast (by intro e; subst e; simp at hn), (List.dropLast_concat_getLast _).symm⟩
    rw [List.pairwise_append] at h
    obtain ⟨h1, -, h3⟩ := h
    have h3 : ∀ x ∈ m, x < a := fun x hx => h3 x hx a (by simp)
    rw [kfold_snoc, kfold_spec k n m (by simpa using hn) h1]
    by_cases hex : ∃ a ∈ m, k ≤ a
    · obtain ⟨b, hb, hkb⟩ := hex
      have := h3 b hb
      rw [if_pos ⟨b, hb, hkb⟩, if_pos ⟨a, by simp, by omega⟩]
      unfold kstep
      simp only [Bool.true_eq_false, false_and, if_false]
      rw [if_neg (by omega)]
      simp [show ¬ a < k by omega, show k < a by omega]
    · rw [if_neg hex]
      have hall : ∀ x ∈ m, x < k := fun x hx => by
        by_cases hc : k ≤ x
        · exact absurd ⟨x, hx, hc⟩ hex
        · omega
      have f1 : m.filter (fun x => decide (x < k)) = m := List.filter_eq_self.2 fun x hx => by simpa using hall x hx
      have f2 : m.filter (fun x => decide (k < x)) = [] := List.filter_eq_nil_iff.2 fun x hx => by have := hall x hx; simp; omega
      by_cases hka : k ≤ a
      · rw [if_pos (show ∃ x ∈ m ++ [a], k ≤ x from ⟨a, by simp, hka⟩)]
        by_cases e : a = k
        · subst e
          have e1 : kstep a (m, false) a = (m ++ [a], true) := by unfold kstep; simp
          rw [e1]
          simp [f1, f2]
        · have e1 : kstep k (m, false) a = (m ++ [k] ++ [a], true) := by unfold kstep; simp [hka, e]
          rw [e1]
          simp [f1, f2, show ¬ a < k by omega, show k < a by omega]
      · have e1 : kstep k (m, false) a = (m ++ [a], false) := by unfold kstep; simp [hka, show ¬ a = k by omega]
        rw [e1, if_neg]
        rintro ⟨x, hx, hc⟩
        rcases List.mem_append.1 hx with hx | hx
        · exact hex ⟨x, hx, hc⟩
        · rw [List.mem_singleton.1 hx] at hc
          exact hka hc
theorem kput_spec (k : Int) {l : List Int} (h : l.Pairwise (· < ·)) : kput k l = l.filter (fun x => decide (x < k)) ++ [k] ++ l.filter (fun x => decide (k < x)) := by
  unfold kput
  rw [kfold_spec k _ l rfl h]
  by_cases hex : ∃ a ∈ l, k ≤ a
  · rw [if_pos hex]; rfl
  · rw [if_neg hex]
    have hall : ∀ x ∈ l, x < k := fun x hx => by
      by_cases hc : k ≤ x
      · exact absurd ⟨x, hx, hc⟩ hex
      · omega
    have f1 : l.filter (fun x => decide (x < k)) = l := List.filter_eq_self.2 fun x hx => by simpa using hall x hx
    have f2 : l.filter (fun x => decide (k < x)) = [] := List.filter_eq_nil_iff.2 fun x hx => by have := hall x hx; simp; omega
    rw [f1, f2, List.append_nil]
    rfl
/-- A number is put among numbers that rise. -/
theorem kput_rise (k : Int) {l : List Int} (h : l.Pairwise (· < ·)) : (kput k l).Pairwise (· < ·) ∧ ∀ x, x ∈ kput k l ↔ x = k ∨ x ∈ l := by
  rw [kput_spec k h]
  refine ⟨?_, fun x => ?_⟩
  · rw [List.append_assoc, List.pairwise_append]
    refine ⟨h.filter _, ?_, fun x hx y hy => ?_⟩
    · rw [List.singleton_append, List.pairwise_cons]
      exact ⟨fun y hy => by simpa using (List.mem_filter.1 hy).2, h.filter _⟩
    · have h1 : x < k := by simpa using (List.mem_filter.1 hx).2
      rcases List.mem_append.1 hy with hy | hy
      · rw [List.mem_singleton.1 hy]; exact h1
      · have h2 : k < y := by simpa using (List.mem_filter.1 hy).2
        omega
  · simp only [List.mem_append, List.mem_filter, List.mem_singleton, decide_eq_true_eq]
    constructor
    · rintro ((h | h) | h)
      · exact .inr h.1
      · exact .inl h
      · exact .inr h.1
    · rintro (h | h)
      · exact .inl (.inr h)
      · rcases Int.lt_trichotomy x k with e | e | e
        · exact .inl (.inl ⟨h, e⟩)
        · exact .inl (.inr e)
        · exact .inr ⟨h, e⟩
theorem some_spec (L : List Nt) (l : List Nt) : (some' L l).Pairwise (· < ·) ∧ ∀ k, k ∈ some' L l ↔ of L k ≠ 0 ∧ ∃ x ∈ l, x.key = k := by
  suffices h : ∀ (l : List Nt) (s : List Int), s.Pairwise (· < ·) → (l.foldl (kon L) s).Pairwise (· < ·) ∧ ∀ k, k ∈ l.foldl (kon L) s ↔ k ∈ s ∨ of L k ≠ 0 ∧ ∃ x ∈ l, x.key = k by
    have := h l [] .nil
    refine ⟨this.1, fun k => (this.2 k).trans (by simp)⟩
  intro l
  induction l with
  | nil => intro s hs; exact ⟨hs, fun k => by simp⟩
  | cons a l ih =>
    intro s hs
    rw [List.foldl_cons]
    by_cases h0 : of L a.key = 0
    · have e : kon L s a = s := by unfold kon; rw [if_pos h0]
      rw [e]
      obtain ⟨i1, i2⟩ := ih s hs
      refine ⟨i1, fun k => (i2 k).trans ⟨?_, ?_⟩⟩
      · rintro (h | ⟨h, x, hx, e⟩)
        · exact .inl h
        · exact .inr ⟨h, x, by simp [hx], e⟩
      · rintro (h | ⟨h, x, hx, ex⟩)
        · exact .inl h
        · rcases List.mem_cons.1 hx with rfl | hx
          · rw [ex] at h0; exact absurd h0 h
          · exact .inr ⟨h, x, hx, ex⟩
    · have e : kon L s a = kput a.key s := by unfold kon; rw [if_neg h0]
      rw [e]
      obtain ⟨k1, k2⟩ := kput_rise a.key hs
      obtain ⟨i1, i2⟩ := ih _ k1
      refine ⟨i1, fun k => (i2 k).trans ⟨?_, ?_⟩⟩
      · rintro (h | ⟨h, x, hx, e⟩)
        · rcases (k2 k).1 h with rfl | h
          · exact .inr ⟨h0, a, by simp, rfl⟩
          · exact .inl h
        · exact .inr ⟨h, x, by simp [hx], e⟩
      · rintro (h | ⟨h, x, hx, ex⟩)
        · exact .inl ((k2 k).2 (.inr h))
        · rcases List.mem_cons.1 hx with rfl | hx
          · exact .inl ((k2 k).2 (.inl ex.symm))
          · exact .inr ⟨h, x, hx, ex⟩
theorem keys_rise (l : List Nt) : (keys l).Pairwise (· < ·) := (some_spec l l).1
theorem keys_mem (l : List Nt) (k : Int) : k ∈ keys l ↔ of l k ≠ 0 := by
  refine ((some_spec l l).2 k).trans ⟨fun h => h.1, fun h => ⟨h, ?_⟩⟩
  by_cases hx : ∃ x ∈ l, x.key = k
  · exact hx
  · exact absurd (of_none fun x hm e => hx ⟨x, hm, e⟩) h
/-- Two lists that rise, of the same numbers, are one. -/
theorem rise_eq : ∀ {a b : List Int}, a.Pairwise (· < ·) → b.Pairwise (· < ·) → (∀ x, x ∈ a ↔ x ∈ b) → a = b
  | [], [], _, _, _ => rfl
  | [], y :: b, _, _, h => by have := (h y).2 (by simp); simp at this
  | x :: a, [], _, _, h => by have := (h x).1 (by simp); simp at this
  | x :: a, y :: b, ha, hb, h => by
    obtain ⟨a1, a2⟩ := List.pairwise_cons.1 ha
    obtain ⟨b1, b2⟩ := List.pairwise_cons.1 hb
    have e : x = y := by
      have h1 := (h x).1 (by simp)
      have h2 := (h y).2 (by simp)
      rcases List.mem_cons.1 h1 with h1 | h1
      · exact h1
      · rcases List.mem_cons.1 h2 with h2 | h2
        · exact h2.symm
        · have := b1 x h1
          have := a1 y h2
          omega
    subst e
    refine congrArg (x :: ·) (rise_eq a2 b2 fun w => ⟨fun hw => ?_, fun hw => ?_⟩)
    · rcases List.mem_cons.1 ((h w).1 (by simp [hw])) with e | e
      · have := a1 w hw; omega
      · exact e
    · rcases List.mem_cons.1 ((h w).2 (by simp [hw])) with e | e
      · have := b1 w hw; omega
      · exact e
theorem keys_zero (l : List Nt) {k s : Int} (h : of (l ++ [⟨k, s⟩]) k = 0) : keys (l ++ [⟨k, s⟩]) = (keys l).filter (fun x => !(x == k)) :=
  rise_eq (keys_rise _) ((keys_rise _).filter _) fun x => by
    rw [keys_mem, List.mem_filter, keys_mem]
    by_cases e : x = k
    · subst e; simp [h]
    · rw [of_other l s (Ne.symm e)]; simp [e]
theorem keys_some (l : List Nt) {k s : Int} (h : of (l ++ [⟨k, s⟩]) k ≠ 0) : keys (l ++ [⟨k, s⟩]) = kput k (keys l) :=
  rise_eq (keys_rise _) (kput_rise k (keys_rise l)).1 fun x => by
    rw [keys_mem, (kput_rise k (keys_rise l)).2, keys_mem]
    by_cases e : x = k
    · subst e; simp [h]
    · rw [of_other l s (Ne.symm e)]; simp [e]
theorem want_zero (q m : Int) : want 0 q m = min (add [0, q]) (fit m) := rfl
end Go.Proofs.Ytghbcknbkkhhpaa.Demand
