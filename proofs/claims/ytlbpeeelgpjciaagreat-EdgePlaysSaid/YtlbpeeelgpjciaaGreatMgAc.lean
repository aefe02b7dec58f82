/-
  Notes as data, and estimates of them: the greatest of all, each halved as often as something was noted since; which keys have one; how much is wanted. Plain functions, no program.
  Plain facts on keys and ballots of the layer conf: what is from one number to another, whose a ballot is, and the least ballot of a node above a number. No condition.
  Sets of nodes as plain functions on whole numbers (only, has, put, cut, all, count, nodes, next, maj), and what they have to do with one another; no program is named. Conditions: a set is from 0 to 2^64 less 1.
  The plain calls of package ring (only, Has, With, Without, isRing, All, Majority) and of the document's answers (Has, With, Without, Right, All, Majority) return what the plain functions of RingPlain give, and leave the world as it was; any ints, any set from 0 to 2^64 less 1.
  The calls of package conf on numbers alone (within, isRing, Right, Key, Owner, Next) and the document's answers (Right, Owner, Next) return what the plain functions of ConfPlain give, and leave the world as it was; any ints.
-/
import Derived.WalkKit
import Derived.ProofKit
import Derived.Outline
import Derived.Lib.Hide
import Derived.IntWalk
import Derived.Test.YtlbpeeelgpjciaaGreatMgAa
import Derived.Test.YtlbpeeelgpjciaaGreatMgAb
import Derived.Test.YtlbpeeelgpjciaaGreatChecked
namespace Go.Proofs.YtlbpeeelgpjciaaGreat.Demand
open _root_.Go.Proofs.YtlbpeeelgpjciaaGreat.Sat (fit add fit_lo fit_hi)
open _root_.Go.Proofs.YtlbpeeelgpjciaaGreat.Kit (take_snoc)

structure Nt where
  key : Int
  spent : Int
def z : Nt := ⟨0, 0⟩
def Num (x : Int) : Prop := -9223372036854775808 ≤ x ∧ x ≤ 9223372036854775807
def NtNum (x : Nt) : Prop := Num x.key ∧ Num x.spent
/-- A key's estimate, behind one note more. -/
def estep (k e : Int) (x : Nt) : Int := if x.key = k then max (fit x.spent) (e / 2) else e
def of (l : List Nt) (k : Int) : Int := l.foldl (estep k) 0
def want (e q m : Int) : Int := min (add [e, q]) (fit m)
/-- A number is put among numbers that rise, as the document does it. -/
def kstep (k : Int) (s : List Int × Bool) (a : Int) : List Int × Bool :=
  if s.2 = false ∧ k ≤ a then (if a = k then s.1 ++ [k] else s.1 ++ [k] ++ [a], true) else (if a = k then s.1 else s.1 ++ [a], s.2)
def kfold (k : Int) (l : List Int) : List Int × Bool := l.foldl (kstep k) ([], false)
def kput (k : Int) (l : List Int) : List Int := if (kfold k l).2 = true then (kfold k l).1 else (kfold k l).1 ++ [k]
/-- The keys that have an estimate, of all these notes, among the first ones. -/
def kon (L : List Nt) (s : List Int) (x : Nt) : List Int := if of L x.key = 0 then s else kput x.key s
def some' (L l : List Nt) : List Int := l.foldl (kon L) []
def keys (l : List Nt) : List Int := some' l l
/-- The greatest of all, from behind: each halved as often as something was noted since; and how often something was noted. -/
def bh (k : Int) : List Nt → Int × Nat
  | [] => (0, 0)
  | x :: s => if x.key = k then (max (bh k s).1 (fit x.spent / 2 ^ min (bh k s).2 63), (bh k s).2 + 1) else bh k s

theorem kstep_len (k : Int) (s : List Int × Bool) (a : Int) : (kstep k s a).1.length + (if (kstep k s a).2 = true then 0 else 1) ≤ s.1.length + (if s.2 = true then 0 else 1) + 1 := by
  obtain ⟨l, d⟩ := s
  unfold kstep
  cases d <;> simp only <;> repeat' split <;> simp_all
theorem kfold_snoc (k : Int) (l : List Int) (a : Int) : kfold k (l ++ [a]) = kstep k (kfold k l) a := by unfold kfold; rw [List.foldl_append]; rfl
theorem kfold_len (k : Int) (l : List Int) : (kfold k l).1.length + (if (kfold k l).2 = true then 0 else 1) ≤ l.length + 1 := by
  suffices h : ∀ (l : List Int) (s : List Int × Bool), (l.foldl (kstep k) s).1.length + (if (l.foldl (kstep k) s).2 = true then 0 else 1) ≤ s.1.length + (if s.2 = true then 0 else 1) + l.length by
    have := h l ([], false)
    unfold kfold
    simp at this ⊢
    omega
  intro l
  induction l with
  | nil => intro s; exact Nat.le_refl _
  | cons a l ih =>
    intro s
    have h1 := ih (kstep k s a)
    have h2 := kstep_len k s a
    rw [List.foldl_cons, List.length_cons]
    omega
theorem kput_len (k : Int) (l : List Int) : (kput k l).length ≤ l.length + 1 := by
  have := kfold_len k l
  unfold kput
  split
  · rename_i h
    rw [if_pos h] at this
    omega
  · rename_i h
    rw [if_neg h] at this
    simp
    omega
theorem estep_num (k : Int) {e : Int} (h : 0 ≤ e ∧ e ≤ 4611686018427387904) (x : Nt) : 0 ≤ estep k e x ∧ estep k e x ≤ 4611686018427387904 := by
  have h1 := fit_lo x.spent
  have h2 := fit_hi x.spent
  unfold estep
  split <;> omega
theorem fold_num (k : Int) : ∀ (l : List Nt) {e : Int}, 0 ≤ e ∧ e ≤ 4611686018427387904 → 0 ≤ l.foldl (estep k) e ∧ l.foldl (estep k) e ≤ 4611686018427387904
  | [], _, h => h
  | x :: l, _, h => fold_num k l (estep_num k h x)
theorem of_num (l : List Nt) (k : Int) : 0 ≤ of l k ∧ of l k ≤ 4611686018427387904 := fold_num k l (by omega)
theorem of_snoc (l : List Nt) (x : Nt) (k : Int) : of (l ++ [x]) k = estep k (of l k) x := by unfold of; rw [List.foldl_append]; rfl
theorem of_same (l : List Nt) (k s : Int) : of (l ++ [⟨k, s⟩]) k = max (fit s) (of l k / 2) := by rw [of_snoc]; unfold estep; rw [if_pos rfl]
theorem of_other (l : List Nt) {k k' : Int} (s : Int) (h : k ≠ k') : of (l ++ [⟨k, s⟩]) k' = of l k' := by rw [of_snoc]; unfold estep; rw [if_neg h]
theorem of_low (l : List Nt) {k s : Int} (h : s ≤ 0) : of (l ++ [⟨k, s⟩]) k = of l k / 2 := by
  have h0 := (of_num l k).1
  have hf : fit s = 0 := by unfold fit Sat.top; split <;> (try split) <;> omega
  rw [of_same, hf]
  omega
theorem div_pow (e : Int) (n : Nat) : e / 2 / 2 ^ n = e / 2 ^ (n + 1) := by
  rw [Int.ediv_ediv_of_nonneg (by omega), ← Int.pow_succ']
theorem pow_pos' (n : Nat) : (0 : Int) < 2 ^ n := Int.pow_pos (by decide)
theorem max_div (a b : Int) (n : Nat) : max a b / 2 ^ n = max (a / 2 ^ n) (b / 2 ^ n) := by
  have hp := pow_pos' n
  rcases Int.le_total a b with h | h
  · rw [Int.max_eq_right h, Int.max_eq_right (Int.ediv_le_ediv hp h)]
  · rw [Int.max_eq_left h, Int.max_eq_left (Int.ediv_le_ediv hp h)]
theorem big_div {x : Int} (h0 : 0 ≤ x) (h1 : x ≤ 4611686018427387904) (n : Nat) : x / 2 ^ min n 63 = x / 2 ^ n := by
  by_cases h : n ≤ 63
  · rw [Nat.min_eq_left h]
  · have e1 : x / 2 ^ 63 = 0 := Int.ediv_eq_zero_of_lt h0 (by omega)
    have e2 : x / 2 ^ n = 0 := by
      rw [show n = 63 + (n - 63) by omega, Int.pow_add, ← Int.ediv_ediv_of_nonneg (by omega), e1, Int.zero_ediv]
    rw [Nat.min_eq_right (by omega), e1, e2]
theorem fold_bh (k : Int) : ∀ (l : List Nt) {e : Int}, 0 ≤ e → l.foldl (estep k) e = max (bh k l).1 (e / 2 ^ (bh k l).2)
  | [], e, h => by simp [bh]; omega
  | x :: l, e, h => by
    rw [List.foldl_cons]
    by_cases hk : x.key = k
    · have h1 := fit_lo x.spent
      have h2 := fit_hi x.spent
      have hs : estep k e x = max (fit x.spent) (e / 2) := by unfold estep; rw [if_pos hk]
      rw [hs, fold_bh k l (by omega)]
      have hb : bh k (x :: l) = (max (bh k l).1 (fit x.spent / 2 ^ min (bh k l).2 63), (bh k l).2 + 1) := by
        show (if x.key = k then _ else _) = _
        rw [if_pos hk]
      rw [hb, big_div h1 h2, max_div, div_pow]
      simp only
      omega
    · have hs : estep k e x = e := by unfold estep; rw [if_neg hk]
      have hb : bh k (x :: l) = bh k l := by
        show (if x.key = k then _ else _) = _
        rw [if_neg hk]
      rw [hs, hb, fold_bh k l h]
theorem bh_num (k : Int) : ∀ l : List Nt, 0 ≤ (bh k l).1 ∧ (bh k l).1 ≤ 4611686018427387904 ∧ (bh k l).2 ≤ l.length
  | [] => by simp [bh]
  | x :: l => by
    obtain ⟨h0, h1, h2⟩ := bh_num k l
    have f0 := fit_lo x.spent
    have f1 := fit_hi x.spent
    have hp := pow_pos' (min (bh k l).2 63)
    have q0 : 0 ≤ fit x.spent / 2 ^ min (bh k l).2 63 := Int.ediv_nonneg f0 (Int.le_of_lt hp)
    have q1 : fit x.spent / 2 ^ min (bh k l).2 63 ≤ fit x.spent := Int.ediv_le_self _ f0
    unfold bh
    split
    · simp only [List.length_cons]
      omega
    · simp only [List.length_cons]
      omega
theorem of_bh (l : List Nt) (k : Int) : (bh k l).1 = of l k := by
  have h := fold_bh k l (e := 0) (Int.le_refl _)
  have h0 := (bh_num k l).1
  rw [Int.zero_ediv] at h
  unfold of
  omega
theorem of_none {l : List Nt} {k : Int} (h : ∀ x ∈ l, x.key ≠ k) : of l k = 0 := by
  suffices hh : ∀ (l : List Nt) (e : Int), (∀ x ∈ l, x.key ≠ k) → l.foldl (estep k) e = e from hh l 0 h
  intro l
  induction l with
  | nil => intro e _; rfl
  | cons x l ih =>
    intro e hx
    rw [List.foldl_cons, show estep k e x = e by unfold estep; rw [if_neg (hx x (by simp))]]
    exact ih e fun y hy => hx y (by simp [hy])
theorem some_snoc (L l : List Nt) (x : Nt) : some' L (l ++ [x]) = kon L (some' L l) x := by unfold some'; rw [List.foldl_append]; rfl
theorem some_at (L : List Nt) {l : List Nt} {j : Nat} (h : j < l.length) : some' L (l.take (j + 1)) = kon L (some' L (l.take j)) (l.getD j z) := by
  rw [take_snoc z h, some_snoc]
theorem kon_len (L : List Nt) (s : List Int) (x : Nt) : (kon L s x).length ≤ s.length + 1 := by
  unfold kon
  split
  · omega
  · exact kput_len _ _
theorem some_len (L : List Nt) (l : List Nt) : (some' L l).length ≤ l.length := by
  suffices h : ∀ (l : List Nt) (s : List Int), (l.foldl (kon L) s).length ≤ s.length + l.length by
    have := h l []
    simp only [List.length_nil, Nat.zero_add] at this
    exact this
  intro l
  induction l with
  | nil => intro s; simp
  | cons a l ih =>
    intro s
    have h1 := ih (kon L s a)
    have h2 := kon_len L s a
    rw [List.foldl_cons, List.length_cons]
    omega
theorem keys_len (l : List Nt) : (keys l).length ≤ l.length := some_len l l
theorem kfold_spec (k : Int) : ∀ (n : Nat) (l : List Int), l.length = n → l.Pairwise (· < ·) → kfold k l = if ∃ a ∈ l, k ≤ a then (l.filter (fun x => decide (x < k)) ++ [k] ++ l.filter (fun x => decide (k < x)), true) else (l, false)
  | 0, l, hn, _ => by
    obtain rfl := List.eq_nil_of_length_eq_zero hn
    simp [kfold]
  | n + 1, l, hn, h => by
    obtain ⟨m, a, rfl⟩ : ∃ m a, l = m ++ [a] := ⟨l.dropLast, l.getLast (by intro e; subst e; simp at hn), (List.dropLast_concat_getLast _).symm⟩
    rw [List.pairwise_append] at h
    obtain ⟨h1, -, h3⟩ := h
    have h3 : ∀ x ∈ m, x < a := fun x hx => h3 x hx a (by simp)
    rw [kfold_snoc, kfold_spec k n m (by simpa using hn) h1]
    by_cases hex : ∃ a ∈ m, k ≤ a
    · obtain ⟨b, hb, hkb⟩ := hex
      have := h3 b hb
      rw [if_pos ⟨b, hb, hkb⟩, if_pos ⟨a, by simp, by omega⟩]
      unfold kstep
      simp only [Bool.true_eq_false, false_and, if_false]
      rw [if_neg (by omega)]
      simp [show ¬ a < k by omega, show k < a by omega]
    · rw [if_neg hex]
      have hall : ∀ x ∈ m, x < k := fun x hx => by
        by_cases hc : k ≤ x
        · exact absurd ⟨x, hx, hc⟩ hex
        · omega
      have f1 : m.filter (fun x => decide (x < k)) = m := List.filter_eq_self.2 fun x hx => by simpa using hall x hx
      have f2 : m.filter (fun x => decide (k < x)) = [] := List.filter_eq_nil_iff.2 fun x hx => by have := hall x hx; simp; omega
      by_cases hka : k ≤ a
      · rw [if_pos (show ∃ x ∈ m ++ [a], k ≤ x from ⟨a, by simp, hka⟩)]
        by_cases e : a = k
        · subst e
          have e1 : kstep a (m, false) a = (m ++ [a], true) := by unfold kstep; simp
          rw [e1]
          simp [f1, f2]
        · have e1 : kstep k (m, false) a = (m ++ [k] ++ [a], true) := by unfold kstep; simp [hka, e]
          rw [e1]
          simp [f1, f2, show ¬ a < k by omega, show k < a by omega]
      · have e1 : kstep k (m, false) a = (m ++ [a], false) := by unfold kstep; simp [hka, show ¬ a = k by omega]
        rw [e1, if_neg]
        rintro ⟨x, hx, hc⟩
        rcases List.mem_append.1 hx with hx | hx
        · exact hex ⟨x, hx, hc⟩
        · rw [List.mem_singleton.1 hx] at hc
          exact hka hc
theorem kput_spec (k : Int) {l : List Int} (h : l.Pairwise (· < ·)) : kput k l = l.filter (fun x => decide (x < k)) ++ [k] ++ l.filter (fun x => decide (k < x)) := by
  unfold kput
  rw [kfold_spec k _ l rfl h]
  by_cases hex : ∃ a ∈ l, k ≤ a
  · rw [if_pos hex]; rfl
  · rw [if_neg hex]
    have hall : ∀ x ∈ l, x < k := fun x hx => by
      by_cases hc : k ≤ x
      · exact absurd ⟨x, hx, hc⟩ hex
      · omega
    have f1 : l.filter (fun x => decide (x < k)) = l := List.filter_eq_self.2 fun x hx => by simpa using hall x hx
    have f2 : l.filter (fun x => decide (k < x)) = [] := List.filter_eq_nil_iff.2 fun x hx => by have := hall x hx; simp; omega
    rw [f1, f2, List.append_nil]
    rfl
/-- A number is put among numbers that rise. -/
theorem kput_rise (k : Int) {l : List Int} (h : l.Pairwise (· < ·)) : (kput k l).Pairwise (· < ·) ∧ ∀ x, x ∈ kput k l ↔ x = k ∨ x ∈ l := by
  rw [kput_spec k h]
  refine ⟨?_, fun x => ?_⟩
  · rw [List.append_assoc, List.pairwise_append]
    refine ⟨h.filter _, ?_, fun x hx y hy => ?_⟩
    · rw [List.singleton_append, List.pairwise_cons]
      exact ⟨fun y hy => by simpa using (List.mem_filter.1 hy).2, h.filter _⟩
    · have h1 : x < k := by simpa using (List.mem_filter.1 hx).2
      rcases List.mem_append.1 hy with hy | hy
      · rw [List.mem_singleton.1 hy]; exact h1
      · have h2 : k < y := by simpa using (List.mem_filter.1 hy).2
        omega
  · simp only [List.mem_append, List.mem_filter, List.mem_singleton, decide_eq_true_eq]
    constructor
    · rintro ((h | h) | h)
      · exact .inr h.1
      · exact .inl h
      · exact .inr h.1
    · rintro (h | h)
      · exact .inl (.inr h)
      · rcases Int.lt_trichotomy x k with e | e | e
        · exact .inl (.inl ⟨h, e⟩)
        · exact .inl (.inr e)
        · exact .inr ⟨h, e⟩
theorem some_spec (L : List Nt) (l : List Nt) : (some' L l).Pairwise (· < ·) ∧ ∀ k, k ∈ some' L l ↔ of L k ≠ 0 ∧ ∃ x ∈ l, x.key = k := by
  suffices h : ∀ (l : List Nt) (s : List Int), s.Pairwise (· < ·) → (l.foldl (kon L) s).Pairwise (· < ·) ∧ ∀ k, k ∈ l.foldl (kon L) s ↔ k ∈ s ∨ of L k ≠ 0 ∧ ∃ x ∈ l, x.key = k by
    have := h l [] .nil
    refine ⟨this.1, fun k => (this.2 k).trans (by simp)⟩
  intro l
  induction l with
  | nil => intro s hs; exact ⟨hs, fun k => by simp⟩
  | cons a l ih =>
    intro s hs
    rw [List.foldl_cons]
    by_cases h0 : of L a.key = 0
    · have e : kon L s a = s := by unfold kon; rw [if_pos h0]
      rw [e]
      obtain ⟨i1, i2⟩ := ih s hs
      refine ⟨i1, fun k => (i2 k).trans ⟨?_, ?_⟩⟩
      · rintro (h | ⟨h, x, hx, e⟩)
        · exact .inl h
        · exact .inr ⟨h, x, by simp [hx], e⟩
      · rintro (h | ⟨h, x, hx, ex⟩)
        · exact .inl h
        · rcases List.mem_cons.1 hx with rfl | hx
          · rw [ex] at h0; exact absurd h0 h
          · exact .inr ⟨h, x, hx, ex⟩
    · have e : kon L s a = kput a.key s := by unfold kon; rw [if_neg h0]
      rw [e]
      obtain ⟨k1, k2⟩ := kput_rise a.key hs
      obtain ⟨i1, i2⟩ := ih _ k1
      refine ⟨i1, fun k => (i2 k).trans ⟨?_, ?_⟩⟩
      · rintro (h | ⟨h, x, hx, e⟩)
        · rcases (k2 k).1 h with rfl | h
          · exact .inr ⟨h0, a, by simp, rfl⟩
          · exact .inl h
        · exact .inr ⟨h, x, by simp [hx], e⟩
      · rintro (h | ⟨h, x, hx, ex⟩)
        · exact .inl ((k2 k).2 (.inr h))
        · rcases List.mem_cons.1 hx with rfl | hx
          · exact .inl ((k2 k).2 (.inl ex.symm))
          · exact .inr ⟨h, x, hx, ex⟩
theorem keys_rise (l : List Nt) : (keys l).Pairwise (· < ·) := (some_spec l l).1
theorem keys_mem (l : List Nt) (k : Int) : k ∈ keys l ↔ of l k ≠ 0 := by
  refine ((some_spec l l).2 k).trans ⟨fun h => h.1, fun h => ⟨h, ?_⟩⟩
  by_cases hx : ∃ x ∈ l, x.key = k
  · exact hx
  · exact absurd (of_none fun x hm e => hx ⟨x, hm, e⟩) h
/-- Two lists that rise, of the same numbers, are one. -/
theorem rise_eq : ∀ {a b : List Int}, a.Pairwise (· < ·) → b.Pairwise (· < ·) → (∀ x, x ∈ a ↔ x ∈ b) → a = b
  | [], [], _, _, _ => rfl
  | [], y :: b, _, _, h => by have := (h y).2 (by simp); simp at this
  | x :: a, [], _, _, h => by have := (h x).1 (by simp); simp at this
  | x :: a, y :: b, ha, hb, h => by
    obtain ⟨a1, a2⟩ := List.pairwise_cons.1 ha
    obtain ⟨b1, b2⟩ := List.pairwise_cons.1 hb
    have e : x = y := by
      have h1 := (h x).1 (by simp)
      have h2 := (h y).2 (by simp)
      rcases List.mem_cons.1 h1 with h1 | h1
      · exact h1
      · rcases List.mem_cons.1 h2 with h2 | h2
        · exact h2.symm
        · have := b1 x h1
          have := a1 y h2
          omega
    subst e
    refine congrArg (x :: ·) (rise_eq a2 b2 fun w => ⟨fun hw => ?_, fun hw => ?_⟩)
    · rcases List.mem_cons.1 ((h w).1 (by simp [hw])) with e | e
      · have := a1 w hw; omega
      · exact e
    · rcases List.mem_cons.1 ((h w).2 (by simp [hw])) with e | e
      · have := b1 w hw; omega
      · exact e
theorem keys_zero (l : List Nt) {k s : Int} (h : of (l ++ [⟨k, s⟩]) k = 0) : keys (l ++ [⟨k, s⟩]) = (keys l).filter (fun x => !(x == k)) :=
  rise_eq (keys_rise _) ((keys_rise _).filter _) fun x => by
    rw [keys_mem, List.mem_filter, keys_mem]
    by_cases e : x = k
    · subst e; simp [h]
    · rw [of_other l s (Ne.symm e)]; simp [e]
theorem keys_some (l : List Nt) {k s : Int} (h : of (l ++ [⟨k, s⟩]) k ≠ 0) : keys (l ++ [⟨k, s⟩]) = kput k (keys l) :=
  rise_eq (keys_rise _) (kput_rise k (keys_rise l)).1 fun x => by
    rw [keys_mem, (kput_rise k (keys_rise l)).2, keys_mem]
    by_cases e : x = k
    · subst e; simp [h]
    · rw [of_other l s (Ne.symm e)]; simp [e]
theorem want_zero (q m : Int) : want 0 q m = min (add [0, q]) (fit m) := rfl
end Go.Proofs.YtlbpeeelgpjciaaGreat.Demand

namespace Go.Proofs.YtlbpeeelgpjciaaGreat.Conf

def within (x lo hi : Int) : Bool := decide (lo ≤ x) && decide (x ≤ hi)
theorem within_yes {x lo hi : Int} (h0 : lo ≤ x) (h1 : x ≤ hi) : within x lo hi = true := by unfold within; simp [h0, h1]
theorem within_no {x lo hi : Int} (h : ¬ (lo ≤ x ∧ x ≤ hi)) : within x lo hi = false := by
  unfold within
  by_cases h0 : lo ≤ x
  · have h1 : ¬ x ≤ hi := fun k => h ⟨h0, k⟩
    simp [h0, h1]
  · simp [h0]
theorem within_iff {x lo hi : Int} : within x lo hi = true ↔ lo ≤ x ∧ x ≤ hi := by unfold within; simp

/-- Whose a ballot is. -/
def owner (n b : Int) : Int := if 1 ≤ n ∧ n ≤ 64 ∧ n ≤ b ∧ b ≤ 1099511627776 then b % n else -1

/-- The least ballot of a node above a number, whatever its size. -/
def bal (n above node : Int) : Int := if n + node ≤ above then above - (above - node) % n + n else n + node
def next (n above node : Int) : Int × Int :=
  if ¬ (1 ≤ n ∧ n ≤ 64 ∧ 0 ≤ node ∧ node < n) then (0, 1) else
  if 1099511627776 ≤ above then (0, 6) else
  if 1099511627776 < bal n above node then (0, 6) else (bal n above node, 0)

def key (p m : Int) : Int × Int := if 0 ≤ p ∧ p ≤ 7 ∧ 0 ≤ m ∧ m ≤ 65535 then (p * 65536 + m, 0) else (0, 1)

theorem bal_lo {n above node : Int} (hn : 1 ≤ n) (hd : 0 ≤ node) : n ≤ bal n above node := by
  unfold bal
  split
  · have h1 := Int.emod_lt_of_pos (above - node) (by omega : 0 < n)
    omega
  · omega
theorem bal_above {n above node : Int} (hn : 1 ≤ n) : above < bal n above node := by
  unfold bal
  split
  · have h1 := Int.emod_lt_of_pos (above - node) (by omega : 0 < n)
    omega
  · omega
theorem bal_mod {n above node : Int} (hd : 0 ≤ node) (hl : node < n) : bal n above node % n = node := by
  unfold bal
  split
  · have h1 := Int.mul_ediv_add_emod (above - node) n
    have h2 : above - (above - node) % n + n = node + n * ((above - node) / n + 1) := by rw [Int.mul_add]; omega
    rw [h2, Int.add_mul_emod_self_left, Int.emod_eq_of_lt hd hl]
  · rw [Int.add_comm, Int.add_emod_right, Int.emod_eq_of_lt hd hl]
theorem bal_near {n above node : Int} (hn : 1 ≤ n) (hl : node < n) : bal n above node < max (above + 1) n + n := by
  unfold bal
  split
  · have h1 := Int.emod_nonneg (above - node) (by omega : n ≠ 0)
    omega
  · omega
/-- From the first number on, at most n - 1 steps to the ballot; it is there where the rest is the node. -/
theorem bal_here {n above node b : Int} (hd : 0 ≤ node) (hl : node < n) (h0 : b ≤ bal n above node) (h1 : bal n above node < b + n) (hm : b % n = node) : b = bal n above node := by
  have h2 := bal_mod (above := above) hd hl
  have h3 : (bal n above node - b) % n = 0 := by rw [Int.sub_emod, h2, hm]; simp
  have h4 : (bal n above node - b) % n = bal n above node - b := Int.emod_eq_of_lt (by omega) (by omega)
  omega
theorem bal_not {n above node b : Int} (hd : 0 ≤ node) (hl : node < n) (h0 : b ≤ bal n above node) (hm : b % n ≠ node) : b + 1 ≤ bal n above node := by
  have h2 := bal_mod (above := above) hd hl
  rcases Int.lt_or_eq_of_le h0 with h | h
  · omega
  · rw [h] at hm; exact absurd h2 hm

theorem next_arg {n above node : Int} (h : ¬ (1 ≤ n ∧ n ≤ 64 ∧ 0 ≤ node ∧ node < n)) : next n above node = (0, 1) := by unfold next; rw [if_pos h]
theorem next_far {n above node : Int} (h : 1 ≤ n ∧ n ≤ 64 ∧ 0 ≤ node ∧ node < n) (h1 : 1099511627776 ≤ above) : next n above node = (0, 6) := by
  unfold next; rw [if_neg (fun k => k h), if_pos h1]
theorem next_over {n above node : Int} (h : 1 ≤ n ∧ n ≤ 64 ∧ 0 ≤ node ∧ node < n) (h1 : ¬ 1099511627776 ≤ above) (h2 : 1099511627776 < bal n above node) : next n above node = (0, 6) := by
  unfold next; rw [if_neg (fun k => k h), if_neg h1, if_pos h2]
theorem next_ok {n above node : Int} (h : 1 ≤ n ∧ n ≤ 64 ∧ 0 ≤ node ∧ node < n) (h1 : ¬ 1099511627776 ≤ above) (h2 : ¬ 1099511627776 < bal n above node) : next n above node = (bal n above node, 0) := by
  unfold next; rw [if_neg (fun k => k h), if_neg h1, if_neg h2]
end Go.Proofs.YtlbpeeelgpjciaaGreat.Conf

namespace Go.Proofs.YtlbpeeelgpjciaaGreat.Ring

/-- Is a node in a set? -/
def has (x i : Int) : Bool := decide (0 ≤ i ∧ i < 64) && x.toNat.testBit i.toNat
/-- The set of one node; none, if there is no such node. -/
def only (i : Int) : Int := if 0 ≤ i ∧ i < 64 then ((2 ^ i.toNat : Nat) : Int) else 0
/-- A set with a node. -/
def put (x i : Int) : Int := ((x.toNat ||| (only i).toNat : Nat) : Int)
/-- A set without a node. -/
def cut (x i : Int) : Int := ((x.toNat &&& (18446744073709551615 - (only i).toNat) : Nat) : Int)
/-- What two sets have in common. -/
def meet (x y : Int) : Int := ((x.toNat &&& y.toNat : Nat) : Int)
def okRing (n : Int) : Bool := decide (1 ≤ n) && decide (n ≤ 64)
/-- The nodes of a ring of n. -/
def all (n : Int) : Int := if okRing n then ((2 ^ n.toNat - 1 : Nat) : Int) else 0
/-- How many a set has. -/
def count (x : Int) : Int := ((List.range 64).countP (fun i => x.toNat.testBit i) : Nat)
/-- Its nodes, rising. -/
def nodes (x : Int) : List Int := ((List.range 64).filter (fun i => x.toNat.testBit i)).map (fun i : Nat => (i : Int))
/-- The nodes that come behind i on a ring of n, once round. -/
def behind (n i : Int) : List Int := (List.range (n.toNat - 1)).map (fun k : Nat => (i + ((k : Int) + 1)) % n)
/-- Who comes next. -/
def next (x n i : Int) : Int := if okRing n && (decide (0 ≤ i) && decide (i < n)) then ((behind n i).find? (fun j => has x j)).getD i else -1
def maj (n : Int) : Int := if n < 1 then 0 else n / 2 + 1

theorem pow_lt {i : Int} (h1 : i < 64) : 2 ^ i.toNat < 18446744073709551616 :=
  Nat.lt_of_lt_of_le (Nat.pow_lt_pow_right (by decide) (by omega : i.toNat < 64)) (by decide)

theorem only_lo (i : Int) : 0 ≤ only i := by
  unfold only; split
  · exact Int.natCast_nonneg _
  · omega
theorem only_hi (i : Int) : only i < 18446744073709551616 := by
  unfold only; split
  · rename_i h; have := pow_lt h.2; generalize 2 ^ i.toNat = k at this; omega
  · omega
theorem only_in {i : Int} (h0 : 0 ≤ i) (h1 : i < 64) : only i = ((2 ^ i.toNat : Nat) : Int) := by unfold only; rw [if_pos ⟨h0, h1⟩]
theorem only_out {i : Int} (h : ¬ (0 ≤ i ∧ i < 64)) : only i = 0 := by unfold only; rw [if_neg h]
theorem only_wrap {i : Int} (h0 : 0 ≤ i) (h1 : i < 64) : IntKind.u64.wrap ((2 : Int) ^ i.toNat) = only i := by
  rw [only_in h0 h1, IntKind.wrap_u64]
  have h := pow_lt h1
  have e : ((2 : Int) ^ i.toNat) = ((2 ^ i.toNat : Nat) : Int) := by simp
  rw [e]
  generalize 2 ^ i.toNat = k at h
  omega

theorem put_lo (x i : Int) : 0 ≤ put x i := by unfold put; omega
theorem put_hi (x i : Int) (h1 : x < 18446744073709551616) : put x i < 18446744073709551616 := by
  unfold put
  have a := only_lo i; have b := only_hi i
  have : x.toNat ||| (only i).toNat < 2 ^ 64 := Nat.or_lt_two_pow (by omega) (by omega)
  omega
theorem cut_lo (x i : Int) : 0 ≤ cut x i := by unfold cut; omega
theorem cut_hi (x i : Int) : cut x i < 18446744073709551616 := by
  unfold cut
  have : x.toNat &&& (18446744073709551615 - (only i).toNat) < 2 ^ 64 := Nat.and_lt_two_pow _ (by omega)
  omega
theorem meet_lo (x y : Int) : 0 ≤ meet x y := by unfold meet; omega
theorem meet_hi (x y : Int) (h1 : y < 18446744073709551616) : meet x y < 18446744073709551616 := by
  unfold meet
  have : x.toNat &&& y.toNat < 2 ^ 64 := Nat.and_lt_two_pow _ (by omega)
  omega
theorem all_lo (n : Int) : 0 ≤ all n := by unfold all; split <;> omega
theorem all_hi (n : Int) : all n < 18446744073709551616 := by
  unfold all; split
  · rename_i h; unfold okRing at h; simp at h
    have : 2 ^ n.toNat ≤ 2 ^ 64 := Nat.pow_le_pow_right (by decide) (by omega)
    omega
  · omega

theorem and_has (x i : Int) (h0 : 0 ≤ x) (h1 : x < 18446744073709551616) : (bits .and .u64 x (only i) != 0) = has x i := by
  rw [u64_and x (only i) h0 h1 (only_lo i) (only_hi i)]
  unfold has
  by_cases h : 0 ≤ i ∧ i < 64
  · rw [only_in h.1 h.2, Int.toNat_natCast, nat_bit, decide_eq_true h, Bool.true_and, Nat.testBit_eq_decide_div_mod_eq]
    have hp := Nat.two_pow_pos i.toNat
    rcases Nat.mod_two_eq_zero_or_one (x.toNat / 2 ^ i.toNat) with e | e
    · rw [e]; simp
    · rw [e, Nat.one_mul]
      generalize 2 ^ i.toNat = k at hp
      rw [Bool.eq_iff_iff]; simp; omega
  · rw [only_out h, decide_eq_false h]; simp
theorem or_put (x i : Int) (h0 : 0 ≤ x) (h1 : x < 18446744073709551616) : bits .or .u64 x (only i) = put x i :=
  u64_or x (only i) h0 h1 (only_lo i) (only_hi i)
theorem andNot_cut (x i : Int) (h0 : 0 ≤ x) (h1 : x < 18446744073709551616) : bits .andNot .u64 x (only i) = cut x i :=
  u64_andNot x (only i) h0 h1 (only_lo i) (only_hi i)
theorem and_meet (x y : Int) (h0 : 0 ≤ x) (h1 : x < 18446744073709551616) (g0 : 0 ≤ y) (g1 : y < 18446744073709551616) : bits .and .u64 x y = meet x y :=
  u64_and x y h0 h1 g0 g1

theorem all_shift_nat : ∀ n : Fin 65, 18446744073709551615 / 2 ^ (64 - n.val) = 2 ^ n.val - 1 := by decide +kernel
theorem all_shift (n : Int) (h0 : 1 ≤ n) (h1 : n ≤ 64) : (18446744073709551615 : Int) / 2 ^ (64 - n).toNat = all n := by
  have h := all_shift_nat ⟨n.toNat, by omega⟩
  have e : (64 - n).toNat = 64 - n.toNat := by omega
  unfold all okRing
  simp only [h0, h1, decide_true, Bool.and_self, if_true]
  rw [← h, e]; simp

/-- The bits of a set. -/
theorem has_nat (x : Int) (i : Nat) (h : i < 64) : has x (i : Int) = x.toNat.testBit i := by
  unfold has; rw [decide_eq_true (by omega)]; simp
theorem high {x : Int} (h1 : x < 18446744073709551616) {i : Nat} (h : 64 ≤ i) : x.toNat.testBit i = false := by
  apply Nat.testBit_lt_two_pow
  exact Nat.lt_of_lt_of_le (by omega : x.toNat < 2 ^ 64) (Nat.pow_le_pow_right (by decide) h)
theorem set_ext {x y : Int} (h0 : 0 ≤ x) (h1 : x < 18446744073709551616) (g0 : 0 ≤ y) (g1 : y < 18446744073709551616) (h : ∀ i : Nat, i < 64 → has x (i : Int) = has y (i : Int)) : x = y := by
  have : x.toNat = y.toNat := by
    apply Nat.eq_of_testBit_eq
    intro i
    by_cases hi : i < 64
    · have := h i hi; rwa [has_nat x i hi, has_nat y i hi] at this
    · rw [high h1 (by omega), high g1 (by omega)]
  omega
theorem has_put (x i j : Int) : has (put x i) j = (has x j || (decide (i = j) && decide (0 ≤ j ∧ j < 64))) := by
  unfold has put
  rw [Int.toNat_natCast, Nat.testBit_or]
  by_cases hj : 0 ≤ j ∧ j < 64
  · rw [decide_eq_true hj]
    by_cases hi : 0 ≤ i ∧ i < 64
    · rw [only_in hi.1 hi.2, Int.toNat_natCast, Nat.testBit_two_pow]
      have : decide (i.toNat = j.toNat) = decide (i = j) := by rw [decide_eq_decide]; omega
      rw [this]; simp
    · rw [only_out hi]
      have : decide (i = j) = false := decide_eq_false (fun e => hi (e ▸ hj))
      rw [this]; simp
  · rw [decide_eq_false hj]; simp
theorem has_meet (x y j : Int) : has (meet x y) j = (has x j && has y j) := by
  unfold has meet
  rw [Int.toNat_natCast, Nat.testBit_and]
  cases decide (0 ≤ j ∧ j < 64) <;> simp
theorem has_all (n j : Int) : has (all n) j = (okRing n && (decide (0 ≤ j) && decide (j < n))) := by
  unfold has all okRing
  by_cases h : 1 ≤ n ∧ n ≤ 64
  · simp only [h.1, h.2, decide_true, Bool.and_self, if_true, Int.toNat_natCast, Nat.testBit_two_pow_sub_one, Bool.true_and]
    rw [Bool.eq_iff_iff]; simp; omega
  · have : (decide (1 ≤ n) && decide (n ≤ 64)) = false := by
      rw [Bool.eq_false_iff]; simp; omega
    rw [this]; simp
theorem has_zero (j : Int) : has 0 j = false := by unfold has; simp

/-- A node more: how many there are. -/
theorem countP_more (p q : Nat → Bool) (i : Nat) (hp : p i = false) (hq : q i = true) (hr : ∀ j, j ≠ i → p j = q j) : ∀ n : Nat, (List.range n).countP q = (List.range n).countP p + (if i < n then 1 else 0)
  | 0 => by simp
  | n + 1 => by
    rw [List.range_succ, List.countP_append, List.countP_append, countP_more p q i hp hq hr n]
    by_cases e : n = i
    · subst e; simp [hp, hq]
    · have := hr n e
      by_cases hn : i < n
      · simp [List.countP_cons, this, hn, Nat.lt_succ_of_lt hn]; omega
      · have : ¬ i < n + 1 := by omega
        simp [List.countP_cons, hr n e, hn, this]
theorem count_put (x i : Int) (hi : 0 ≤ i ∧ i < 64) (h : has x i = false) : count (put x i) = count x + 1 := by
  unfold count
  have k := countP_more (fun j => x.toNat.testBit j) (fun j => (put x i).toNat.testBit j) i.toNat
    (by have := has_nat x i.toNat (by omega); rw [Int.toNat_of_nonneg hi.1] at this; rw [← this]; exact h)
    (by have := has_nat (put x i) i.toNat (by omega); rw [Int.toNat_of_nonneg hi.1] at this; rw [← this, has_put]; simp [hi])
    (fun j hj => by
      unfold put; rw [Int.toNat_natCast, Nat.testBit_or, only_in hi.1 hi.2, Int.toNat_natCast, Nat.testBit_two_pow]
      have : ¬ i.toNat = j := fun e => hj e.symm
      simp [this]) 64
  rw [k, if_pos (by omega)]; omega
theorem countP_le (p q : Nat → Bool) (h : ∀ j, p j = true → q j = true) (n : Nat) : (List.range n).countP p ≤ (List.range n).countP q :=
  List.countP_mono_left (fun j _ => h j)
theorem countP_eq (p q : Nat → Bool) (h : ∀ j, p j = true → q j = true) : ∀ n : Nat, (List.range n).countP p = (List.range n).countP q → ∀ j, j < n → p j = q j
  | 0, _, _, hj => absurd hj (by omega)
  | n + 1, e, j, hj => by
    rw [List.range_succ, List.countP_append, List.countP_append] at e
    have l := countP_le p q h n
    have hn := h n
    simp only [List.countP_cons, List.countP_nil, Nat.zero_add] at e
    have e2 : p n = q n := by
      cases hp : p n <;> cases hq : q n <;> simp [hp, hq] at e hn ⊢ <;> omega
    rw [e2] at e
    by_cases ej : j = n
    · subst ej; exact e2
    · exact countP_eq p q h n (by omega) j (by omega)
theorem countP_two (p q : Nat → Bool) : ∀ n : Nat, (List.range n).countP p + (List.range n).countP q = (List.range n).countP (fun i => p i || q i) + (List.range n).countP (fun i => p i && q i)
  | 0 => by simp
  | n + 1 => by
    have k := countP_two p q n
    rw [List.range_succ]
    simp only [List.countP_append, List.countP_cons, List.countP_nil, Nat.zero_add]
    cases p n <;> cases q n <;> simp <;> omega
theorem countP_below (p : Nat → Bool) (m : Nat) (h : ∀ j, p j = true → j < m) : ∀ n : Nat, (List.range n).countP p ≤ m
  | 0 => by simp
  | n + 1 => by
    by_cases hn : n + 1 ≤ m
    · exact Nat.le_trans List.countP_le_length (by simp; omega)
    · have k := countP_below p m h n
      have : p n = false := by cases hp : p n with | false => rfl | true => exact absurd (h n hp) (by omega)
      rw [List.range_succ, List.countP_append]; simp [this]; omega

/-- They meet. -/
theorem they_meet (n a b : Int) (h1 : 1 ≤ n) (h2 : n ≤ 64) (ha : maj n ≤ count (meet a (all n))) (hb : maj n ≤ count (meet b (all n))) :
    0 < count (meet (meet a (all n)) (meet b (all n))) := by
  unfold count at ha hb ⊢
  have e : ∀ i, (meet (meet a (all n)) (meet b (all n))).toNat.testBit i = ((meet a (all n)).toNat.testBit i && (meet b (all n)).toNat.testBit i) := fun i => by
    unfold meet; simp [Nat.testBit_and]
  have k := countP_two (fun i => (meet a (all n)).toNat.testBit i) (fun i => (meet b (all n)).toNat.testBit i) 64
  have hall : ∀ i, (all n).toNat.testBit i = true → i < n.toNat := fun i hi => by
    have ok : okRing n = true := by unfold okRing; simp [h1, h2]
    unfold all at hi; rw [ok] at hi; simp only [if_true, Int.toNat_natCast, Nat.testBit_two_pow_sub_one] at hi
    exact of_decide_eq_true hi
  have l := countP_below (fun i => (meet a (all n)).toNat.testBit i || (meet b (all n)).toNat.testBit i) n.toNat (fun j hj => by
    unfold meet at hj; simp only [Int.toNat_natCast, Nat.testBit_and, Bool.or_eq_true, Bool.and_eq_true] at hj
    exact hj.elim (fun h => hall j h.2) (fun h => hall j h.2)) 64
  have m : maj n = n / 2 + 1 := by unfold maj; rw [if_neg (by omega)]
  rw [m] at ha hb
  simp only [e]
  omega

theorem count_lo (x : Int) : 0 ≤ count x := by unfold count; omega
theorem count_hi (x : Int) : count x ≤ 64 := by
  unfold count
  have : (List.range 64).countP (fun i => x.toNat.testBit i) ≤ (List.range 64).length := List.countP_le_length
  simp at this; omega
theorem nodes_length (x : Int) : ((nodes x).length : Int) = count x := by
  unfold nodes count; rw [List.length_map, List.countP_eq_length_filter]
theorem count_eq {x y : Int} (h : ∀ i : Nat, i < 64 → has x (i : Int) = true → has y (i : Int) = true) (e : count x = count y) : ∀ i : Nat, i < 64 → has x (i : Int) = has y (i : Int) := by
  intro i hi
  unfold count at e
  have k := countP_eq (fun i => x.toNat.testBit i && decide (i < 64)) (fun i => y.toNat.testBit i && decide (i < 64)) (fun j hj => by
    simp only [Bool.and_eq_true, decide_eq_true_eq] at hj ⊢
    have := h j hj.2; rw [has_nat x j hj.2, has_nat y j hj.2] at this; exact ⟨this hj.1, hj.2⟩) 64 (by
      have c : ∀ z : Int, (List.range 64).countP (fun i => z.toNat.testBit i && decide (i < 64)) = (List.range 64).countP (fun i => z.toNat.testBit i) := fun z => by
        apply List.countP_congr; intro j hj; have := List.mem_range.1 hj; simp [this]
      rw [c, c]; omega) i hi
  rw [has_nat x i hi, has_nat y i hi]
  simpa [hi] using k

theorem maj_lo (n : Int) : 0 ≤ maj n := by unfold maj; split <;> omega

/-! The document's answers, by arithmetic. -/
theorem add_or (s i : Nat) (h : s.testBit i = false) : s + 2 ^ i = s ||| 2 ^ i := by
  have hq : s = 2 ^ (i + 1) * (s / 2 ^ (i + 1)) + s % 2 ^ (i + 1) := (Nat.div_add_mod s (2 ^ (i + 1))).symm
  have hr : s % 2 ^ (i + 1) < 2 ^ i := by
    rcases Nat.lt_or_ge (s % 2 ^ (i + 1)) (2 ^ i) with h' | h'
    · exact h'
    · exfalso
      have hm : s % 2 ^ (i + 1) < 2 ^ (i + 1) := Nat.mod_lt _ (Nat.two_pow_pos _)
      have ht : (s % 2 ^ (i + 1)).testBit i = true := by
        rw [Nat.testBit_eq_decide_div_mod_eq]
        have e : s % 2 ^ (i + 1) / 2 ^ i = 1 := by
          apply Nat.div_eq_of_lt_le
          · omega
          · rw [Nat.pow_succ] at hm; omega
        rw [e]; rfl
      rw [Nat.testBit_mod_two_pow] at ht
      simp [h] at ht
  have e1 : s ||| 2 ^ i = 2 ^ (i + 1) * (s / 2 ^ (i + 1)) + (s % 2 ^ (i + 1) + 2 ^ i) := by
    have l1 : s % 2 ^ (i + 1) + 2 ^ i < 2 ^ (i + 1) := by rw [Nat.pow_succ] at *; omega
    have e2 : s % 2 ^ (i + 1) + 2 ^ i = s % 2 ^ (i + 1) ||| 2 ^ i := by
      have := Nat.two_pow_add_eq_or_of_lt hr 1
      rw [Nat.mul_one] at this
      rw [Nat.add_comm, this, Nat.or_comm]
    rw [Nat.two_pow_add_eq_or_of_lt l1, e2, ← Nat.or_assoc, ← Nat.two_pow_add_eq_or_of_lt (Nat.mod_lt _ (Nat.two_pow_pos _)), ← hq]
  omega

theorem ref_has (x i : Int) (h : 0 ≤ x) (h0 : 0 ≤ i) (h1 : i < 64) : ((x / 2 ^ i.toNat).tmod 2 == 1) = has x i := by
  have e : x / 2 ^ i.toNat = ((x.toNat / 2 ^ i.toNat : Nat) : Int) := by
    rw [Int.natCast_ediv, Int.toNat_of_nonneg h]; simp
  unfold has
  rw [e, decide_eq_true ⟨h0, h1⟩, Bool.true_and, Nat.testBit_eq_decide_div_mod_eq, Int.tmod_eq_emod_of_nonneg (Int.natCast_nonneg _)]
  generalize x.toNat / 2 ^ i.toNat = k
  rw [Bool.eq_iff_iff]; simp; omega
theorem ref_put (x i : Int) (h : 0 ≤ x) (hx : x < 18446744073709551616) (h0 : 0 ≤ i) (h1 : i < 64) (hn : has x i = false) : IntKind.u64.wrap (x + IntKind.u64.wrap (2 ^ i.toNat)) = put x i := by
  have l := put_hi x i hx
  rw [only_wrap h0 h1]
  have e := add_or x.toNat i.toNat (by
    have := has_nat x i.toNat (by omega); rw [Int.toNat_of_nonneg h0] at this; rw [← this]; exact hn)
  unfold put at l ⊢
  rw [only_in h0 h1, Int.toNat_natCast] at l ⊢
  rw [IntKind.wrap_u64]; omega
theorem put_same (x i : Int) (h : 0 ≤ x) (hx : x < 18446744073709551616) (hn : has x i = true ∨ ¬ (0 ≤ i ∧ i < 64)) : put x i = x := by
  apply set_ext (put_lo _ _) (put_hi _ _ hx) h hx
  intro j hj
  rw [has_put]
  by_cases e : i = (j : Int)
  · subst e
    rcases hn with hn | hn
    · rw [hn]; simp
    · exact absurd ⟨by omega, by omega⟩ hn
  · simp [e]
theorem has_cut (x i j : Int) : has (cut x i) j = (has x j && !(decide (i = j))) := by
  unfold has cut
  rw [Int.toNat_natCast, Nat.testBit_and]
  by_cases hj : 0 ≤ j ∧ j < 64
  · rw [decide_eq_true hj]
    have hb : (18446744073709551615 - (only i).toNat).testBit j.toNat = !((only i).toNat.testBit j.toNat) := by
      have := Nat.testBit_two_pow_sub_succ (x := (only i).toNat) (n := 64) (by have := only_hi i; have := only_lo i; omega) j.toNat
      rw [show (18446744073709551615 - (only i).toNat) = 2 ^ 64 - ((only i).toNat + 1) by omega, this]
      simp; omega
    rw [hb]
    by_cases hi : 0 ≤ i ∧ i < 64
    · rw [only_in hi.1 hi.2, Int.toNat_natCast, Nat.testBit_two_pow]
      have : decide (i.toNat = j.toNat) = decide (i = j) := by rw [decide_eq_decide]; omega
      rw [this]; simp
    · rw [only_out hi]
      have : decide (i = j) = false := decide_eq_false (fun e => hi (e ▸ hj))
      rw [this]; simp
  · rw [decide_eq_false hj]; simp
theorem cut_same (x i : Int) (h : 0 ≤ x) (hx : x < 18446744073709551616) (hn : has x i = false) : cut x i = x := by
  apply set_ext (cut_lo _ _) (cut_hi _ _) h hx
  intro j hj
  rw [has_cut]
  by_cases e : i = (j : Int)
  · subst e; rw [hn]; simp
  · simp [e]
theorem ref_cut (x i : Int) (h : 0 ≤ x) (hx : x < 18446744073709551616) (h0 : 0 ≤ i) (h1 : i < 64) (hn : has x i = true) : IntKind.u64.wrap (x - IntKind.u64.wrap (2 ^ i.toNat)) = cut x i := by
  have hc : has (cut x i) i = false := by rw [has_cut]; simp
  have e := ref_put (cut x i) i (cut_lo _ _) (cut_hi _ _) h0 h1 hc
  have e2 : put (cut x i) i = x := by
    apply set_ext (put_lo _ _) (put_hi _ _ (cut_hi _ _)) h hx
    intro j hj
    rw [has_put, has_cut]
    by_cases ej : i = (j : Int)
    · subst ej; rw [hn]; simp; omega
    · simp [ej]
  rw [e2, only_wrap h0 h1, IntKind.wrap_u64] at e
  rw [only_wrap h0 h1, IntKind.wrap_u64]
  have := cut_lo x i; have := cut_hi x i
  have := only_lo i; have := only_hi i
  omega
end Go.Proofs.YtlbpeeelgpjciaaGreat.Ring

namespace Go.Proofs.YtlbpeeelgpjciaaGreat.Ring
open Go.RowKit

theorem ret_int {k : IntKind} {a b : Int} (h : a = b) : Ending.returned (.int k a) = .returned (.int k b) := by rw [h]
theorem ret_bool {a b : Bool} (h : a = b) : Ending.returned (.bool a) = .returned (.bool b) := by rw [h]






theorem right_any (n : Int) (w : World) :
    Calls Tryz.prog 68 #[.int .i64 n] w fun e w' => e = .returned (.bool (okRing n)) ∧ w = w' := by
  by_cases h : 1 ≤ n
  · go_enter Tryz.func68, Tryz.ntmps68
    go_wp2
    go_ret
    exact ⟨ret_bool (by unfold okRing; rw [Bool.eq_iff_iff]; simp; omega), rfl⟩
  · go_enter Tryz.func68, Tryz.ntmps68
    go_wp2
    go_ret
    exact ⟨ret_bool (by unfold okRing; rw [Bool.eq_iff_iff]; simp; omega), rfl⟩






end Go.Proofs.YtlbpeeelgpjciaaGreat.Ring

namespace Go.Proofs.YtlbpeeelgpjciaaGreat.Conf
open Go.RowKit Ring

theorem okRing_within (n : Int) : okRing n = within n 1 64 := rfl

theorem within_any (x lo hi : Int) (w : World) :
    Calls Tryz.prog 123 #[.int .i64 x, .int .i64 lo, .int .i64 hi] w fun e w' => e = .returned (.bool (within x lo hi)) ∧ w = w' := by
  by_cases h : lo ≤ x
  · go_enter Tryz.func123, Tryz.ntmps123
    go_wp2
    go_ret
    exact ⟨ret_bool (by unfold within; simp [h]), rfl⟩
  · go_enter Tryz.func123, Tryz.ntmps123
    go_wp2
    go_ret
    exact ⟨ret_bool (within_no (by omega)).symm, rfl⟩

theorem isRing_any (n : Int) (w : World) :
    Calls Tryz.prog 61 #[.int .i64 n] w fun e w' => e = .returned (.bool (within n 1 64)) ∧ w = w' := by
  go_enter Tryz.func61, Tryz.ntmps61
  go_wp2_with (go_at_call 123; refine (within_any _ _ _ _).mono ?_; rintro e w' ⟨rfl, rfl⟩)
  go_ret
  exact ⟨rfl, rfl⟩

theorem right_any (k : Int) (w : World) :
    Calls Tryz.prog 135 #[.int .i64 k] w fun e w' => e = .returned (.bool (within k 0 524287)) ∧ w = w' := by
  go_enter Tryz.func135, Tryz.ntmps135
  go_wp2_with (go_at_call 123; refine (within_any _ _ _ _).mono ?_; rintro e w' ⟨rfl, rfl⟩)
  go_ret
  exact ⟨rfl, rfl⟩

theorem refright_any (k : Int) (w : World) :
    Calls Tryz.prog 79 #[.int .i64 k] w fun e w' => e = .returned (.bool (within k 0 524287)) ∧ w = w' := by
  by_cases h : 0 ≤ k
  · go_enter Tryz.func79, Tryz.ntmps79
    go_wp2
    go_ret
    exact ⟨ret_bool (by unfold within; rw [Bool.eq_iff_iff]; simp; omega), rfl⟩
  · go_enter Tryz.func79, Tryz.ntmps79
    go_wp2
    go_ret
    exact ⟨ret_bool (by unfold within; rw [Bool.eq_iff_iff]; simp; omega), rfl⟩

theorem ret_pair {a b c d : Int} (h : (c, d) = (a, b)) : Ending.returned (.tuple #[.int .i64 a, .int .i64 b]) = .returned (.tuple #[.int .i64 c, .int .i64 d]) := by
  cases h; rfl





end Go.Proofs.YtlbpeeelgpjciaaGreat.Conf
