/-
  Sets of nodes as plain functions on whole numbers (only, has, put, cut, all, count, nodes, next, maj), and what they have to do with one another; no program is named. Conditions: a set is from 0 to 2^64 less 1.
-/
import Derived.WalkKit
namespace Go.Proofs.Ythehbphpchmdiaa.Ring

/-- Is a node in a set? -/
def has (x i : Int) : Bool := decide (0 ≤ i ∧ i < 64) && x.toNat.testBit i.toNat
/-- The set of one node; none, if there is no such node. -/
def only (i : Int) : Int := if 0 ≤ i ∧ i < 64 then ((2 ^ i.toNat : Nat) : Int) else 0
/-- A set with a node. -/
def put (x i : Int) : Int := ((x.toNat ||| (only i).toNat : Nat) : Int)
/-- A set without a node. -/
def cut (x i : Int) : Int := ((x.toNat &&& (18446744073709551615 - (only i).toNat) : Nat) : Int)
/-- What two sets have in common. -/
def meet (x y : Int) : Int := ((x.toNat &&& y.toNat : Nat) : Int)
def okRing (n : Int) : Bool := decide (1 ≤ n) && decide (n ≤ 64)
/-- The nodes of a ring of n. -/
def all (n : Int) : Int := if okRing n then ((2 ^ n.toNat - 1 : Nat) : Int) else 0
/-- How many a set has. -/
def count (x : Int) : Int := ((List.range 64).countP (fun i => x.toNat.testBit i) : Nat)
/-- Its nodes, rising. -/
def nodes (x : Int) : List Int := ((List.range 64).filter (fun i => x.toNat.testBit i)).map (fun i : Nat => (i : Int))
/-- The nodes that come behind i on a ring of n, once round. -/
def behind (n i : Int) : List Int := (List.range (n.toNat - 1)).map (fun k : Nat => (i + ((k : Int) + 1)) % n)
/-- Who comes next. -/
def next (x n i : Int) : Int := if okRing n && (decide (0 ≤ i) && decide (i < n)) then ((behind n i).find? (fun j => has x j)).getD i else -1
def maj (n : Int) : Int := if n < 1 then 0 else n / 2 + 1

theorem pow_lt {i : Int} (h1 : i < 64) : 2 ^ i.toNat < 18446744073709551616 :=
  Nat.lt_of_lt_of_le (Nat.pow_lt_pow_right (by decide) (by omega : i.toNat < 64)) (by decide)

theorem only_lo (i : Int) : 0 ≤ only i := by
  unfold only; split
  · exact Int.natCast_nonneg _
  · omega
theorem only_hi (i : Int) : only i < 18446744073709551616 := by
  unfold only; split
  · rename_i h; have := pow_lt h.2; generalize 2 ^ i.toNat = k at this; omega
  · omega
theorem only_in {i : Int} (h0 : 0 ≤ i) (h1 : i < 64) : only i = ((2 ^ i.toNat : Nat) : Int) := by unfold only; rw [if_pos ⟨h0, h1⟩]
theorem only_out {i : Int} (h : ¬ (0 ≤ i ∧ i < 64)) : only i = 0 := by unfold only; rw [if_neg h]
theorem only_wrap {i : Int} (h0 : 0 ≤ i) (h1 : i < 64) : IntKind.u64.wrap ((2 : Int) ^ i.toNat) = only i := by
  rw [only_in h0 h1, IntKind.wrap_u64]
  have h := pow_lt h1
  have e : ((2 : Int) ^ i.toNat) = ((2 ^ i.toNat : Nat) : Int) := by simp
  rw [e]
  generalize 2 ^ i.toNat = k at h
  omega

theorem put_lo (x i : Int) : 0 ≤ put x i := by unfold put; omega
theorem put_hi (x i : Int) (h1 : x < 18446744073709551616) : put x i < 18446744073709551616 := by
  unfold put
  have a := only_lo i; have b := only_hi i
  have : x.toNat ||| (only i).toNat < 2 ^ 64 := Nat.or_lt_two_pow (by omega) (by omega)
  omega
theorem cut_lo (x i : Int) : 0 ≤ cut x i := by unfold cut; omega
theorem cut_hi (x i : Int) : cut x i < 18446744073709551616 := by
  unfold cut
  have : x.toNat &&& (18446744073709551615 - (only i).toNat) < 2 ^ 64 := Nat.and_lt_two_pow _ (by omega)
  omega
theorem meet_lo (x y : Int) : 0 ≤ meet x y := by unfold meet; omega
theorem meet_hi (x y : Int) (h1 : y < 18446744073709551616) : meet x y < 18446744073709551616 := by
  unfold meet
  have : x.toNat &&& y.toNat < 2 ^ 64 := Nat.and_lt_two_pow _ (by omega)
  omega
theorem all_lo (n : Int) : 0 ≤ all n := by unfold all; split <;> omega
theorem all_hi (n : Int) : all n < 18446744073709551616 := by
  unfold all; split
  · rename_i h; unfold okRing at h; simp at h
    have : 2 ^ n.toNat ≤ 2 ^ 64 := Nat.pow_le_pow_right (by decide) (by omega)
    omega
  · omega

theorem and_has (x i : Int) (h0 : 0 ≤ x) (h1 : x < 18446744073709551616) : (bits .and .u64 x (only i) != 0) = has x i := by
  rw [u64_and x (only i) h0 h1 (only_lo i) (only_hi i)]
  unfold has
  by_cases h : 0 ≤ i ∧ i < 64
  · rw [only_in h.1 h.2, Int.toNat_natCast, nat_bit, decide_eq_true h, Bool.true_and, Nat.testBit_eq_decide_div_mod_eq]
    have hp := Nat.two_pow_pos i.toNat
    rcases Nat.mod_two_eq_zero_or_one (x.toNat / 2 ^ i.toNat) with e | e
    · rw [e]; simp
    · rw [e, Nat.one_mul]
      generalize 2 ^ i.toNat = k at hp
      rw [Bool.eq_iff_iff]; simp; omega
  · rw [only_out h, decide_eq_false h]; simp
theorem or_put (x i : Int) (h0 : 0 ≤ x) (h1 : x < 18446744073709551616) : bits .or .u64 x (only i) = put x i :=
  u64_or x (only i) h0 h1 (only_lo i) (only_hi i)
theorem andNot_cut (x i : Int) (h0 : 0 ≤ x) (h1 : x < 18446744073709551616) : bits .andNot .u64 x (only i) = cut x i :=
  u64_andNot x (only i) h0 h1 (only_lo i) (only_hi i)
theorem and_meet (x y : Int) (h0 : 0 ≤ x) (h1 : x < 18446744073709551616) (g0 : 0 ≤ y) (g1 : y < 18446744073709551616) : bits .and .u64 x y = meet x y :=
  u64_and x y h0 h1 g0 g1

theorem all_shift_nat : ∀ n : Fin 65, 18446744073709551615 / 2 ^ (64 - n.val) = 2 ^ n.val - 1 := by decide +kernel
theorem all_shift (n : Int) (h0 : 1 ≤ n) (h1 : n ≤ 64) : (18446744073709551615 : Int) / 2 ^ (64 - n).toNat = all n := by
  have h := all_shift_nat ⟨n.toNat, by omega⟩
  have e : (64 - n).toNat = 64 - n.toNat := by omega
  unfold all okRing
  simp only [h0, h1, decide_true, Bool.and_self, if_true]
  rw [← h, e]; simp

/-- The bits of a set. -/
theorem has_nat (x : Int) (i : Nat) (h : i < 64) : has x (i : Int) = x.toNat.testBit i := by
  unfold has; rw [decide_eq_true (by omega)]; simp
theorem high {x : Int} (h1 : x < 18446744073709551616) {i : Nat} (h : 64 ≤ i) : x.toNat.testBit i = false := by
  apply Nat.testBit_lt_two_pow
  exact Nat.lt_of_lt_of_le (by omega : x.toNat < 2 ^ 64) (Nat.pow_le_pow_right (by decide) h)
theorem set_ext {x y : Int} (h0 : 0 ≤ x) (h1 : x < 18446744073709551616) (g0 : 0 ≤ y) (g1 : y < 18446744073709551616) (h : ∀ i : Nat, i < 64 → has x (i : Int) = has y (i : Int)) : x = y := by
  have : x.toNat = y.toNat := by
    apply Nat.eq_of_testBit_eq
    intro i
    by_cases hi : i < 64
    · have := h i hi; rwa [has_nat x i hi, has_nat y i hi] at this
    · rw [high h1 (by omega), high g1 (by omega)]
  omega
theorem has_put (x i j : Int) : has (put x i) j = (has x j || (decide (i = j) && decide (0 ≤ j ∧ j < 64))) := by
  unfold has put
  rw [Int.toNat_natCast, Nat.testBit_or]
  by_cases hj : 0 ≤ j ∧ j < 64
  · rw [decide_eq_true hj]
    by_cases hi : 0 ≤ i ∧ i < 64
    · rw [only_in hi.1 hi.2, Int.toNat_natCast, Nat.testBit_two_pow]
      have : decide (i.toNat = j.toNat) = decide (i = j) := by rw [decide_eq_decide]; omega
      rw [this]; simp
    · rw [only_out hi]
      have : decide (i = j) = false := decide_eq_false (fun e => hi (e ▸ hj))
      rw [this]; simp
  · rw [decide_eq_false hj]; simp
theorem has_meet (x y j : Int) : has (meet x y) j = (has x j && has y j) := by
  unfold has meet
  rw [Int.toNat_natCast, Nat.testBit_and]
  cases decide (0 ≤ j ∧ j < 64) <;> simp
theorem has_all (n j : Int) : has (all n) j = (okRing n && (decide (0 ≤ j) && decide (j < n))) := by
  unfold has all okRing
  by_cases h : 1 ≤ n ∧ n ≤ 64
  · simp only [h.1, h.2, decide_true, Bool.and_self, if_true, Int.toNat_natCast, Nat.testBit_two_pow_sub_one, Bool.true_and]
    rw [Bool.eq_iff_iff]; simp; omega
  · have : (decide (1 ≤ n) && decide (n ≤ 64)) = false := by
      rw [Bool.eq_false_iff]; simp; omega
    rw [this]; simp
theorem has_zero (j : Int) : has 0 j = false := by unfold has; simp

/-- A node more: how many there are. -/
theorem countP_more (p q : Nat → Bool) (i : Nat) (hp : p i = false) (hq : q i = true) (hr : ∀ j, j ≠ i → p j = q j) : ∀ n : Nat, (List.range n).countP q = (List.range n).countP p + (if i < n then 1 else 0)
  | 0 => by simp
  | n + 1 => by
    rw [List.range_succ, List.countP_append, List.countP_append, countP_more p q i hp hq hr n]
    by_cases e : n = i
    · subst e; simp [hp, hq]
    · have := hr n e
      by_cases hn : i < n
      · simp [List.countP_cons, this, hn, Nat.lt_succ_of_lt hn]; omega
      · have : ¬ i < n + 1 := by omega
        simp [List.countP_cons, hr n e, hn, this]
theorem count_put (x i : Int) (hi : 0 ≤ i ∧ i < 64) (h : has x i = false) : count (put x i) = count x + 1 := by
  unfold count
  have k := countP_more (fun j => x.toNat.testBit j) (fun j => (put x i).toNat.testBit j) i.toNat
    (by have := has_nat x i.toNat (by omega); rw [Int.toNat_of_nonneg hi.1] at this; rw [← this]; exact h)
    (by have := has_nat (put x i) i.toNat (by omega); rw [Int.toNat_of_nonneg hi.1] at this; rw [← this, has_put]; simp [hi])
    (fun j hj => by
      unfold put; rw [Int.toNat_natCast, Nat.testBit_or, only_in hi.1 hi.2, Int.toNat_natCast, Nat.testBit_two_pow]
      have : ¬ i.toNat = j := fun e => hj e.symm
      simp [this]) 64
  rw [k, if_pos (by omega)]; omega
theorem countP_le (p q : Nat → Bool) (h : ∀ j, p j = true → q j = true) (n : Nat) : (List.range n).countP p ≤ (List.range n).countP q :=
  List.countP_mono_left (fun j _ => h j)
theorem countP_eq (p q : Nat → Bool) (h : ∀ j, p j = true → q j = true) : ∀ n : Nat, (List.range n).countP p = (List.range n).countP q → ∀ j, j < n → p j = q j
  | 0, _, _, hj => absurd hj (by omega)
  | n + 1, e, j, hj => by
    rw [List.range_succ, List.countP_append, List.countP_append] at e
    have l := countP_le p q h n
    have hn := h n
    simp only [List.countP_cons, List.countP_nil, Nat.zero_add] at e
    have e2 : p n = q n := by
      cases hp : p n <;> cases hq : q n <;> simp [hp, hq] at e hn ⊢ <;> omega
    rw [e2] at e
    by_cases ej : j = n
    · subst ej; exact e2
    · exact countP_eq p q h n (by omega) j (by omega)
theorem countP_two (p q : Nat → Bool) : ∀ n : Nat, (List.range n).countP p + (List.range n).countP q = (List.range n).countP (fun i => p i || q i) + (List.range n).countP (fun i => p i && q i)
  | 0 => by simp
  | n + 1 => by
    have k := countP_two p q n
    rw [List.range_succ]
    simp only [List.countP_append, List.countP_cons, List.countP_nil, Nat.zero_add]
    cases p n <;> cases q n <;> simp <;> omega
theorem countP_below (p : Nat → Bool) (m : Nat) (h : ∀ j, p j = true → j < m) : ∀ n : Nat, (List.range n).countP p ≤ m
  | 0 => by simp
  | n + 1 => by
    by_cases hn : n + 1 ≤ m
    · exact Nat.le_trans List.countP_le_length (by simp; omega)
    · have k := countP_below p m h n
      have : p n = false := by cases hp : p n with | false => rfl | true => exact absurd (h n hp) (by omega)
      rw [List.range_succ, List.countP_append]; simp [this]; omega

/-- They meet. -/
theorem they_meet (n a b : Int) (h1 : 1 ≤ n) (h2 : n ≤ 64) (ha : maj n ≤ count (meet a (all n))) (hb : maj n ≤ count (meet b (all n))) :
    0 < count (meet (meet a (all n)) (meet b (all n))) := by
  unfold count at ha hb ⊢
  have e : ∀ i, (meet (meet a (all n)) (meet b (all n))).toNat.testBit i = ((meet a (all n)).toNat.testBit i && (meet b (all n)).toNat.testBit i) := fun i => by
    unfold meet; simp [Nat.testBit_and]
  have k := countP_two (fun i => (meet a (all n)).toNat.testBit i) (fun i => (meet b (all n)).toNat.testBit i) 64
  have hall : ∀ i, (all n).toNat.testBit i = true → i < n.toNat := fun i hi => by
    have ok : okRing n = true := by unfold okRing; simp [h1, h2]
    unfold all at hi; rw [ok] at hi; simp only [if_true, Int.toNat_natCast, Nat.testBit_two_pow_sub_one] at hi
    exact of_decide_eq_true hi
  have l := countP_below (fun i => (meet a (all n)).toNat.testBit i || (meet b (all n)).toNat.testBit i) n.toNat (fun j hj => by
    unfold meet at hj; simp only [Int.toNat_natCast, Nat.testBit_and, Bool.or_eq_true, Bool.and_eq_true] at hj
    exact hj.elim (fun h => hall j h.2) (fun h => hall j h.2)) 64
  have m : maj n = n / 2 + 1 := by unfold maj; rw [if_neg (by omega)]
  rw [m] at ha hb
  simp only [e]
  omega

theorem count_lo (x : Int) : 0 ≤ count x := by unfold count; omega
theorem count_hi (x : Int) : count x ≤ 64 := by
  unfold count
  have : (List.range 64).countP (fun i => x.toNat.testBit i) ≤ (List.range 64).length := List.countP_le_length
  simp at this; omega
theorem nodes_length (x : Int) : ((nodes x).length : Int) = count x := by
  unfold nodes count; rw [List.length_map, List.countP_eq_length_filter]
theorem count_eq {x y : Int} (h : ∀ i : Nat, i < 64 → has x (i : Int) = true → has y (i : Int) = true) (e : count x = count y) : ∀ i : Nat, i < 64 → has x (i : Int) = has y (i : Int) := by
  intro i hi
  unfold count at e
  have k := countP_eq (fun i => x.toNat.testBit i && decide (i < 64)) (fun i => y.toNat.testBit i && decide (i < 64)) (fun j hj => by
    simp only [Bool.and_eq_true, decide_eq_true_eq] at hj ⊢
    have := h j hj.2; rw [has_nat x j hj.2, has_nat y j hj.2] at this; exact ⟨this hj.1, hj.2⟩) 64 (by
      have c : ∀ z : Int, (List.range 64).countP (fun i => z.toNat.testBit i && decide (i < 64)) = (List.range 64).countP (fun i => z.toNat.testBit i) := fun z => by
        apply List.countP_congr; intro j hj; have := List.mem_range.1 hj; simp [this]
      rw [c, c]; omega) i hi
  rw [has_nat x i hi, has_nat y i hi]
  simpa [hi] using k

theorem maj_lo (n : Int) : 0 ≤ maj n := by unfold maj; split <;> omega

/-! The document's answers, by arithmetic. -/
theorem add_or (s i : Nat) (h : s.testBit i = false) : s + 2 ^ i = s ||| 2 ^ i := by
  have hq : s = 2 ^ (i + 1) * (s / 2 ^ (i + 1)) + s % 2 ^ (i + 1) := (Nat.div_add_mod s (2 ^ (i + 1))).symm
  have hr : s % 2 ^ (i + 1) < 2 ^ i := by
    rcases Nat.lt_or_ge (s % 2 ^ (i + 1)) (2 ^ i) with h' | h'
    · exact h'
    · exfalso
      have hm : s % 2 ^ (i + 1) < 2 ^ (i + 1) := Nat.mod_lt _ (Nat.two_pow_pos _)
      have ht : (s % 2 ^ (i + 1)).testBit i = true := by
        rw [Nat.testBit_eq_decide_div_mod_eq]
        have e : s % 2 ^ (i + 1) / 2 ^ i = 1 := by
          apply Nat.div_eq_of_lt_le
          · omega
          · rw [Nat.pow_succ] at hm; omega
        rw [e]; rfl
      rw [Nat.testBit_mod_two_pow] at ht
      simp [h] at ht
  have e1 : s ||| 2 ^ i = 2 ^ (i + 1) * (s / 2 ^ (i + 1)) + (s % 2 ^ (i + 1) + 2 ^ i) := by
    have l1 : s % 2 ^ (i + 1) + 2 ^ i < 2 ^ (i + 1) := by rw [Nat.pow_succ] at *; omega
    have e2 : s % 2 ^ (i + 1) + 2 ^ i = s % 2 ^ (i + 1) ||| 2 ^ i := by
      have := Nat.two_pow_add_eq_or_of_lt hr 1
      rw [Nat.mul_one] at this
      rw [Nat.add_comm, this, Nat.or_comm]
    rw [Nat.two_pow_add_eq_or_of_lt l1, e2, ← Nat.or_assoc, ← Nat.two_pow_add_eq_or_of_lt (Nat.mod_lt _ (Nat.two_pow_pos _)), ← hq]
  omega

theorem ref_has (x i : Int) (h : 0 ≤ x) (h0 : 0 ≤ i) (h1 : i < 64) : ((x / 2 ^ i.toNat).tmod 2 == 1) = has x i := by
  have e : x / 2 ^ i.toNat = ((x.toNat / 2 ^ i.toNat : Nat) : Int) := by
    rw [Int.natCast_ediv, Int.toNat_of_nonneg h]; simp
  unfold has
  rw [e, decide_eq_true ⟨h0, h1⟩, Bool.true_and, Nat.testBit_eq_decide_div_mod_eq, Int.tmod_eq_emod_of_nonneg (Int.natCast_nonneg _)]
  generalize x.toNat / 2 ^ i.toNat = k
  rw [Bool.eq_iff_iff]; simp; omega
theorem ref_put (x i : Int) (h : 0 ≤ x) (hx : x < 18446744073709551616) (h0 : 0 ≤ i) (h1 : i < 64) (hn : has x i = false) : IntKind.u64.wrap (x + IntKind.u64.wrap (2 ^ i.toNat)) = put x i := by
  have l := put_hi x i hx
  rw [only_wrap h0 h1]
  have e := add_or x.toNat i.toNat (by
    have := has_nat x i.toNat (by omega); rw [Int.toNat_of_nonneg h0] at this; rw [← this]; exact hn)
  unfold put at l ⊢
  rw [only_in h0 h1, Int.toNat_natCast] at l ⊢
  rw [IntKind.wrap_u64]; omega
theorem put_same (x i : Int) (h : 0 ≤ x) (hx : x < 18446744073709551616) (hn : has x i = true ∨ ¬ (0 ≤ i ∧ i < 64)) : put x i = x := by
  apply set_ext (put_lo _ _) (put_hi _ _ hx) h hx
  intro j hj
  rw [has_put]
  by_cases e : i = (j : Int)
  · subst e
    rcases hn with hn | hn
    · rw [hn]; simp
    · exact absurd ⟨by omega, by omega⟩ hn
  · simp [e]
theorem has_cut (x i j : Int) : has (cut x i) j = (has x j && !(decide (i = j))) := by
  unfold has cut
  rw [Int.toNat_natCast, Nat.testBit_and]
  by_cases hj : 0 ≤ j ∧ j < 64
  · rw [decide_eq_true hj]
    have hb : (18446744073709551615 - (only i).toNat).testBit j.toNat = !((only i).toNat.testBit j.toNat) := by
      have := Nat.testBit_two_pow_sub_succ (x := (only i).toNat) (n := 64) (by have := only_hi i; have := only_lo i; omega) j.toNat
      rw [show (18446744073709551615 - (only i).toNat) = 2 ^ 64 - ((only i).toNat + 1) by omega, this]
      simp; omega
    rw [hb]
    by_cases hi : 0 ≤ i ∧ i < 64
    · rw [only_in hi.1 hi.2, Int.toNat_natCast, Nat.testBit_two_pow]
      have : decide (i.toNat = j.toNat) = decide (i = j) := by rw [decide_eq_decide]; omega
      rw [this]; simp
    · rw [only_out hi]
      have : decide (i = j) = false := decide_eq_false (fun e => hi (e ▸ hj))
      rw [this]; simp
  · rw [decide_eq_false hj]; simp
theorem cut_same (x i : Int) (h : 0 ≤ x) (hx : x < 18446744073709551616) (hn : has x i = false) : cut x i = x := by
  apply set_ext (cut_lo _ _) (cut_hi _ _) h hx
  intro j hj
  rw [has_cut]
  by_cases e : i = (j : Int)
  · subst e; rw [hn]; simp
  · simp [e]
theorem ref_cut (x i : Int) (h : 0 ≤ x) (hx : x < 18446744073709551616) (h0 : 0 ≤ i) (h1 : i < 64) (hn : has x i = true) : IntKind.u64.wrap (x - IntKind.u64.wrap (2 ^ i.toNat)) = cut x i := by
  have hc : has (cut x i) i = false := by rw [has_cut]; simp
  have e := ref_put (cut x i) i (cut_lo _ _) (cut_hi _ _) h0 h1 hc
  have e2 : put (cut x i) i = x := by
    apply set_ext (put_lo _ _) (put_hi _ _ (cut_hi _ _)) h hx
    intro j hj
    rw [has_put, has_cut]
    by_cases ej : i = (j : Int)
    · subst ej; rw [hn]; simp; omega
    · simp [ej]
  rw [e2, only_wrap h0 h1, IntKind.wrap_u64] at e
  rw [only_wrap h0 h1, IntKind.wrap_u64]
  have := cut_lo x i; have := cut_hi x i
  have := only_lo i; have := only_hi i
  omega
end Go.Proofs.Ythehbphpchmdiaa.Ring
