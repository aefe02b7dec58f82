/-
  Gone, and the same, plain: a key whose row is idle, looked at not farther ahead than twice the skew, is as if its row were gone. No program.
-/
import Derived.Test.YtcnnepmhdccipaaMgG
import Derived.Test.YtcnnepmhdccipaaLedgerFits
namespace Go.Proofs.Ytcnnepmhdccipaa.Ledger
open _root_.Go.Proofs.Ytcnnepmhdccipaa.Frame (Rw Tb noRow tableOk rowOk leaseAt isIn isKey allTo)
open _root_.Go.Proofs.Ytcnnepmhdccipaa.Sat (fit add sub mul add_lo add_hi fit_lo fit_hi fit_self fit_fit sum_two)

/-- The keys of a table that may be rise. -/
theorem keys_rise {t : Tb} (h : tableOk t = true) : ∀ i j, i < j → j < t.rows.length → (t.rows.getD i noRow).key < (t.rows.getD j noRow).key := by
  simp only [tableOk, Bool.and_eq_true] at h
  have h3 := h.2
  rw [allTo, List.all_eq_true] at h3
  have step : ∀ j, 0 < j → j < t.rows.length → (t.rows.getD (j - 1) noRow).key < (t.rows.getD j noRow).key := fun j h0 hj => by
    have h4 := h3 j (List.mem_range.2 hj)
    simp only [Frame.rowAt, Bool.and_eq_true, Bool.or_eq_true, beq_iff_eq, decide_eq_true_eq] at h4
    rcases h4.2 with h5 | h5
    · omega
    · exact h5
  intro i j hij hj
  induction j with
  | zero => omega
  | succ j ih =>
    have h1 := step (j + 1) (by omega) hj
    rw [Nat.add_sub_cancel] at h1
    by_cases e : i = j
    · rw [e]; exact h1
    · exact Int.lt_trans (ih (by omega) (by omega)) h1
theorem find_own {t : Tb} (h : tableOk t = true) {i : Nat} (hi : i < t.rows.length) : findRow t (t.rows.getD i noRow).key = t.rows.getD i noRow := by
  have hr := keys_rise h
  have hp : place t.rows (t.rows.getD i noRow).key = (i : Int) := by
    refine spot_at _ noRow t.rows i hi (fun j hj => ?_) (by simp)
    have := hr j i hj hi
    simp only [beq_eq_false_iff_ne]
    omega
  unfold findRow
  rw [hp, if_neg (by omega), Int.toNat_natCast]
theorem find_gone {t : Tb} (h : tableOk t = true) {i : Nat} (hi : i < t.rows.length) (now : Int) (f : Cf) (hd : idle t.start (t.rows.getD i noRow) now f = true) :
    findRow (sweep t now f) (t.rows.getD i noRow).key = ⟨(t.rows.getD i noRow).key, 0, t.start, []⟩ := by
  have hr := keys_rise h
  have hp : place (sweep t now f).rows (t.rows.getD i noRow).key = -1 := by
    refine spot_none _ noRow _ fun j hj => ?_
    have hm : (sweep t now f).rows.getD j noRow ∈ (sweep t now f).rows := by simp [List.getD, hj]
    simp only [sweep, sweepOf, List.mem_filter, Bool.not_eq_true'] at hm
    obtain ⟨hm1, hm2⟩ := hm
    simp only [beq_eq_false_iff_ne]
    intro he
    obtain ⟨k, hk, e⟩ := List.mem_iff_getElem.1 hm1
    have e2 : t.rows.getD k noRow = (sweep t now f).rows.getD j noRow := by
      rw [show t.rows.getD k noRow = t.rows[k] by simp [List.getD, hk]]; exact e
    rw [← e2] at he
    have hki : k = i := by
      rcases Nat.lt_trichotomy k i with h1 | h1 | h1
      · have := hr k i h1 hi; omega
      · exact h1
      · have := hr i k h1 hk; omega
    rw [hki] at e2
    have h4 : idle t.start ((sweep t now f).rows.getD j noRow) now f = false := hm2
    rw [← e2, hd] at h4
    cases h4
  unfold findRow
  rw [hp, if_pos (by omega)]
  rfl
theorem mul_lo (a b : Int) : 0 ≤ mul a b := by
  have h1 := fit_lo a
  have h2 := fit_lo b
  have := Int.mul_nonneg h1 h2
  unfold mul Sat.top
  split <;> omega
theorem mul_up {a b c : Int} (h : fit b ≤ fit c) : mul a b ≤ mul a c := by
  have h1 := fit_lo a
  have := Int.mul_le_mul_of_nonneg_left h h1
  unfold mul Sat.top
  split <;> split <;> omega
theorem sub_two (a b : Int) : sub a b = if fit a < fit b then 0 else fit a - fit b := by
  have a1 := fit_hi a; have b0 := fit_lo b; have b1 := fit_hi b
  unfold sub
  by_cases h : fit a < fit b
  · rw [if_pos h]; generalize fit a = x at *; generalize fit b = y at *; unfold fit; rw [if_pos (by omega)]
  · rw [if_neg h, fit_self (by omega) (by omega)]
theorem add_two (a b : Int) : add [a, b] = if 4611686018427387904 < fit a + fit b then 4611686018427387904 else fit a + fit b := by
  unfold add Sat.top; rw [sum_two]
theorem add_one {a : Int} (h0 : 0 ≤ a) (h1 : a ≤ 4611686018427387904) : add [a] = a := by
  unfold add Sat.top
  simp only [Sat.sum, Int.add_zero, fit_self h0 h1]
  split <;> omega
/-- The same. -/
theorem same_gone {t : Tb} {f : Cf} (h : fits9 t f = true) {i : Nat} (hi : i < t.rows.length) {at' now : Int} (ha : 0 ≤ at' ∧ at' ≤ 4611686018427387904) (hn : 0 ≤ now ∧ now ≤ 4611686018427387904) (hb : at' - 2 * f.skew ≤ now)
    (hd : idle t.start (t.rows.getD i noRow) at' f = true) :
    look t (t.rows.getD i noRow).key now (f.rates.getD (rateAt f.rates (t.rows.getD i noRow).key).toNat (0, 0)).1 (f.rates.getD (rateAt f.rates (t.rows.getD i noRow).key).toNat (0, 0)).2 =
      look (sweep t at' f) (t.rows.getD i noRow).key now (f.rates.getD (rateAt f.rates (t.rows.getD i noRow).key).toNat (0, 0)).1 (f.rates.getD (rateAt f.rates (t.rows.getD i noRow).key).toNat (0, 0)).2 := by
  obtain ⟨ht, -, -, -, hrt, hs0, hs1⟩ := fits_yes h
  have hgone := find_gone ht hi at' f hd
  have hown := find_own ht hi
  have hm : t.rows.getD i noRow ∈ t.rows := by simp [List.getD, hi]
  have hB := base_first ht
  have hmark : t.start ≤ (t.rows.getD i noRow).mark := by
    simp only [tableOk, Bool.and_eq_true] at ht
    have h3 := ht.2
    rw [allTo, List.all_eq_true] at h3
    have h4 := h3 i (List.mem_range.2 hi)
    simp only [Frame.rowAt, Bool.and_eq_true, rowOk] at h4
    exact (is_in h4.1.1.1.2).1
  unfold look
  rw [hown, hgone]
  have hst0 := hB.lo
  have hst1 := hB.hi
  generalize t.rows.getD i noRow = r at *
  unfold idle at hd
  simp only [Bool.and_eq_true, decide_eq_true_eq] at hd
  obtain ⟨⟨⟨⟨hk, hmk⟩, hout⟩, hav⟩, hmul⟩ := hd
  obtain ⟨k, hke, hkl⟩ := rateAt_lt f.rates r.key hk
  rw [hke, Int.toNat_natCast] at hav hmul ⊢
  have hin : f.rates.getD k (0, 0) ∈ f.rates := by simp [List.getD, hkl]
  obtain ⟨⟨hR0, hR1⟩, hB0, hB1⟩ := hrt _ hin
  generalize (f.rates.getD k (0, 0)).1 = R at *
  generalize (f.rates.getD k (0, 0)).2 = B at *
  have hmn : r.mark ≤ now := by
    have e2 : add [f.skew, f.skew] = f.skew + f.skew := by rw [add_two, fit_self hs0 (by omega), if_neg (by omega)]
    rw [e2, sub_two, fit_self (x := at') ha.1 ha.2, fit_self (x := f.skew + f.skew) (by omega) (by omega)] at hmk
    split at hmk <;> omega
  obtain ⟨rk, ra, rm, ro⟩ := r
  simp only at hav hmn hmark hmul hout ⊢
  obtain rfl : ro = [] := List.eq_nil_of_length_eq_zero hout
  subst hav
  have t1 : total ⟨rk, ra, rm, []⟩ = ra := by simp only [total, List.map_nil]; exact add_one hB0 (by omega)
  have t2 : total ⟨rk, 0, t.start, []⟩ = 0 := by simp only [total, List.map_nil]; exact add_one (Int.le_refl _) (by omega)
  have fB := fit_self hB0 (show ra ≤ 4611686018427387904 by omega)
  have f0 : fit 0 = 0 := fit_self (Int.le_refl _) (by omega)
  have s1 : sub ra ra = 0 := by rw [sub_two, fB, if_neg (by omega)]; omega
  have s2 : sub ra 0 = ra := by rw [sub_two, fB, f0, if_neg (by omega)]; omega
  have m0 := mul_lo R (sub now rm)
  have m1 : mul R (sub rm t.start) ≤ mul R (sub now t.start) := mul_up (by
    rw [sub_two, sub_two, fit_self (x := rm) (by omega) (by omega), fit_self (x := now) (by omega) (by omega), fit_self (x := t.start) (by omega) (by omega), if_neg (by omega), if_neg (by omega), fit_self (by omega) (by omega), fit_self (by omega) (by omega)]
    omega)
  have e1 : min (mul R (sub now rm)) 0 = 0 := by omega
  have e2 : min (mul R (sub now t.start)) ra = ra := by omega
  have x1 : max rm now = now := by omega
  have x2 : max t.start now = now := by omega
  have a1 : add [ra, 0] = ra := by rw [add_two, fB, f0, if_neg (by omega)]; omega
  have a2 : add [0, ra] = ra := by rw [add_two, fB, f0, if_neg (by omega)]; omega
  simp only [minted, t1, t2, s1, s2, e1, e2, x1, x2, a1, a2]
end Go.Proofs.Ytcnnepmhdccipaa.Ledger
