/-
  The budget, plain: of acts of one key, on a table that begins without credit: what a row has in total, and what was settled as spent, behind each act is not more than what it had in total ahead of it, and R times how far its Mark has gone. No program.
-/
import Derived.Test.YtcnnepmhdccipaaMgG
import Derived.Test.YtcnnepmhdccipaaLedgerIdlePlain
namespace Go.Proofs.Ytcnnepmhdccipaa.Ledger
open _root_.Go.Proofs.Ytcnnepmhdccipaa.Frame (Rw Tb noRow tableOk)
open _root_.Go.Proofs.Ytcnnepmhdccipaa.Sat (fit add sub mul add_lo add_hi fit_lo fit_hi fit_self fit_fit sum_two)

/-- All amounts. -/
def outs : List (Int × Int) → Int
  | [] => 0
  | x :: l => x.2 + outs l
theorem outs_append (a b : List (Int × Int)) : outs (a ++ b) = outs a + outs b := by
  induction a with
  | nil => simp [outs]
  | cons x a ih => simp only [List.cons_append, outs, ih]; omega
theorem outs_lo {l : List (Int × Int)} (h : ∀ x ∈ l, 1 ≤ x.2) : 0 ≤ outs l := by
  induction l with
  | nil => exact Int.le_refl _
  | cons x l ih =>
    have h1 := h x List.mem_cons_self
    have h2 := ih fun y hy => h y (List.mem_cons_of_mem _ hy)
    simp only [outs]; omega
theorem sum_outs {l : List (Int × Int)} (h : ∀ x ∈ l, 1 ≤ x.2 ∧ x.2 ≤ 2147483648) : Sat.sum (l.map (·.2)) = outs l := by
  induction l with
  | nil => rfl
  | cons x l ih =>
    have h1 := h x List.mem_cons_self
    simp only [List.map_cons, Sat.sum, outs, ih fun y hy => h y (List.mem_cons_of_mem _ hy), fit_self (show 0 ≤ x.2 by omega) (by omega)]
/-- A row's total, where it does not run over. -/
theorem total_outs {m : Nat} {r : Rw} (h : RowB m r) (hs : r.avail + outs r.out ≤ 4611686018427387904) : total r = r.avail + outs r.out := by
  have h1 := sum_outs fun x hx => (h.out x hx).2
  simp only [total, add, Sat.sum, h1, fit_self h.lo h.hi]
  rw [if_neg]
  unfold Sat.top
  omega
theorem outs_erase {l : List (Int × Int)} {i : Nat} (hi : i < l.length) : outs (l.eraseIdx i) + (l.getD i (0, 0)).2 = outs l := by
  induction l generalizing i with
  | nil => simp at hi
  | cons x l ih =>
    cases i with
    | zero => simp [outs]; omega
    | succ i =>
      have := ih (show i < l.length by simpa using hi)
      simp only [List.eraseIdx_cons_succ, outs, List.getD_cons_succ]
      omega
theorem outs_leaseTo (x : Int × Int) : ∀ (l : List (Int × Int)) (s : List (Int × Int) × Bool), outs (l.foldl (leaseStep x) s).1 + (if (l.foldl (leaseStep x) s).2 = true then 0 else x.2) = outs s.1 + (if s.2 = true then 0 else x.2) + outs l
  | [], (a, b) => by cases b <;> simp [outs]
  | y :: l, (a, b) => by
    rw [List.foldl_cons, outs_leaseTo x l]
    cases b <;> by_cases h : x.1 < y.1 <;> simp [leaseStep, h, outs_append, outs] <;> omega
theorem outs_with (l : List (Int × Int)) (x : Int × Int) : outs (withLease l x) = outs l + x.2 := by
  have h := outs_leaseTo x l ([], false)
  unfold withLease leaseTo
  split
  · rename_i e
    rw [if_pos e] at h
    simp only [outs] at h
    simp at h
    omega
  · rename_i e
    rw [if_neg e] at h
    simp only [outs] at h
    simp at h
    rw [outs_append]
    simp only [outs]
    omega

/-- A table of one key. -/
structure One (start B : Int) (n : Nat) (t : Tb) : Prop where
  base : Base n t
  st : t.start = start
  rows : t.rows = [] ∨ ∃ r, t.rows = [r] ∧ r.key = 7
  tot : (findRow t 7).avail + outs (findRow t 7).out ≤ B
  lo : start ≤ (findRow t 7).mark
  hi : (findRow t 7).mark ≤ 2147483648
theorem set_one {t : Tb} {r : Rw} (hk : r.key = 7) (h : t.rows = [] ∨ ∃ r, t.rows = [r] ∧ r.key = 7) : setRow t r = ⟨t.start, [r]⟩ := by
  rcases h with h | ⟨q, h, hq⟩ <;> simp [setRow, setRows, setTo, setStep, *]
theorem find_one (s : Int) {r : Rw} (hk : r.key = 7) : findRow ⟨s, [r]⟩ 7 = r := by
  simp [findRow, place, spot, hk]
theorem find_key {start B : Int} {n : Nat} {t : Tb} (h : One start B n t) : (findRow t 7).key = 7 := by
  rcases h.rows with e | ⟨r, e, hk⟩
  · simp [findRow, place, spot, e]
  · simp [findRow, place, spot, e, hk]
/-- The configuration of LedgerBudget. -/
def cfB (R B : Int) : Cf := ⟨0, 0, 0, 0, 0, 0, 16, 0, [(R, B)]⟩
theorem num7 : Num 7 := by unfold Num; omega

/-- What is kept behind an act. -/
def Kept (R : Int) (r r' : Rw) (s : Int) : Prop := total r' + s ≤ total r + R * (r'.mark - r.mark) ∧ 0 ≤ s ∧ s ≤ 2147483648 ∧ r.mark ≤ r'.mark
theorem one_row {start B : Int} (_ : 0 ≤ B) (_ : B ≤ 2147483648) {n : Nat} {t : Tb} (h : One start B n t) {r' : Rw} (hb : RowB (64 + n + 1) r') (hk : r'.key = 7) (htot : r'.avail + outs r'.out ≤ B) (hlo : (findRow t 7).mark ≤ r'.mark) (hhi : r'.mark ≤ 2147483648) :
    One start B (n + 1) (setRow t r') ∧ findRow (setRow t r') 7 = r' := by
  have hset := set_one hk h.rows
  have hf : findRow (setRow t r') 7 = r' := by rw [hset]; exact find_one _ hk
  refine ⟨⟨base_set h.base hb, h.st, .inr ⟨r', by rw [hset], hk⟩, ?_, ?_, ?_⟩, hf⟩
  · rw [hf]; exact htot
  · rw [hf]; have := h.lo; omega
  · rw [hf]; exact hhi
theorem one_stay {start B : Int} {n : Nat} {t : Tb} (h : One start B n t) : One start B (n + 1) t := ⟨h.base.more, h.st, h.rows, h.tot, h.lo, h.hi⟩
theorem kept_stay {R : Int} {r : Rw} : Kept R r r 0 := ⟨by simp, Int.le_refl _, by omega, Int.le_refl _⟩
theorem one_total {start B : Int} (hB1 : B ≤ 2147483648) {n : Nat} {t : Tb} (h : One start B n t) : total (findRow t 7) = (findRow t 7).avail + outs (findRow t 7).out :=
  total_outs (base_find h.base num7) (by have := h.tot; omega)
/-- To mint. -/
theorem one_mint {start R B : Int} (hs : 0 ≤ start) (hR0 : 0 ≤ R) (hR1 : R ≤ 2147483648) (hB0 : 0 ≤ B) (hB1 : B ≤ 2147483648) {n : Nat} {t : Tb} (h : One start B n t) {now : Int} (h0 : 0 ≤ now) (h1 : now ≤ 2147483648) :
    One start B (n + 1) (mint t 7 now (cfB R B)).1 ∧ Kept R (findRow t 7) (findRow (mint t 7 now (cfB R B)).1 7) 0 := by
  have e0 : rateAt [(R, B)] 7 = 0 := by simp [rateAt]
  have hlen : t.rows.length ≤ 1 := by rcases h.rows with e | ⟨r, e, -⟩ <;> simp [e]
  have e1 : mint t 7 now (cfB R B) = (setRow t (look t 7 now R B), 0) := by
    unfold mint
    simp only [cfB, rateOf, e0]
    rw [if_neg (by omega), if_pos (.inr (by omega))]
    simp
  rw [e1]
  have hbf := base_find h.base num7
  have hsum := outs_lo fun x hx => (hbf.out x hx).2.1
  have htt := one_total hB1 h
  have hlo := hbf.lo
  have htot := h.tot
  have hmlo := h.lo
  have hmhi := h.hi
  have hl : look t 7 now R B = minted (findRow t 7) now R B := rfl
  rw [hl]
  have hkey := find_key h
  generalize hF : findRow t 7 = F at *
  have hav : (minted F now R B).avail = F.avail + min (R * (max F.mark now - F.mark)) (B - (F.avail + outs F.out)) := by
    have s1 : sub now F.mark = max F.mark now - F.mark := by
      rw [sub_two, fit_self h0 (by omega), fit_self (x := F.mark) (by omega) (by omega)]
      split <;> omega
    have s2 : sub B (total F) = B - (F.avail + outs F.out) := by
      rw [sub_two, htt, fit_self hB0 (by omega), fit_self (by omega) (by omega), if_neg (by omega)]
    have hd0 : 0 ≤ max F.mark now - F.mark := by omega
    have hd1 : max F.mark now - F.mark ≤ 2147483648 := by omega
    have m1 : mul R (max F.mark now - F.mark) = R * (max F.mark now - F.mark) := by
      have h2 : R * (max F.mark now - F.mark) ≤ 2147483648 * 2147483648 := Int.mul_le_mul hR1 hd1 hd0 (by omega)
      unfold mul Sat.top
      rw [fit_self hR0 (by omega), fit_self hd0 (by omega), if_neg (by omega)]
    have hp := Int.mul_nonneg hR0 hd0
    simp only [minted, s1, s2, m1]
    generalize R * (max F.mark now - F.mark) = X at *
    rw [add_two, fit_self hlo (by omega), fit_self (x := min X _) (by omega) (by omega), if_neg (by omega)]
  have hp : 0 ≤ R * (max F.mark now - F.mark) := Int.mul_nonneg hR0 (by omega)
  have hmk : (minted F now R B).mark = max F.mark now := rfl
  have hout : (minted F now R B).out = F.out := rfl
  have hB2 : RowB (64 + n + 1) (minted F now R B) := (base_minted hbf (by unfold Num; omega) R B).more (by omega)
  obtain ⟨k1, k2⟩ := one_row hB0 hB1 h hB2 hkey (by rw [hav, hout]; omega) (by rw [hF, hmk]; omega) (by rw [hmk]; omega)
  refine ⟨k1, ?_⟩
  rw [k2]
  have ht2 := total_outs hB2 (by rw [hav, hout]; omega)
  refine ⟨?_, Int.le_refl _, by omega, by rw [hmk]; omega⟩
  rw [ht2, htt, hav, hout, hmk]
  omega
/-- To settle. -/
theorem one_settle {start R B : Int} (_ : 0 ≤ start) (hB0 : 0 ≤ B) (hB1 : B ≤ 2147483648) {n : Nat} {t : Tb} (h : One start B n t) (node spent : Int) :
    One start B (n + 1) (settle t 7 node spent).1 ∧ Kept R (findRow t 7) (findRow (settle t 7 node spent).1 7) (settle t 7 node spent).2 := by
  cases hh : has t 7 node with
  | false =>
    have e : settle t 7 node spent = (t, 0) := by unfold settle; rw [if_neg (by simp [hh])]
    rw [e]
    exact ⟨one_stay h, kept_stay⟩
  | true =>
    have hA := amount_in h.base num7 hh
    have e : settle t 7 node spent = (setRow t (settled (findRow t 7) (outAt (findRow t 7).out node).toNat (amountOf t 7 node - spentOf (amountOf t 7 node) spent)), spentOf (amountOf t 7 node) spent) := by unfold settle; rw [if_pos hh]
    rw [e]
    have hbf := base_find h.base num7
    have hlo := hbf.lo
    have htt := one_total hB1 h
    have htot := h.tot
    have hmlo := h.lo
    have hmhi := h.hi
    have hidx : ∃ i : Nat, (outAt (findRow t 7).out node).toNat = i ∧ i < (findRow t 7).out.length ∧ amountOf t 7 node = ((findRow t 7).out.getD i (0, 0)).2 := by
      unfold has at hh
      simp only [Bool.and_eq_true, decide_eq_true_eq] at hh
      rcases spot_cases (fun x => x.1 == node) (0, 0) (findRow t 7).out with ⟨h1, -⟩ | ⟨j, h1, h2, -⟩
      · have := hh.2
        unfold outAt at this
        omega
      · have e2 : (outAt (findRow t 7).out node).toNat = j := by unfold outAt; omega
        exact ⟨j, e2, h2, by unfold amountOf; rw [e2]⟩
    obtain ⟨i, hi, hil, hAm⟩ := hidx
    rw [hi]
    have hsp : 0 ≤ spentOf (amountOf t 7 node) spent ∧ spentOf (amountOf t 7 node) spent ≤ amountOf t 7 node := by unfold spentOf; split <;> omega
    have hkey := find_key h
    have her := outs_erase hil
    have hsum := outs_lo fun x hx => (hbf.out x (List.mem_of_mem_eraseIdx (i := i) hx)).2.1
    generalize spentOf (amountOf t 7 node) spent = s at *
    generalize amountOf t 7 node = A at *
    generalize hF : findRow t 7 = F at *
    have hav : (settled F i (A - s)).avail = F.avail + (A - s) := by
      simp only [settled]
      rw [add_two, fit_self hlo (by omega), fit_self (by omega) (by omega), if_neg (by omega)]
    have hout : (settled F i (A - s)).out = F.out.eraseIdx i := rfl
    have hmk : (settled F i (A - s)).mark = F.mark := rfl
    have hB2 : RowB (64 + n + 1) (settled F i (A - s)) := by
      refine ⟨?_, by rw [hav]; omega, by rw [hav]; omega, hbf.mark, hbf.key, fun x hx => hbf.out x (List.mem_of_mem_eraseIdx hx)⟩
      have h1 : (settled F i (A - s)).out.length ≤ F.out.length := by rw [hout]; exact List.length_eraseIdx_le _ _
      have := hbf.len
      omega
    obtain ⟨k1, k2⟩ := one_row hB0 hB1 h hB2 hkey (by rw [hav, hout]; omega) (by rw [hF, hmk]; omega) (by rw [hmk]; omega)
    refine ⟨k1, ?_⟩
    rw [k2]
    have ht2 := total_outs hB2 (by rw [hav, hout]; omega)
    refine ⟨?_, by omega, by omega, by rw [hmk]; omega⟩
    rw [ht2, htt, hav, hout, hmk, Int.sub_self, Int.mul_zero]
    omega
/-- To grant. -/
theorem one_grant {start R B : Int} (_ : 0 ≤ start) (hB0 : 0 ≤ B) (hB1 : B ≤ 2147483648) {n : Nat} {t : Tb} (h : One start B n t) (node want : Int) :
    One start B (n + 1) (grant t 7 node want).1 ∧ Kept R (findRow t 7) (findRow (grant t 7 node want).1 7) 0 := by
  cases hh : mayGrant t 7 node want with
  | false =>
    have e : grant t 7 node want = (t, 0) := by unfold grant; rw [if_neg (by simp [hh])]
    rw [e]
    exact ⟨one_stay h, kept_stay⟩
  | true =>
    have hm := may_in hh
    have e : grant t 7 node want = (setRow t (granted (findRow t 7) node (grantN (findRow t 7) want)), grantN (findRow t 7) want) := by unfold grant; rw [if_pos hh]
    rw [e]
    have hbf := base_find h.base num7
    have hlo := hbf.lo
    have hhi := hbf.hi
    have htt := one_total hB1 h
    have htot := h.tot
    have hmlo := h.lo
    have hmhi := h.hi
    have hkey := find_key h
    have hsum := outs_lo fun x hx => (hbf.out x hx).2.1
    generalize hF : findRow t 7 = F at *
    have hg : grantN F want ≤ F.avail ∧ grantN F want ≤ 2147483648 := by unfold grantN; omega
    generalize grantN F want = N at *
    have hout : outs (granted F node N).out = outs F.out + N := outs_with _ _
    have hav : (granted F node N).avail = F.avail - N := rfl
    have hmk : (granted F node N).mark = F.mark := rfl
    have hB2 : RowB (64 + n + 1) (granted F node N) := by
      refine ⟨?_, by rw [hav]; omega, by rw [hav]; omega, hbf.mark, hbf.key, fun x hx => ?_⟩
      · have := hbf.len
        simp only [granted]
        rw [withLease_len]
        omega
      · rcases withLease_mem hx with e | e
        · rw [e]; exact ⟨⟨hm.2.1, hm.2.2⟩, hm.1, hg.2⟩
        · exact hbf.out x e
    obtain ⟨k1, k2⟩ := one_row hB0 hB1 h hB2 hkey (by rw [hav, hout]; omega) (by rw [hF, hmk]; omega) (by rw [hmk]; omega)
    refine ⟨k1, ?_⟩
    rw [k2]
    have ht2 := total_outs hB2 (by rw [hav, hout]; omega)
    refine ⟨?_, Int.le_refl _, by omega, by rw [hmk]; omega⟩
    rw [ht2, htt, hav, hout, hmk, Int.sub_self, Int.mul_zero]
    omega
/-- What was spent by an act. -/
def spends (f : Cf) (t : Tb) (a : Ac) : Int := if a.kind % 5 = 2 then (actOf f t a).2 else 0
/-- Any act. -/
theorem one_act {start R B : Int} (hs : 0 ≤ start) (hR0 : 0 ≤ R) (hR1 : R ≤ 2147483648) (hB0 : 0 ≤ B) (hB1 : B ≤ 2147483648) {n : Nat} {t : Tb} (h : One start B n t) (a : Ac) (_ : 0 ≤ a.kind) (ha : a.key = 7) (h0 : 0 ≤ a.now) (h1 : a.now ≤ 2147483648) :
    One start B (n + 1) (actOf (cfB R B) t a).1 ∧ Kept R (findRow t 7) (findRow (actOf (cfB R B) t a).1 7) (spends (cfB R B) t a) := by
  unfold spends actOf
  rw [ha]
  by_cases e1 : a.kind % 5 ≤ 1
  · rw [if_pos e1, if_neg (by omega)]
    exact one_mint hs hR0 hR1 hB0 hB1 h h0 h1
  · by_cases e2 : a.kind % 5 = 2
    · rw [if_neg e1, if_pos e2, if_pos e2]
      exact one_settle hs hB0 hB1 h _ _
    · rw [if_neg e1, if_neg e2, if_neg e2]
      exact one_grant hs hB0 hB1 h _ _
theorem one_none {start B : Int} (hs : 0 ≤ start) (hs1 : start ≤ 2147483648) (hB0 : 0 ≤ B) : One start B 0 ⟨start, []⟩ :=
  ⟨⟨by simp, hs, by simp; omega, fun r hr => by cases hr⟩, rfl, .inl rfl, by simp [findRow, place, spot, outs, hB0], by simp [findRow, place, spot], by simp [findRow, place, spot, hs1]⟩
end Go.Proofs.Ytcnnepmhdccipaa.Ledger
