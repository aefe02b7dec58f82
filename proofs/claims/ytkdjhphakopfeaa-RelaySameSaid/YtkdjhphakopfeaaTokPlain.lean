/-
  Tokens, plain: which place is newer, a new token, till when a token is valid; a majority has stamped one that is valid. No program.
-/
import Derived.Test.YtkdjhphakopfeaaRingPlain
import Derived.Test.YtkdjhphakopfeaaRingNthPlain
import Derived.Test.YtkdjhphakopfeaaFramePlain
import Derived.Test.YtkdjhphakopfeaaSatPlain
namespace Go.Proofs.Ytkdjhphakopfeaa.Token
open _root_.Go.Proofs.Ytkdjhphakopfeaa.Frame (Rw Tb Tk tokenOk)
open _root_.Go.Proofs.Ytkdjhphakopfeaa.Ring (nth maj more least Good nth_good least_le_more has meet all count)
open _root_.Go.Proofs.Ytkdjhphakopfeaa.Sat (fit add fit_self sum_two)

def newer (a b : Int × Int) : Bool := decide (b.1 < a.1) || (a.1 == b.1 && decide (b.2 < a.2))
/-- Stamps of a new token. -/
def firsts (n : Nat) (node now : Int) : List Int := (List.range n).map fun i : Nat => if ((i : Nat) : Int) = node then now else -1
def freshTk (gen : Int) (n : Nat) (node now : Int) : Tk := ⟨gen, 0, firsts n node now, ⟨now, []⟩⟩
def noTk : Tk := ⟨0, 0, [], ⟨0, []⟩⟩
def fresh (gen n node now : Int) : Tk × Int :=
  if n < 1 ∨ 64 < n ∨ node < 0 ∨ n ≤ node then (noTk, 1) else if tokenOk (freshTk gen n.toNat node now) = true ∧ 0 ≤ now then (freshTk gen n.toNat node now, 0) else (noTk, 1)
/-- Stamps that there are. -/
def given (l : List Int) : List Int := l.filter fun x => decide (0 ≤ x)
def upto (l : List Int) (span : Int) : Int := if 1 ≤ maj l.length ∧ maj l.length ≤ ((given l).length : Int) then add [nth (given l) (maj l.length), span] else -1
def valid (l : List Int) (now span : Int) : Bool := decide (0 ≤ upto l span) && decide (fit now ≤ upto l span)
def stamped (t : Tk) (node now : Int) : Tk × Int := if node < 0 ∨ (t.stamps.length : Int) ≤ node ∨ now < 0 ∨ 4611686018427387903 < now then (t, 1) else (⟨t.gen, t.hop, t.stamps.set node.toNat now, t.table⟩, 0)
def passed (t : Tk) : Tk × Int := if 1099511627776 ≤ t.hop then (t, 6) else (⟨t.gen, t.hop + 1, t.stamps, t.table⟩, 0)

/-! One line. -/
theorem newer_iff (x y : Int × Int) : newer x y = true ↔ y.1 < x.1 ∨ x.1 = y.1 ∧ y.2 < x.2 := by simp [newer]
theorem newer_no {x y : Int × Int} (h : newer x y = true) : newer y x = false := by
  cases e : newer y x with
  | false => rfl
  | true =>
    rw [newer_iff] at h e
    omega
theorem newer_one (x y : Int × Int) : (newer x y || newer y x) = !(x.1 == y.1 && x.2 == y.2) := by
  rw [Bool.eq_iff_iff]
  simp only [Bool.or_eq_true, newer_iff, Bool.not_eq_true', Bool.and_eq_false_iff, beq_eq_false_iff_ne]
  omega
theorem newer_trans {x y z : Int × Int} (h : newer x y = true) (h2 : newer y z = true) : newer x z = true := by
  rw [newer_iff] at *
  omega

/-! A majority. -/
def lateAt (now span x : Int) : Bool := decide (0 ≤ x) && decide (now - span ≤ x)
def late (l : List Int) (now span : Int) : Nat := l.countP (lateAt now span)
theorem late_given (l : List Int) (now span : Int) : late l now span = least (given l) (now - span) := by
  unfold late least given
  rw [List.countP_filter]
  congr 1
  funext x
  unfold lateAt
  rw [Bool.and_comm]
theorem valid_late {l : List Int} {now span : Int} (hn : 1 ≤ l.length) (h0 : 0 ≤ now) (h1 : now ≤ 1099511627776) (s0 : 0 ≤ span) (s1 : span ≤ 1099511627776) (hl : ∀ x ∈ l, -1 ≤ x ∧ x ≤ 1099511627776) :
    valid l now span = decide (maj l.length ≤ (late l now span : Int)) := by
  have hm : maj l.length = (l.length : Int) / 2 + 1 := by unfold maj; rw [if_neg (by omega)]
  have h2 : 1 ≤ maj (l.length : Int) := by rw [hm]; omega
  rw [late_given]
  unfold valid upto
  by_cases hk : maj l.length ≤ ((given l).length : Int)
  · rw [if_pos ⟨h2, hk⟩]
    obtain ⟨hg, hmem⟩ := nth_good (given l) (maj l.length) h2 hk
    have hb : 0 ≤ nth (given l) (maj l.length) ∧ nth (given l) (maj l.length) ≤ 1099511627776 := by
      have h3 := List.mem_filter.1 hmem
      exact ⟨by simpa using h3.2, (hl _ h3.1).2⟩
    obtain ⟨hg1, hg2⟩ := hg
    generalize nth (given l) (maj l.length) = y at *
    have e : add [y, span] = y + span := by
      unfold add Sat.top
      rw [sum_two, fit_self hb.1 (by omega), fit_self s0 (by omega), if_neg (by omega)]
    rw [e, fit_self h0 (by omega), decide_eq_true (show 0 ≤ y + span by omega), Bool.true_and]
    by_cases ht : now - span ≤ y
    · rw [decide_eq_true (show now ≤ y + span by omega)]
      have h4 : least (given l) y ≤ least (given l) (now - span) := List.countP_mono_left (fun z _ hz => by simp at hz ⊢; omega)
      exact (decide_eq_true (by omega)).symm
    · rw [decide_eq_false (show ¬ now ≤ y + span by omega)]
      have h4 := least_le_more (given l) (show y < now - span by omega)
      exact (decide_eq_false (by omega)).symm
  · rw [if_neg (fun h => hk h.2)]
    have h5 : least (given l) (now - span) ≤ (given l).length := List.countP_le_length
    rw [show decide ((0 : Int) ≤ -1) = false by decide, Bool.false_and]
    exact (decide_eq_false (by omega)).symm
theorem late_range (l : List Int) (now span : Int) : late l now span = (List.range 64).countP (fun i => decide (i < l.length) && lateAt now span (l.getD i 0)) + (l.drop 64).countP (lateAt now span) := by
  unfold late
  have key : ∀ (n : Nat) (l : List Int), (l.take n).countP (lateAt now span) = (List.range n).countP (fun i => decide (i < l.length) && lateAt now span (l.getD i 0)) := by
    intro n
    induction n with
    | zero => intro l; simp
    | succ n ih =>
      intro l
      rw [List.range_succ, List.countP_append]
      by_cases h : n < l.length
      · rw [List.take_succ_eq_append_getElem h, List.countP_append, ih]
        simp [List.countP_cons, h, List.getD]
      · rw [List.take_of_length_le (by omega)]
        have := ih l
        rw [List.take_of_length_le (by omega)] at this
        rw [this]
        simp [h]
  rw [← key 64 l, ← List.countP_append, List.take_append_drop]
/-- Of any majority, one has a late stamp. -/
def oneOf (l : List Int) (now span s : Int) (n : Nat) : Bool := (List.range n).any fun i => lateAt now span (l.getD i 0) && has s (i : Int)
theorem one_late {l : List Int} {now span who : Int} (hn : 1 ≤ l.length) (hn2 : l.length ≤ 64) (hl : maj l.length ≤ (late l now span : Int)) (hs : maj l.length ≤ count (meet who (all l.length))) : oneOf l now span (meet who (all l.length)) l.length = true := by
  have hm : maj l.length = (l.length : Int) / 2 + 1 := by unfold maj; rw [if_neg (by omega)]
  have hd : l.drop 64 = [] := List.drop_of_length_le hn2
  have hr := late_range l now span
  rw [hd] at hr
  simp only [List.countP_nil, Nat.add_zero] at hr
  unfold count at hs
  have hall : ∀ i, (meet who (all l.length)).toNat.testBit i = true → i < l.length := fun i hi => by
    have ok : Ring.okRing l.length = true := by unfold Ring.okRing; simp; omega
    unfold meet all at hi
    rw [ok] at hi
    simp only [if_true, Int.toNat_natCast, Nat.testBit_and, Nat.testBit_two_pow_sub_one, Bool.and_eq_true] at hi
    exact of_decide_eq_true hi.2
  have k := Ring.countP_two (fun i => decide (i < l.length) && lateAt now span (l.getD i 0)) (fun i => (meet who (all l.length)).toNat.testBit i) 64
  have c := Ring.countP_below (fun i => (decide (i < l.length) && lateAt now span (l.getD i 0)) || (meet who (all l.length)).toNat.testBit i) l.length (fun j hj => by
    simp only [Bool.or_eq_true, Bool.and_eq_true, decide_eq_true_eq] at hj
    exact hj.elim (fun h => h.1) (fun h => hall j h)) 64
  have pos : 0 < (List.range 64).countP (fun i => (decide (i < l.length) && lateAt now span (l.getD i 0)) && (meet who (all l.length)).toNat.testBit i) := by omega
  obtain ⟨i, hi, h1⟩ := List.countP_pos_iff.1 pos
  simp only [Bool.and_eq_true, decide_eq_true_eq] at h1
  unfold oneOf
  rw [List.any_eq_true]
  refine ⟨i, List.mem_range.2 h1.1.1, ?_⟩
  simp only [Bool.and_eq_true]
  refine ⟨h1.1.2, ?_⟩
  unfold has
  simp only [Int.toNat_natCast, Bool.and_eq_true, decide_eq_true_eq]
  exact ⟨by omega, h1.2⟩
/-! Till when, by the m-th greatest of all stamps. -/
theorem least_given (l : List Int) {y : Int} (h : 0 ≤ y) : least (given l) y = least l y := by
  unfold least given
  rw [List.countP_filter]
  congr 1
  funext x
  by_cases hx : y ≤ x
  · simp [hx, show (0 : Int) ≤ x by omega]
  · simp [hx]
theorem more_given (l : List Int) {y : Int} (h : 0 ≤ y) : more (given l) y = more l y := by
  unfold more given
  rw [List.countP_filter]
  congr 1
  funext x
  by_cases hx : y < x
  · simp [hx, show (0 : Int) ≤ x by omega]
  · simp [hx]
theorem given_length (l : List Int) : (given l).length = least l 0 := by
  unfold given least
  rw [List.countP_eq_length_filter]
theorem nth_given {l : List Int} {m : Int} (h1 : 1 ≤ m) (h2 : m ≤ (l.length : Int)) (h0 : 0 ≤ nth l m) : m ≤ ((given l).length : Int) ∧ nth (given l) m = nth l m := by
  obtain ⟨⟨hm, hl⟩, -⟩ := nth_good l m h1 h2
  have h3 : m ≤ ((given l).length : Int) := by
    have : least l (nth l m) ≤ least l 0 := List.countP_mono_left (fun z _ hz => by simp at hz ⊢; omega)
    rw [given_length]; omega
  refine ⟨h3, ?_⟩
  obtain ⟨hg, hmem⟩ := nth_good (given l) m h1 h3
  have hb : 0 ≤ nth (given l) m := by simpa using (List.mem_filter.1 hmem).2
  refine Ring.good_one (zs := l) (m := m) ⟨?_, ?_⟩ ⟨hm, hl⟩
  · rw [← more_given l hb]; exact hg.1
  · rw [← least_given l hb]; exact hg.2
theorem upto_out {l : List Int} {span : Int} (h : ¬ (1 ≤ maj l.length ∧ maj l.length ≤ (l.length : Int))) : upto l span = -1 := by
  unfold upto
  rw [if_neg fun k => h ⟨k.1, by have : (given l).length ≤ l.length := List.length_filter_le _ _; omega⟩]
theorem upto_never {l : List Int} {span : Int} (h1 : 1 ≤ maj l.length) (h2 : maj l.length ≤ (l.length : Int)) (h : nth l (maj l.length) < 0) : upto l span = -1 := by
  unfold upto
  refine if_neg fun k => ?_
  obtain ⟨hg, hmem⟩ := nth_good (given l) (maj l.length) k.1 k.2
  obtain ⟨⟨hm, hl⟩, -⟩ := nth_good l (maj l.length) h1 h2
  have hb : 0 ≤ nth (given l) (maj l.length) := by simpa using (List.mem_filter.1 hmem).2
  have e1 := least_given l hb
  have e2 := least_le_more l (show nth l (maj l.length) < nth (given l) (maj l.length) by omega)
  have := hg.2
  omega
theorem upto_till {l : List Int} {span : Int} (h1 : 1 ≤ maj l.length) (h2 : maj l.length ≤ (l.length : Int)) (h : 0 ≤ nth l (maj l.length)) : upto l span = add [nth l (maj l.length), span] := by
  obtain ⟨h3, h4⟩ := nth_given h1 h2 h
  unfold upto
  rw [if_pos ⟨h1, h3⟩, h4]
/-- Of a reading, as a number. -/
theorem valid_upto (l : List Int) (now span : Int) : valid l now span = decide (fit now ≤ upto l span) := by
  unfold valid
  have : 0 ≤ fit now := by unfold fit; simp only [Sat.top]; split <;> (try split) <;> omega
  by_cases h : fit now ≤ upto l span
  · rw [decide_eq_true h, decide_eq_true (by omega)]; rfl
  · rw [decide_eq_false h, Bool.and_false]
end Go.Proofs.Ytkdjhphakopfeaa.Token
