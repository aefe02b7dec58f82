/-
  Plain facts on keys and ballots of the layer conf: what is from one number to another, whose a ballot is, and the least ballot of a node above a number. No condition.
-/
import Derived.WalkKit
namespace Go.Proofs.Ythehbphpchmdiaa.Conf

def within (x lo hi : Int) : Bool := decide (lo ≤ x) && decide (x ≤ hi)
theorem within_yes {x lo hi : Int} (h0 : lo ≤ x) (h1 : x ≤ hi) : within x lo hi = true := by unfold within; simp [h0, h1]
theorem within_no {x lo hi : Int} (h : ¬ (lo ≤ x ∧ x ≤ hi)) : within x lo hi = false := by
  unfold within
  by_cases h0 : lo ≤ x
  · have h1 : ¬ x ≤ hi := fun k => h ⟨h0, k⟩
    simp [h0, h1]
  · simp [h0]
theorem within_iff {x lo hi : Int} : within x lo hi = true ↔ lo ≤ x ∧ x ≤ hi := by unfold within; simp

/-- Whose a ballot is. -/
def owner (n b : Int) : Int := if 1 ≤ n ∧ n ≤ 64 ∧ n ≤ b ∧ b ≤ 1099511627776 then b % n else -1

/-- The least ballot of a node above a number, whatever its size. -/
def bal (n above node : Int) : Int := if n + node ≤ above then above - (above - node) % n + n else n + node
def next (n above node : Int) : Int × Int :=
  if ¬ (1 ≤ n ∧ n ≤ 64 ∧ 0 ≤ node ∧ node < n) then (0, 1) else
  if 1099511627776 ≤ above then (0, 6) else
  if 1099511627776 < bal n above node then (0, 6) else (bal n above node, 0)

def key (p m : Int) : Int × Int := if 0 ≤ p ∧ p ≤ 7 ∧ 0 ≤ m ∧ m ≤ 65535 then (p * 65536 + m, 0) else (0, 1)

theorem bal_lo {n above node : Int} (hn : 1 ≤ n) (hd : 0 ≤ node) : n ≤ bal n above node := by
  unfold bal
  split
  · have h1 := Int.emod_lt_of_pos (above - node) (by omega : 0 < n)
    omega
  · omega
theorem bal_above {n above node : Int} (hn : 1 ≤ n) : above < bal n above node := by
  unfold bal
  split
  · have h1 := Int.emod_lt_of_pos (above - node) (by omega : 0 < n)
    omega
  · omega
theorem bal_mod {n above node : Int} (hd : 0 ≤ node) (hl : node < n) : bal n above node % n = node := by
  unfold bal
  split
  · have h1 := Int.mul_ediv_add_emod (above - node) n
    have h2 : above - (above - node) % n + n = node + n * ((above - node) / n + 1) := by rw [Int.mul_add]; omega
    rw [h2, Int.add_mul_emod_self_left, Int.emod_eq_of_lt hd hl]
  · rw [Int.add_comm, Int.add_emod_right, Int.emod_eq_of_lt hd hl]
theorem bal_near {n above node : Int} (hn : 1 ≤ n) (hl : node < n) : bal n above node < max (above + 1) n + n := by
  unfold bal
  split
  · have h1 := Int.emod_nonneg (above - node) (by omega : n ≠ 0)
    omega
  · omega
/-- From the first number on, at most n - 1 steps to the ballot; it is there where the rest is the node. -/
theorem bal_here {n above node b : Int} (hd : 0 ≤ node) (hl : node < n) (h0 : b ≤ bal n above node) (h1 : bal n above node < b + n) (hm : b % n = node) : b = bal n above node := by
  have h2 := bal_mod (above := above) hd hl
  have h3 : (bal n above node - b) % n = 0 := by rw [Int.sub_emod, h2, hm]; simp
  have h4 : (bal n above node - b) % n = bal n above node - b := Int.emod_eq_of_lt (by omega) (by omega)
  omega
theorem bal_not {n above node b : Int} (hd : 0 ≤ node) (hl : node < n) (h0 : b ≤ bal n above node) (hm : b % n ≠ node) : b + 1 ≤ bal n above node := by
  have h2 := bal_mod (above := above) hd hl
  rcases Int.lt_or_eq_of_le h0 with h | h
  · omega
  · rw [h] at hm; exact absurd h2 hm

theorem next_arg {n above node : Int} (h : ¬ (1 ≤ n ∧ n ≤ 64 ∧ 0 ≤ node ∧ node < n)) : next n above node = (0, 1) := by unfold next; rw [if_pos h]
theorem next_far {n above node : Int} (h : 1 ≤ n ∧ n ≤ 64 ∧ 0 ≤ node ∧ node < n) (h1 : 1099511627776 ≤ above) : next n above node = (0, 6) := by
  unfold next; rw [if_neg (fun k => k h), if_pos h1]
theorem next_over {n above node : Int} (h : 1 ≤ n ∧ n ≤ 64 ∧ 0 ≤ node ∧ node < n) (h1 : ¬ 1099511627776 ≤ above) (h2 : 1099511627776 < bal n above node) : next n above node = (0, 6) := by
  unfold next; rw [if_neg (fun k => k h), if_neg h1, if_pos h2]
theorem next_ok {n above node : Int} (h : 1 ≤ n ∧ n ≤ 64 ∧ 0 ≤ node ∧ node < n) (h1 : ¬ 1099511627776 ≤ above) (h2 : ¬ 1099511627776 < bal n above node) : next n above node = (bal n above node, 0) := by
  unfold next; rw [if_neg (fun k => k h), if_neg h1, if_neg h2]
end Go.Proofs.Ythehbphpchmdiaa.Conf
