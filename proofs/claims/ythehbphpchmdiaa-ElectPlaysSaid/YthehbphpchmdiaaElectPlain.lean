/-
  An election as data, and what each of its calls makes and tells. Plain functions, no program.
-/
import Derived.Test.YthehbphpchmdiaaRingPlain
import Derived.Test.YthehbphpchmdiaaConfPlain
namespace Go.Proofs.Ythehbphpchmdiaa.Elect
open _root_.Go.Proofs.Ythehbphpchmdiaa.Ring (has put put_lo put_hi has_put okRing)

def Num (x : Int) : Prop := -9223372036854775808 ≤ x ∧ x ≤ 9223372036854775807
/-- A set. -/
def Set64 (x : Int) : Prop := 0 ≤ x ∧ x < 18446744073709551616
structure El where
  n : Int
  node : Int
  promised : Int
  round : Int
  ballot : Int
  bits : Int
structure Rs where
  send : Bool
  gen : Int
  bits : Int
  won : Bool
def noRs : Rs := ⟨false, 0, 0, false⟩
def in40 (x : Int) : Bool := decide (0 ≤ x) && decide (x ≤ 1099511627776)
def start (n node promised round : Int) : El := ⟨n, node, promised, round, 0, 0⟩
def okNew (n node promised round : Int) : Bool := okRing n && (decide (0 ≤ node) && decide (node < n)) && in40 promised && in40 round
/-- How many of the first nodes are in a set. -/
def cnt (x : Int) : Nat → Nat
  | 0 => 0
  | k + 1 => cnt x k + if has x (k : Int) = true then 1 else 0
def majority (e : El) : Bool := decide (e.n < 2 * (cnt e.bits e.n.toNat : Int))
def wins (e : El) : El := if majority e = true then ⟨e.n, e.node, e.promised, e.round, 0, e.bits⟩ else e
def orB (x y : Int) : Int := ((x.toNat ||| y.toNat : Nat) : Int)
/-- It stands with a ballot. -/
def stands (e : El) (b : Int) : El := ⟨e.n, e.node, b, b / e.n, b, put 0 e.node⟩
def stand (e : El) : El × Rs × Int :=
  if (Conf.next e.n e.promised e.node).2 = 0 then (wins (stands e (Conf.next e.n e.promised e.node).1), ⟨!majority (stands e (Conf.next e.n e.promised e.node).1), (Conf.next e.n e.promised e.node).1, put 0 e.node, majority (stands e (Conf.next e.n e.promised e.node).1)⟩, 0)
  else (e, noRs, (Conf.next e.n e.promised e.node).2)
def adds (e : El) (x : Int) : El := ⟨e.n, e.node, e.promised, e.round, e.ballot, orB e.bits x⟩
def take (e : El) (gen x : Int) : El × Rs :=
  if gen < 1 ∨ 1099511627776 < gen ∨ gen < e.promised then (e, noRs)
  else if e.promised < gen then (⟨e.n, e.node, gen, e.round, 0, e.bits⟩, ⟨true, gen, put x e.node, false⟩)
  else if e.ballot ≠ gen then (e, noRs)
  else (wins (adds e x), ⟨false, gen, orB e.bits x, majority (adds e x)⟩)
def raise (e : El) (gen : Int) : El × Bool :=
  if gen ≤ e.promised ∨ in40 gen = false then (e, false) else (⟨e.n, e.node, gen, e.round, 0, e.bits⟩, true)
/-- An election that may be. -/
structure Good (e : El) : Prop where
  n : 1 ≤ e.n ∧ e.n ≤ 64
  node : 0 ≤ e.node ∧ e.node < e.n
  promised : 0 ≤ e.promised ∧ e.promised ≤ 1099511627776
  round : 0 ≤ e.round ∧ e.round ≤ 1099511627776
  ballot : 0 ≤ e.ballot ∧ e.ballot ≤ 1099511627776
  bits : Set64 e.bits
theorem put0 (i : Int) : Set64 (put 0 i) := ⟨put_lo _ _, put_hi _ _ (by omega)⟩
theorem putS {x : Int} (h : Set64 x) (i : Int) : Set64 (put x i) := ⟨put_lo _ _, put_hi _ _ h.2⟩
theorem orS {x y : Int} (h : Set64 x) (k : Set64 y) : Set64 (orB x y) := by
  unfold orB
  obtain ⟨h0, h1⟩ := h
  obtain ⟨k0, k1⟩ := k
  have : x.toNat ||| y.toNat < 2 ^ 64 := Nat.or_lt_two_pow (by omega) (by omega)
  exact ⟨by omega, by omega⟩
theorem Good.wins {e : El} (h : Good e) : Good (wins e) := by
  unfold Elect.wins
  split
  · exact ⟨h.n, h.node, h.promised, h.round, by show (0 : Int) ≤ 0 ∧ (0 : Int) ≤ _; omega, h.bits⟩
  · exact h
theorem next_bounds {n a d : Int} (h : (Conf.next n a d).2 = 0) : 0 ≤ (Conf.next n a d).1 ∧ (Conf.next n a d).1 ≤ 1099511627776 ∧ a < (Conf.next n a d).1 ∧ n ≤ (Conf.next n a d).1 ∧ (Conf.next n a d).1 % n = d ∧ 1 ≤ n := by
  unfold Conf.next at h ⊢
  split at h
  · simp at h
  · rename_i h1
    split at h
    · simp at h
    · rename_i h2
      split at h
      · simp at h
      · rename_i h3
        rw [if_neg h1, if_neg h2, if_neg h3]
        have hh : 1 ≤ n ∧ n ≤ 64 ∧ 0 ≤ d ∧ d < n := by omega
        have b1 := Conf.bal_lo (above := a) hh.1 hh.2.2.1
        have b2 := Conf.bal_above (above := a) (node := d) hh.1
        have b3 := Conf.bal_mod (above := a) hh.2.2.1 hh.2.2.2
        exact ⟨by show 0 ≤ Conf.bal n a d; omega, by show Conf.bal n a d ≤ _; omega, b2, b1, b3, hh.1⟩
theorem Good.stands {e : El} (h : Good e) (hn : (Conf.next e.n e.promised e.node).2 = 0) : Good (stands e (Conf.next e.n e.promised e.node).1) := by
  obtain ⟨b0, b1, -, b3, -, -⟩ := next_bounds hn
  generalize (Conf.next e.n e.promised e.node).1 = b at *
  have hd : 0 ≤ b / e.n ∧ b / e.n ≤ b := ⟨Int.ediv_nonneg b0 (by have := h.n; omega), Int.ediv_le_self _ b0⟩
  exact ⟨h.n, h.node, ⟨b0, b1⟩, ⟨hd.1, Int.le_trans hd.2 b1⟩, ⟨b0, b1⟩, put0 _⟩
theorem Good.stand {e : El} (h : Good e) : Good (stand e).1 := by
  unfold Elect.stand
  split
  · rename_i hn
    exact (h.stands hn).wins
  · exact h
theorem Good.take {e : El} (h : Good e) (gen : Int) {x : Int} (hx : Set64 x) : Good (take e gen x).1 := by
  unfold Elect.take
  split
  · exact h
  · rename_i h1
    split
    · exact ⟨h.n, h.node, by show 0 ≤ gen ∧ gen ≤ _; omega, h.round, by show (0 : Int) ≤ 0 ∧ (0 : Int) ≤ _; omega, h.bits⟩
    · split
      · exact h
      · refine Good.wins (e := adds e x) ⟨h.n, h.node, h.promised, h.round, h.ballot, orS h.bits hx⟩
theorem Good.raise {e : El} (h : Good e) (gen : Int) : Good (raise e gen).1 := by
  unfold Elect.raise
  split
  · exact h
  · rename_i h1
    have hg : 0 ≤ gen ∧ gen ≤ 1099511627776 := by
      cases hi : in40 gen
      · exact absurd (.inr hi) h1
      · simpa [in40] using hi
    exact ⟨h.n, h.node, hg, h.round, by show (0 : Int) ≤ 0 ∧ (0 : Int) ≤ _; omega, h.bits⟩
theorem in40_iff {x : Int} : in40 x = true ↔ 0 ≤ x ∧ x ≤ 1099511627776 := by simp [in40]
theorem okNew_iff {n node p r : Int} : okNew n node p r = true ↔ (1 ≤ n ∧ n ≤ 64) ∧ (0 ≤ node ∧ node < n) ∧ (0 ≤ p ∧ p ≤ 1099511627776) ∧ (0 ≤ r ∧ r ≤ 1099511627776) := by
  simp [okNew, okRing, in40]
  omega
theorem good_start {n node p r : Int} (h : okNew n node p r = true) : Good (start n node p r) := by
  obtain ⟨h1, h2, h3, h4⟩ := okNew_iff.1 h
  exact ⟨h1, h2, h3, h4, by show (0 : Int) ≤ 0 ∧ (0 : Int) ≤ _; omega, by show 0 ≤ (0 : Int) ∧ (0 : Int) < _; omega⟩
theorem cnt_le (x : Int) : ∀ k, cnt x k ≤ k
  | 0 => Nat.le_refl _
  | k + 1 => by
    unfold cnt
    have := cnt_le x k
    split <;> omega
end Go.Proofs.Ythehbphpchmdiaa.Elect
