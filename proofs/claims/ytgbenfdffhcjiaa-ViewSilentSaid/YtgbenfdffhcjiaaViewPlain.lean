/-
  A view as data (its node, its span, when each one was heard), and what each of its calls makes and tells. Plain functions, no program.
-/
import Derived.Test.YtgbenfdffhcjiaaRingPlain
import Derived.Test.YtgbenfdffhcjiaaClockPlain
namespace Go.Proofs.Ytgbenfdffhcjiaa.View
open _root_.Go.Proofs.Ytgbenfdffhcjiaa.Ring (has put put_lo put_hi has_put okRing)
open _root_.Go.Proofs.Ytgbenfdffhcjiaa.Clock (cpassed)

def Num (x : Int) : Prop := -9223372036854775808 ≤ x ∧ x ≤ 9223372036854775807
structure Vw where
  node : Int
  span : Int
  l : List Int
/-- Is there such a view? -/
def okNew (n node : Int) : Bool := okRing n && (decide (0 ≤ node) && decide (node < n))
def start (n node span now : Int) : Vw := ⟨node, span, List.replicate n.toNat now⟩
/-- A reading, once a node was heard. -/
def one (l : List Int) (i x : Int) (k : Nat) : Int := if (k : Int) = i ∧ l.getD k 0 < x then x else l.getD k 0
def hearTo (l : List Int) (i x : Int) (j : Nat) : List Int := (List.range j).map (one l i x)
def hear (v : Vw) (i x : Int) : Vw := ⟨v.node, v.span, hearTo v.l i x v.l.length⟩
/-- Is a node live? -/
def isLive (v : Vw) (now : Int) (k : Nat) : Bool := decide ((k : Int) = v.node) || !cpassed (v.l.getD k 0) now v.span
def liveTo (v : Vw) (now : Int) : Nat → Int
  | 0 => 0
  | k + 1 => if isLive v now k = true then put (liveTo v now k) (k : Int) else liveTo v now k
def live (v : Vw) (now : Int) : Int := liveTo v now v.l.length
def next (v : Vw) (now : Int) : Int := Ring.next (live v now) (v.l.length : Int) v.node
/-- A view that may be. -/
structure Good (v : Vw) : Prop where
  many : 1 ≤ v.l.length ∧ v.l.length ≤ 64
  node : 0 ≤ v.node ∧ v.node < (v.l.length : Int)
  nums : ∀ x ∈ v.l, Num x
  span : Num v.span
theorem hearTo_len (l : List Int) (i x : Int) (j : Nat) : (hearTo l i x j).length = j := by simp [hearTo]
theorem hearTo_succ (l : List Int) (i x : Int) (j : Nat) : hearTo l i x (j + 1) = hearTo l i x j ++ [one l i x j] := by simp [hearTo, List.range_succ]
theorem hear_len (v : Vw) (i x : Int) : (hear v i x).l.length = v.l.length := hearTo_len _ _ _ _
theorem hear_at (v : Vw) (i x : Int) {k : Nat} (hk : k < v.l.length) : (hear v i x).l.getD k 0 = one v.l i x k := by
  simp [hear, hearTo, List.getD, hk]
theorem start_len (n node span now : Int) : (start n node span now).l.length = n.toNat := by simp [start]
theorem liveTo_lo (v : Vw) (now : Int) : ∀ j, 0 ≤ liveTo v now j
  | 0 => Int.le_refl _
  | k + 1 => by
    unfold liveTo
    split
    · exact put_lo _ _
    · exact liveTo_lo v now k
theorem liveTo_hi (v : Vw) (now : Int) : ∀ j, liveTo v now j < 18446744073709551616
  | 0 => by unfold liveTo; omega
  | k + 1 => by
    unfold liveTo
    split
    · exact put_hi _ _ (liveTo_hi v now k)
    · exact liveTo_hi v now k
theorem has_liveTo (v : Vw) (now : Int) : ∀ j, j ≤ 64 → ∀ k : Nat, has (liveTo v now j) (k : Int) = (decide (k < j) && isLive v now k)
  | 0, _, k => by simp [liveTo, has]
  | j + 1, hj, k => by
    unfold liveTo
    have ih := has_liveTo v now j (by omega) k
    by_cases h : isLive v now j = true
    · rw [if_pos h, has_put, ih]
      by_cases e : j = k
      · subst e
        simp [h]
        omega
      · have h1 : decide ((j : Int) = (k : Int)) = false := by simp; omega
        have h2 : decide (k < j + 1) = decide (k < j) := by simp; omega
        rw [h1, h2]
        simp
    · rw [if_neg h, ih]
      by_cases e : j = k
      · subst e
        simp at h
        simp [h]
      · have h2 : decide (k < j + 1) = decide (k < j) := by simp; omega
        rw [h2]
theorem has_live (v : Vw) (h : v.l.length ≤ 64) (now : Int) (k : Nat) : has (live v now) (k : Int) = (decide (k < v.l.length) && isLive v now k) := has_liveTo v now _ h k
theorem one_num {l : List Int} {i x : Int} (hl : ∀ y ∈ l, Num y) (hx : Num x) {k : Nat} (hk : k < l.length) : Num (one l i x k) := by
  unfold one
  split
  · exact hx
  · have e : l.getD k 0 = l[k] := by simp [List.getD, hk]
    rw [e]
    exact hl _ (List.getElem_mem hk)
theorem Good.hear {v : Vw} (h : Good v) (i x : Int) (hx : Num x) : Good (hear v i x) := by
  refine ⟨by rw [hear_len]; exact h.many, by rw [hear_len]; exact h.node, fun y hy => ?_, h.span⟩
  simp only [View.hear, hearTo, List.mem_map, List.mem_range] at hy
  obtain ⟨k, hk, rfl⟩ := hy
  exact one_num h.nums hx hk
theorem okNew_iff {n node : Int} : okNew n node = true ↔ (1 ≤ n ∧ n ≤ 64) ∧ 0 ≤ node ∧ node < n := by
  simp [okNew, okRing]
theorem good_start {n node span now : Int} (h : okNew n node = true) (hs : Num span) (hn : Num now) : Good (start n node span now) := by
  obtain ⟨⟨h1, h2⟩, h3, h4⟩ := okNew_iff.1 h
  refine ⟨by rw [start_len]; omega, by rw [start_len]; show 0 ≤ node ∧ node < (n.toNat : Int); omega, fun x hx => ?_, hs⟩
  obtain ⟨-, rfl⟩ := List.mem_replicate.1 hx
  exact hn
end Go.Proofs.Ytgbenfdffhcjiaa.View
