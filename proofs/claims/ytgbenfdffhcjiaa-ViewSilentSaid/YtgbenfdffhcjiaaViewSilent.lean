/-
  ViewSilent returns true of any numbers, any hearings, whatever the program's view is, if its calls do what is asked of them.
-/
import Derived.Test.YtgbenfdffhcjiaaViewWay
import Derived.Test.YtgbenfdffhcjiaaClockRef
namespace Go.Proofs.Ytgbenfdffhcjiaa.View
open Go.RowKit
open _root_.Go.Proofs.Ytgbenfdffhcjiaa.Codec (lt_of_heap frozen_of heap_set below_new own_below)
open _root_.Go.Proofs.Ytgbenfdffhcjiaa.Kit (Enc Lies Own At Kept Laid Off cell_on lt_heap take_snoc below_drewN ints)
open _root_.Go.Proofs.Ytgbenfdffhcjiaa.Clock (cpassed)

/-- Numbers of 32 bits. -/
def words : Enc Int := ⟨1, fun x => [.int .u32 x], 0, by decide, fun _ => rfl, fun x u hu => by simp at hu; subst hu; rfl⟩
theorem word_at {w : World} {p : Option Addr} {l : List Int} (h : Lies words w p l) {j : Nat} (hj : j < l.length) : ∃ b o, p = some ⟨b, o, none⟩ ∧ w.cell? ⟨b, o + j, none⟩ = some (.int .u32 (l.getD j 0)) := by
  obtain ⟨b, o, e, ha⟩ := Kit.lies_at h hj
  refine ⟨b, o, e, ?_⟩
  have := ha 0 _ rfl
  rwa [show words.n = 1 from rfl, Nat.mul_one] at this
/-- Hearings by words: who, and when. -/
def hears (n : Int) (V : Vw) (l : List Int) : Vw := l.foldl (fun v x => hear v (x % n) (x / 64)) V
theorem hears_snoc (n : Int) (V : Vw) (l : List Int) (x : Int) : hears n V (l ++ [x]) = hear (hears n V l) (x % n) (x / 64) := by simp [hears]
theorem hears_len (n : Int) : ∀ (l : List Int) (V : Vw), (hears n V l).l.length = V.l.length
  | [], _ => rfl
  | x :: l, V => by
    show (hears n (hear V _ _) l).l.length = _
    rw [hears_len n l, hear_len]
theorem hears_same (n : Int) : ∀ (l : List Int) (V : Vw), (hears n V l).node = V.node ∧ (hears n V l).span = V.span
  | [], _ => ⟨rfl, rfl⟩
  | _ :: l, V => hears_same n l (hear V _ _)
/-- Readings that are small. -/
def Small (V : Vw) : Prop := ∀ k : Nat, 0 ≤ V.l.getD k 0 ∧ V.l.getD k 0 ≤ 4294967295
theorem small_hear {V : Vw} (h : Small V) {i x : Int} (hx : 0 ≤ x ∧ x ≤ 4294967295) : Small (hear V i x) := fun k => by
  by_cases hk : k < V.l.length
  · rw [hear_at V i x hk]
    unfold one
    split
    · exact hx
    · exact h k
  · have : (hear V i x).l.getD k 0 = 0 := by simp [List.getD, hear_len, hk]
    rw [this]; omega
theorem small_start (n node span : Int) : Small (start n node span 0) := fun k => by
  have : (start n node span 0).l.getD k 0 = 0 := by
    simp only [start, List.getD]
    by_cases hk : k < n.toNat
    · simp [hk]
    · simp [hk]
  rw [this]; omega
theorem small_hears (n : Int) : ∀ (l : List Int) (V : Vw), Small V → (∀ x ∈ l, 0 ≤ x ∧ x ≤ 4294967295) → Small (hears n V l)
  | [], _, h, _ => h
  | x :: l, V, h, hl => small_hears n l _ (small_hear h (by have := hl x (by simp); omega)) fun y hy => hl y (by simp [hy])
/-- What was heard of a node is its greatest reading. -/
theorem hear_max {V : Vw} {i : Nat} {x : Int} (hi : i < V.l.length) (k : Nat) : (hear V (i : Int) x).l.getD k 0 = if k = i then (if V.l.getD i 0 < x then x else V.l.getD i 0) else V.l.getD k 0 := by
  by_cases hk : k < V.l.length
  · rw [hear_at V _ x hk]
    unfold one
    by_cases e : k = i
    · subst e
      by_cases h2 : V.l.getD k 0 < x
      · simp
      · simp
    · have e2 : ¬ ((k : Int) = (i : Int)) := by omega
      rw [if_neg (fun h => e2 h.1), if_neg e]
  · have e : k ≠ i := by omega
    rw [if_neg e]
    simp [List.getD, hear_len, hk]
/-- A small span has passed. -/
theorem passed_small {a span now : Int} (h1 : 0 ≤ a ∧ a ≤ 4294967295) (h2 : 0 ≤ span ∧ span ≤ 4294967295) (h3 : 0 ≤ now ∧ now ≤ 4294967295) : cpassed a now span = decide (a + span ≤ now) := by
  unfold cpassed
  rw [Sat.fit_self (by omega) (by omega), Clock.add2, Sat.fit_self (by omega) (by omega), Sat.fit_self (by omega) (by omega), if_neg (by omega)]
theorem live_small {V : Vw} (hl : V.l.length ≤ 64) (hs : Small V) {now : Int} (h2 : 0 ≤ V.span ∧ V.span ≤ 4294967295) (h3 : 0 ≤ now ∧ now ≤ 4294967295) {k : Nat} (hk : k < V.l.length) : Ring.has (live V now) (k : Int) = (decide ((k : Int) = V.node) || decide (now < V.l.getD k 0 + V.span)) := by
  rw [has_live V hl now k, decide_eq_true hk, Bool.true_and]
  unfold isLive
  rw [passed_small (hs k) h2 h3]
  congr 1
  rw [Bool.eq_iff_iff]
  simp
end Go.Proofs.Ytgbenfdffhcjiaa.View
