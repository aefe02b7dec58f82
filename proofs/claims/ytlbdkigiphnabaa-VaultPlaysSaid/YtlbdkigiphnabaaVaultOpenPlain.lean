/-
  What the document's Open reads, plain: four numbers of a record, and whether the reader failed; and what a round of its loop keeps in memory.
-/
import Derived.Test.YtlbdkigiphnabaaVaultSync
namespace Go.Proofs.Ytlbdkigiphnabaa.Vault
open Go.RowKit
open _root_.Go.Proofs.Ytlbdkigiphnabaa.Codec (rUpto rBits num IsBytes St Rdr Stays Lies Cel)

/-- The greatest number. -/
def M : Int := 4611686018427387904
theorem upto_failed (b : List Int) : rUpto M (b, true) = (0, b, true) := by
  simp [rUpto, rBits]
theorem upto_no (b : List Int) (h : 8 ≤ b.length) (hn : M < num (b.take 8)) : rUpto M (b, false) = (0, b.drop 8, true) := by
  have h8 : ¬ b.length < 8 := by omega
  have ho : Codec.over M (num (b.take 8)) = true := by simp [Codec.over, M] at hn ⊢; omega
  simp [rUpto, rBits, h8, ho]
theorem upto_yes (b : List Int) (h : 8 ≤ b.length) (hn : num (b.take 8) ≤ M) : rUpto M (b, false) = (num (b.take 8), b.drop 8, false) := by
  have h8 : ¬ b.length < 8 := by omega
  have ho : Codec.over M (num (b.take 8)) = false := by simp [Codec.over, M] at hn ⊢; omega
  simp [rUpto, rBits, h8, ho]

/-- Four numbers, one behind the other. -/
theorem read_four (c : List Int) (h : 32 ≤ c.length) (x1 x2 x3 x4 : Int) (b1 b2 b3 b4 : List Int) (f1 f2 f3 f4 : Bool) (e1 : rUpto M (c, false) = (x1, b1, f1)) (e2 : rUpto M (b1, f1) = (x2, b2, f2)) (e3 : rUpto M (b2, f2) = (x3, b3, f3)) (e4 : rUpto M (b3, f3) = (x4, b4, f4)) :
    (f4 = true ∧ right (four c) = false) ∨ (f4 = false ∧ (⟨x1, x2, x3, x4⟩ : Sv) = four c ∧ b4 = c.drop 32) := by
  have hbad : ∀ y, M < y → may y = false := fun y hy => by simp [may, M] at hy ⊢; omega
  have l8 : (c.drop 8).length = c.length - 8 := by simp
  have l16 : (c.drop 16).length = c.length - 16 := by simp
  have l24 : (c.drop 24).length = c.length - 24 := by simp
  have d16 : (c.drop 8).drop 8 = c.drop 16 := by rw [List.drop_drop]
  have d24 : (c.drop 16).drop 8 = c.drop 24 := by rw [List.drop_drop]
  have d32 : (c.drop 24).drop 8 = c.drop 32 := by rw [List.drop_drop]
  by_cases h1 : M < num (c.take 8)
  · rw [upto_no c (by omega) h1] at e1
    simp only [Prod.mk.injEq] at e1
    obtain ⟨-, -, rfl⟩ := e1
    rw [upto_failed] at e2
    simp only [Prod.mk.injEq] at e2
    obtain ⟨-, -, rfl⟩ := e2
    rw [upto_failed] at e3
    simp only [Prod.mk.injEq] at e3
    obtain ⟨-, -, rfl⟩ := e3
    rw [upto_failed] at e4
    simp only [Prod.mk.injEq] at e4
    obtain ⟨-, -, rfl⟩ := e4
    exact .inl ⟨rfl, by simp [right, four, hbad _ h1]⟩
  · rw [upto_yes c (by omega) (by omega)] at e1
    simp only [Prod.mk.injEq] at e1
    obtain ⟨rfl, rfl, rfl⟩ := e1
    by_cases h2 : M < num ((c.drop 8).take 8)
    · rw [upto_no _ (by omega) h2] at e2
      simp only [Prod.mk.injEq] at e2
      obtain ⟨-, -, rfl⟩ := e2
      rw [upto_failed] at e3
      simp only [Prod.mk.injEq] at e3
      obtain ⟨-, -, rfl⟩ := e3
      rw [upto_failed] at e4
      simp only [Prod.mk.injEq] at e4
      obtain ⟨-, -, rfl⟩ := e4
      exact .inl ⟨rfl, by simp [right, four, hbad _ h2]⟩
    · rw [upto_yes _ (by omega) (by omega)] at e2
      simp only [Prod.mk.injEq] at e2
      obtain ⟨rfl, rfl, rfl⟩ := e2
      rw [d16] at e3
      by_cases h3 : M < num ((c.drop 16).take 8)
      · rw [upto_no _ (by omega) h3] at e3
        simp only [Prod.mk.injEq] at e3
        obtain ⟨-, -, rfl⟩ := e3
        rw [upto_failed] at e4
        simp only [Prod.mk.injEq] at e4
        obtain ⟨-, -, rfl⟩ := e4
        exact .inl ⟨rfl, by simp [right, four, hbad _ h3]⟩
      · rw [upto_yes _ (by omega) (by omega)] at e3
        simp only [Prod.mk.injEq] at e3
        obtain ⟨rfl, rfl, rfl⟩ := e3
        rw [d24] at e4
        by_cases h4 : M < num ((c.drop 24).take 8)
        · rw [upto_no _ (by omega) h4] at e4
          simp only [Prod.mk.injEq] at e4
          obtain ⟨-, -, rfl⟩ := e4
          exact .inl ⟨rfl, by simp [right, four, hbad _ h4]⟩
        · rw [upto_yes _ (by omega) (by omega)] at e4
          simp only [Prod.mk.injEq] at e4
          obtain ⟨rfl, rfl, rfl⟩ := e4
          exact .inr ⟨rfl, rfl, d32⟩

section
variable {w w' : World} {r : Option Nat}
theorem grown_setCell {b o : Nat} {u : Value} (h : w.grownBy w' r) (hb : w.heap.size ≤ b) : w.grownBy (w'.setCell ⟨b, o, none⟩ u) r :=
  ⟨h.os, h.tape, h.output, Nat.le_trans h.size (Codec.grown_set b o u).size, fun k hk hr => (Below.heap_setCell _ _ _ _ (by simp; omega)).trans (h.block k hk hr)⟩
end
end Go.Proofs.Ytlbdkigiphnabaa.Vault
