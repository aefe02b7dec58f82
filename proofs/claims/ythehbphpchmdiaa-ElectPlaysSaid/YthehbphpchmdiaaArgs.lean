/-
  How an argument that is a slice of structs is opened, whatever the structs are: its elements as a list, and each one's cells. Any function, any program.
-/
import Derived.Test.YthehbphpchmdiaaLawRow
import Derived.Deep.Slices
namespace Go.Proofs.Ythehbphpchmdiaa.Row
open Go.ChangeShapes Go.WideShapes Go.RowKit

theorem num_wf {a : Int} (h : (Lit.int .i64 a).wf = true) : -9223372036854775808 ≤ a ∧ a ≤ 9223372036854775807 := by simp [Lit.wf, IntKind.min, IntKind.max, IntKind.signed, IntKind.bits] at h; omega
theorem u8_wf {a : Int} (h : (Lit.int .u8 a).wf = true) : 0 ≤ a ∧ a ≤ 255 := by simp [Lit.wf, IntKind.min, IntKind.max, IntKind.signed, IntKind.bits] at h; omega

section
variable {H : Type} {enc : TypeId × Value → H} {P : Program} {w : World} {base : Nat} {spare : Nat → Bool} {held : Bool}
/-- A field of a struct, with its own cells. -/
theorem field_of {t : TypeId} {fs : Array Field} {fuel : Nat} {cs : List Value} {x : DataW H × List MemPlace} (ht : P.underlying t = some (.struct fs)) (h : DataW.trod enc P w base spare held fuel t cs = some x) :
    cs.length = P.cellsOf t ∧ ∃ n, ∀ (i : Nat) (f : Field) (L : List Value), fs[i]? = some f → (cs.drop f.offset).take (P.cellsOf f.type) = L → ∃ y, DataW.trod enc P w base spare held n f.type L = some y := by
  obtain ⟨xs, n, _, _, hcl, hlen, hf⟩ := DataW.trod_struct ht h
  refine ⟨hcl, n, fun i f L hi hL => ?_⟩
  have h1 := hf i f hi
  rw [hL] at h1
  have hlt : i < xs.length := by rw [hlen]; exact (Array.getElem?_eq_some_iff.1 hi).1
  exact ⟨_, h1.trans (List.getElem?_eq_getElem hlt)⟩
/-- One thing for each number: all of them, in a list. -/
theorem list_of {α : Type} (z : α) {Q : Nat → α → Prop} : ∀ (n : Nat), (∀ i, i < n → ∃ r, Q i r) → ∃ l : List α, l.length = n ∧ ∀ i, i < n → Q i (l.getD i z)
  | 0, _ => ⟨[], rfl, fun i hi => absurd hi (Nat.not_lt_zero i)⟩
  | n + 1, h => by
    obtain ⟨l, hl, hq⟩ := list_of z n fun i hi => h i (by omega)
    obtain ⟨r, hr⟩ := h n (by omega)
    refine ⟨l ++ [r], by simp [hl], fun i hi => ?_⟩
    by_cases e : i < n
    · have : (l ++ [r]).getD i z = l.getD i z := by simp [List.getD, List.getElem?_append_left (show i < l.length by omega)]
      rw [this]
      exact hq i e
    · obtain rfl : i = n := by omega
      have : (l ++ [r]).getD i z = r := by simp [List.getD, ← hl]
      rw [this]
      exact hr
/-- A slice of structs of n cells, each of which is V of a thing that is Q. -/
theorem open_rows {α : Type} (z : α) (Q : α → Prop) (V : α → Nat → Value) {r : Reach} {b0 n : Nat} {t e : TypeId} {v : Value} {d : DataW H} {ps : List MemPlace} (ht : P.underlying t = some (.slice e)) (hn : P.cellsOf e = n) (h1 : 0 < n)
    (one : ∀ fuel cs x, cs.length = n → DataW.trod enc P w base spare held fuel e cs = some x → ∃ a : α, Q a ∧ ∀ k, k < n → cs[k]? = some (V a k))
    (hval : Value.okWide P w r b0 t v) (h : DataW.Trod enc P w base spare held t v d ps) :
    ∃ (p : Option Addr) (c : Nat) (l : List α), v = .slice p l.length c ∧ (l.length : Int) ≤ 9223372036854775807 ∧ (l = [] ∨ ∃ g o, p = some ⟨g, o, none⟩ ∧ ∀ j, j < l.length → ∀ k, k < n → w.cell? ⟨g, o + j * n + k, none⟩ = some (V (l.getD j z) k)) ∧ ∀ a ∈ l, Q a := by
  obtain ⟨a0, len, cap, rfl⟩ := okWide_slice ht hval
  obtain ⟨fuel, hf⟩ := h
  rcases Deep.open_slice ht hf with ⟨h0, _⟩ | ⟨a, len0, cap0, m, fu, D, Pl, h0, _, hlc, hcm, hm, _, hx⟩
  · simp [Value.cells] at h0
    obtain ⟨rfl, rfl, rfl⟩ := h0
    exact ⟨none, 0, [], rfl, by simp, .inl rfl, fun r hr => by cases hr⟩
  · simp [Value.cells] at h0
    obtain ⟨rfl, rfl, rfl⟩ := h0
    rw [hn] at hx
    have hlm : len ≤ m := by rw [hm]; split <;> omega
    have key : ∀ i, i < len → ∃ c : α, Q c ∧ ∀ k, k < n → w.cell? (a.add (i * n + k)) = some (V c k) := by
      intro i hi
      obtain ⟨cs, hcs, ht'⟩ := hx i (by omega)
      obtain ⟨_, hcl, hat⟩ := World.cells?_some hcs
      obtain ⟨c, hc, hk⟩ := one _ cs _ hcl ht'
      refine ⟨c, hc, fun k hkn => ?_⟩
      have q := hat k hkn
      rw [Deep.add_add, hk k hkn] at q
      exact q
    by_cases hl : len = 0
    · subst hl
      exact ⟨some a, cap, [], rfl, by simp, .inl rfl, fun r hr => by cases hr⟩
    · obtain ⟨b, o, sp⟩ := a
      obtain ⟨r0, _, hs⟩ := key 0 (by omega)
      have hsp : sp = none := by simpa [Addr.add] using World.cell?_spot (hs 0 h1)
      subst hsp
      obtain ⟨l, hll, hq⟩ := list_of z len key
      refine ⟨some ⟨b, o, none⟩, cap, l, by rw [hll], (by rw [hll]; unfold maxLen at hcm; omega), .inr ⟨b, o, rfl, fun j hj k hk => ?_⟩, fun r hr => ?_⟩
      · have q := (hq j (by omega)).2 k hk
        rw [add_plain] at q
        rw [Nat.add_assoc]
        exact q
      · obtain ⟨j, hj, e⟩ := List.mem_iff_getElem.1 hr
        have := (hq j (by omega)).1
        have e2 : l.getD j z = r := by simp [List.getD, hj, e]
        rw [e2] at this
        exact this
/-- A struct of ints alone: its numbers, in the order of its fields (each field one cell). -/
theorem int_of {t : TypeId} (hi : P.underlying t = some (.int .i64)) {fuel : Nat} {c : Value} {x : DataW H × List MemPlace} (h : DataW.trod enc P w base spare held fuel t [c] = some x) : ∃ a : Int, c = .int .i64 a ∧ -9223372036854775808 ≤ a ∧ a ≤ 9223372036854775807 := by
  obtain ⟨a, e, _, w0⟩ := DataW.trod_int hi h
  simp only [List.cons.injEq, and_true] at e
  exact ⟨a, e, num_wf w0⟩
end
end Go.Proofs.Ythehbphpchmdiaa.Row
