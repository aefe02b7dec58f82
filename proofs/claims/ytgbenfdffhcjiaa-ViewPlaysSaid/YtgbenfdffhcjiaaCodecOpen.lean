/-
  How an argument that is a slice of numbers, or of structs of two numbers, is opened: its cells. Any program.
-/
import Derived.Test.YtgbenfdffhcjiaaLawRow
import Derived.WalkKit
import Derived.ProofKit
namespace Go.Proofs.Ytgbenfdffhcjiaa.Row
open Go.ChangeShapes Go.WideShapes Go.RowKit

section
variable {H : Type} {enc : TypeId × Value → H} {P : Program} {w : World} {base : Nat} {spare : Nat → Bool} {held : Bool}

/-- A slice of numbers that came in. -/
theorem open_nums {r : Reach} {b0 : Nat} {t e : TypeId} {k : IntKind} {v : Value} {d : DataW H} {ps : List MemPlace} (ht : P.underlying t = some (.slice e)) (he : P.underlying e = some (.int k)) (hc : P.cellsOf e = 1)
    (hval : Value.okWide P w r b0 t v) (h : DataW.Trod enc P w base spare held t v d ps) :
    ∃ (p : Option Addr) (c : Nat) (zs : List Int), v = .slice p zs.length c ∧ (p = none → zs = [] ∧ c = 0) ∧ (zs.length : Int) ≤ 9223372036854775807 ∧ (∀ n ∈ zs, (Lit.int k n).wf = true) ∧
      (zs = [] ∨ ∃ b o, p = some ⟨b, o, none⟩ ∧ ∀ j, j < zs.length → w.cell? ⟨b, o + j, none⟩ = some (.int k (zs.getD j 0))) := by
  obtain ⟨a0, len0, cap0, rfl⟩ := okWide_slice ht hval
  obtain ⟨fuel, hf⟩ := h
  rcases open_ints ht he hc hf with ⟨hcs, _⟩ | ⟨x, l, c, zs, hcs, _, hl, hm, hz, _, hcell, hwz⟩
  · simp [Value.cells] at hcs
    obtain ⟨rfl, rfl, rfl⟩ := hcs
    exact ⟨none, 0, [], rfl, fun _ => ⟨rfl, rfl⟩, by simp, (by intro n hn; cases hn), .inl rfl⟩
  · simp [Value.cells] at hcs
    obtain ⟨rfl, rfl, rfl⟩ := hcs
    have hlz : len0 ≤ zs.length := by rw [hz]; split <;> omega
    have hlen : (zs.take len0).length = len0 := by simp; omega
    refine ⟨some x, cap0, zs.take len0, by rw [hlen], (fun e => by cases e), (by rw [hlen]; unfold maxLen at hm; omega), fun n hn => hwz n (List.mem_of_mem_take hn), ?_⟩
    by_cases h0 : len0 = 0
    · left; simp [h0]
    · right
      obtain ⟨b, o, sp⟩ := x
      have hs : sp = none := by simpa [Addr.add] using World.cell?_spot (hcell 0 (by omega))
      subst hs
      refine ⟨b, o, rfl, fun j hj => ?_⟩
      rw [hlen] at hj
      have := hcell j (by omega)
      rw [add_plain] at this
      rw [this]
      simp [List.getD, hj]

/-- A slice of structs of two numbers that came in. -/
theorem open_twos {r : Reach} {b0 : Nat} {t e : TypeId} {f0 f1 : Field} {k0 k1 : IntKind} {v : Value} {d : DataW H} {ps : List MemPlace} (ht : P.underlying t = some (.slice e)) (he : P.underlying e = some (.struct #[f0, f1]))
    (ce : P.cellsOf e = 2) (o0 : f0.offset = 0) (o1 : f1.offset = 1) (c0 : P.cellsOf f0.type = 1) (c1 : P.cellsOf f1.type = 1) (u0 : P.underlying f0.type = some (.int k0)) (u1 : P.underlying f1.type = some (.int k1))
    (hval : Value.okWide P w r b0 t v) (h : DataW.Trod enc P w base spare held t v d ps) :
    ∃ (p : Option Addr) (c : Nat) (zs : List (Int × Int)), v = .slice p zs.length c ∧ (zs.length : Int) ≤ 9223372036854775807 ∧ (∀ n ∈ zs, (Lit.int k0 n.1).wf = true ∧ (Lit.int k1 n.2).wf = true) ∧
      (zs = [] ∨ ∃ b o, p = some ⟨b, o, none⟩ ∧ ∀ j, j < zs.length → w.cell? ⟨b, o + j * 2, none⟩ = some (.int k0 (zs.getD j (0, 0)).1) ∧ w.cell? ⟨b, o + j * 2 + 1, none⟩ = some (.int k1 (zs.getD j (0, 0)).2)) := by
  obtain ⟨a0, len0, cap0, rfl⟩ := okWide_slice ht hval
  obtain ⟨fuel, hf⟩ := h
  rcases Deep.open_slice_pairs ht he ce o0 o1 c0 c1 hf with ⟨h0, _⟩ | ⟨a, len, cap, m, n, V0, V1, D0, D1, P0, P1, h0, _, hlc, hcm, hm, _, hx⟩
  · simp [Value.cells] at h0
    obtain ⟨rfl, rfl, rfl⟩ := h0
    exact ⟨none, 0, [], rfl, by simp, (by intro n hn; cases hn), .inl rfl⟩
  · simp [Value.cells] at h0
    obtain ⟨rfl, rfl, rfl⟩ := h0
    have hlm : len0 ≤ m := by rw [hm]; split <;> omega
    have key : ∀ i, i < len0 → ∃ x y, V0 i = .int k0 x ∧ V1 i = .int k1 y ∧ (Lit.int k0 x).wf = true ∧ (Lit.int k1 y).wf = true := by
      intro i hi
      obtain ⟨_, _, g2, g3⟩ := hx i (by omega)
      obtain ⟨x, e0, _, wx⟩ := DataW.trod_int u0 g2
      obtain ⟨y, e1, _, wy⟩ := DataW.trod_int u1 g3
      simp only [List.cons.injEq, and_true] at e0 e1
      exact ⟨x, y, e0, e1, wx, wy⟩
    refine ⟨some a, cap0, (List.range len0).map fun i => (intOf (V0 i), intOf (V1 i)), by simp, (by simp; unfold maxLen at hcm; omega), ?_, ?_⟩
    · intro z hz
      simp only [List.mem_map, List.mem_range] at hz
      obtain ⟨i, hi, rfl⟩ := hz
      obtain ⟨x, y, e0, e1, wx, wy⟩ := key i hi
      simp only [e0, e1, intOf]
      exact ⟨wx, wy⟩
    · by_cases hl : len0 = 0
      · left; simp [hl]
      · right
        obtain ⟨b, o, sp⟩ := a
        have hs := (hx 0 (by omega)).1
        have hsp : sp = none := by simpa [Addr.add] using World.cell?_spot hs
        subst hsp
        refine ⟨b, o, rfl, fun i hi => ?_⟩
        simp only [List.length_map, List.length_range] at hi
        obtain ⟨g0, g1, _, _⟩ := hx i (by omega)
        obtain ⟨x, y, e0, e1, _, _⟩ := key i hi
        rw [add_plain] at g0 g1
        rw [e0] at g0
        rw [e1] at g1
        have ez : ((List.range len0).map fun i => (intOf (V0 i), intOf (V1 i))).getD i (0, 0) = (x, y) := by
          simp [List.getD, hi, e0, e1, intOf]
        rw [ez]
        exact ⟨g0, g1⟩
end
theorem u64_bounds {a : Int} (h : (Lit.int .u64 a).wf = true) : 0 ≤ a ∧ a < 18446744073709551616 := by simp [Lit.wf, IntKind.min, IntKind.max, IntKind.signed, IntKind.bits] at h; omega
theorem u8_bounds {a : Int} (h : (Lit.int .u8 a).wf = true) : 0 ≤ a ∧ a < 256 := by simp [Lit.wf, IntKind.min, IntKind.max, IntKind.signed, IntKind.bits] at h; omega
theorem i64_bounds {a : Int} (h : (Lit.int .i64 a).wf = true) : -9223372036854775808 ≤ a ∧ a ≤ 9223372036854775807 := by simp [Lit.wf, IntKind.min, IntKind.max, IntKind.signed, IntKind.bits] at h; omega
end Go.Proofs.Ytgbenfdffhcjiaa.Row
