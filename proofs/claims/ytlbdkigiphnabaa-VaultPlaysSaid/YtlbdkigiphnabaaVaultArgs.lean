/-
  How the arguments of layer 7's laws are opened: a slice of states, two states, a slice of acts.
-/
import Derived.Test.YtlbdkigiphnabaaLawRow
import Derived.Test.YtlbdkigiphnabaaVaultPlain
import Derived.Deep.Slices
import Derived.WalkKit
import Derived.ProofKit
namespace Go.Proofs.Ytlbdkigiphnabaa.Vault
open Go.ChangeShapes Go.WideShapes Go.RowKit

/-- An int. -/
def Num (x : Int) : Prop := -9223372036854775808 ≤ x ∧ x ≤ 9223372036854775807
def Nums (s : Sv) : Prop := Num s.p ∧ Num s.g ∧ Num s.h ∧ Num s.r
theorem num_wf {a : Int} (h : (Lit.int .i64 a).wf = true) : Num a := by simp [Lit.wf, IntKind.min, IntKind.max, IntKind.signed, IntKind.bits] at h; unfold Num; omega
theorem u8_wf {a : Int} (h : (Lit.int .u8 a).wf = true) : 0 ≤ a ∧ a < 256 := by simp [Lit.wf, IntKind.min, IntKind.max, IntKind.signed, IntKind.bits] at h; omega
theorem u16_wf {a : Int} (h : (Lit.int .u16 a).wf = true) : 0 ≤ a ∧ a < 65536 := by simp [Lit.wf, IntKind.min, IntKind.max, IntKind.signed, IntKind.bits] at h; omega

/-- An act: its kind, its state, its number. -/
structure Ac where
  kind : Int
  s : Sv
  keep : Int
def noAc : Ac := ⟨0, zero, 0⟩

/-- A state that lies in memory. -/
def At (w : World) (g o : Nat) (s : Sv) : Prop := w.cell? ⟨g, o, none⟩ = some (.int .i64 s.p) ∧ w.cell? ⟨g, o + 1, none⟩ = some (.int .i64 s.g) ∧ w.cell? ⟨g, o + 2, none⟩ = some (.int .i64 s.h) ∧ w.cell? ⟨g, o + 3, none⟩ = some (.int .i64 s.r)
def StatesAt (w : World) (p : Option Addr) (l : List Sv) : Prop := l = [] ∨ ∃ g o, p = some ⟨g, o, none⟩ ∧ ∀ j, j < l.length → At w g (o + j * 4) (l.getD j zero)
def ActsAt (w : World) (p : Option Addr) (l : List Ac) : Prop :=
  l = [] ∨ ∃ g o, p = some ⟨g, o, none⟩ ∧ ∀ j, j < l.length → w.cell? ⟨g, o + j * 6, none⟩ = some (.int .u8 (l.getD j noAc).kind) ∧ At w g (o + j * 6 + 1) (l.getD j noAc).s ∧ w.cell? ⟨g, o + j * 6 + 5, none⟩ = some (.int .i64 (l.getD j noAc).keep)

section
variable {H : Type} {enc : TypeId × Value → H} {P : Program} {w : World} {base : Nat} {spare : Nat → Bool} {held : Bool}
/-- A field of a struct, with its own cells. -/
theorem field_of {t : TypeId} {fs : Array Field} {fuel : Nat} {cs : List Value} {x : DataW H × List MemPlace} (ht : P.underlying t = some (.struct fs)) (h : DataW.trod enc P w base spare held fuel t cs = some x) :
    cs.length = P.cellsOf t ∧ ∃ n, ∀ (i : Nat) (f : Field) (L : List Value), fs[i]? = some f → (cs.drop f.offset).take (P.cellsOf f.type) = L → ∃ y, DataW.trod enc P w base spare held n f.type L = some y := by
  obtain ⟨xs, n, _, _, hcl, hlen, hf⟩ := DataW.trod_struct ht h
  refine ⟨hcl, n, fun i f L hi hL => ?_⟩
  have h1 := hf i f hi
  rw [hL] at h1
  have hlt : i < xs.length := by rw [hlen]; exact (Array.getElem?_eq_some_iff.1 hi).1
  exact ⟨_, h1.trans (List.getElem?_eq_getElem hlt)⟩
end
/-- One thing for each number: all of them, in a list. -/
theorem list_of {α : Type} (z : α) {Q : Nat → α → Prop} : ∀ (n : Nat), (∀ i, i < n → ∃ r, Q i r) → ∃ l : List α, l.length = n ∧ ∀ i, i < n → Q i (l.getD i z)
  | 0, _ => ⟨[], rfl, fun i hi => absurd hi (Nat.not_lt_zero i)⟩
  | n + 1, h => by
    obtain ⟨l, hl, hq⟩ := list_of z n fun i hi => h i (by omega)
    obtain ⟨r, hr⟩ := h n (by omega)
    refine ⟨l ++ [r], by simp [hl], fun i hi => ?_⟩
    by_cases e : i < n
    · have : (l ++ [r]).getD i z = l.getD i z := by simp [List.getD, List.getElem?_append_left (show i < l.length by omega)]
      rw [this]
      exact hq i e
    · obtain rfl : i = n := by omega
      have : (l ++ [r]).getD i z = r := by simp [List.getD, ← hl]
      rw [this]
      exact hr

section
variable {H : Type} {enc : TypeId × Value → H} {w : World} {base : Nat} {spare : Nat → Bool} {held : Bool}
theorem one_u8 : Try.prog.cellsOf 5 = 1 := by kernel_rfl
theorem one_int : Try.prog.cellsOf 3 = 1 := by kernel_rfl
theorem four_state : Try.prog.cellsOf 25 = 4 := by kernel_rfl
theorem six_act : Try.prog.cellsOf 44 = 6 := by kernel_rfl

set_option maxRecDepth 100000 in
/-- Four cells that are a state. -/
theorem state_of {fuel : Nat} {c0 c1 c2 c3 : Value} {x : DataW H × List MemPlace} (ht : DataW.trod enc Try.prog w base spare held fuel 25 [c0, c1, c2, c3] = some x) :
    ∃ s : Sv, Nums s ∧ c0 = .int .i64 s.p ∧ c1 = .int .i64 s.g ∧ c2 = .int .i64 s.h ∧ c3 = .int .i64 s.r := by
  obtain ⟨_, k, hk⟩ := field_of Try.underlying25 ht
  obtain ⟨y0, g0⟩ := hk 0 _ [c0] rfl (by simp [one_int])
  obtain ⟨y1, g1⟩ := hk 1 _ [c1] rfl (by simp [one_int])
  obtain ⟨y2, g2⟩ := hk 2 _ [c2] rfl (by simp [one_int])
  obtain ⟨y3, g3⟩ := hk 3 _ [c3] rfl (by simp [one_int])
  obtain ⟨x0, e0, _, w0⟩ := DataW.trod_int Try.underlying3 g0
  obtain ⟨x1, e1, _, w1⟩ := DataW.trod_int Try.underlying3 g1
  obtain ⟨x2, e2, _, w2⟩ := DataW.trod_int Try.underlying3 g2
  obtain ⟨x3, e3, _, w3⟩ := DataW.trod_int Try.underlying3 g3
  simp only [List.cons.injEq, and_true] at e0 e1 e2 e3
  exact ⟨⟨x0, x1, x2, x3⟩, ⟨num_wf w0, num_wf w1, num_wf w2, num_wf w3⟩, e0, e1, e2, e3⟩

set_option maxRecDepth 100000 in
/-- A slice of states that came in. -/
theorem open_states {r : Reach} {b0 : Nat} {v : Value} {d : DataW H} {ps : List MemPlace} (hval : Value.okWide Try.prog w r b0 62 v) (h : DataW.Trod enc Try.prog w base spare held 62 v d ps) :
    ∃ (p : Option Addr) (c : Nat) (l : List Sv), v = .slice p l.length c ∧ (l.length : Int) ≤ 9223372036854775807 ∧ StatesAt w p l ∧ ∀ s ∈ l, Nums s := by
  obtain ⟨a0, len, cap, rfl⟩ := okWide_slice Try.underlying62 hval
  obtain ⟨fuel, hf⟩ := h
  rcases Deep.open_slice Try.underlying62 hf with ⟨h0, _⟩ | ⟨a, len0, cap0, m, n, D, Pl, h0, _, hlc, hcm, hm, _, hx⟩
  · simp [Value.cells] at h0
    obtain ⟨rfl, rfl, rfl⟩ := h0
    exact ⟨none, 0, [], rfl, by simp, .inl rfl, fun r hr => by cases hr⟩
  · simp [Value.cells] at h0
    obtain ⟨rfl, rfl, rfl⟩ := h0
    rw [four_state] at hx
    have hlm : len ≤ m := by rw [hm]; split <;> omega
    have key : ∀ i, i < len → ∃ s : Sv, Nums s ∧ w.cell? (a.add (i * 4)) = some (.int .i64 s.p) ∧ w.cell? (a.add (i * 4 + 1)) = some (.int .i64 s.g) ∧ w.cell? (a.add (i * 4 + 2)) = some (.int .i64 s.h) ∧ w.cell? (a.add (i * 4 + 3)) = some (.int .i64 s.r) := by
      intro i hi
      obtain ⟨cs, hcs, ht⟩ := hx i (by omega)
      obtain ⟨_, hcl, hat⟩ := World.cells?_some hcs
      match cs, hcl with
      | [c0, c1, c2, c3], _ =>
        obtain ⟨s, hs, rfl, rfl, rfl, rfl⟩ := state_of ht
        have q0 := hat 0 (by decide)
        have q1 := hat 1 (by decide)
        have q2 := hat 2 (by decide)
        have q3 := hat 3 (by decide)
        rw [Deep.add_add] at q0 q1 q2 q3
        exact ⟨s, hs, q0, q1, q2, q3⟩
    by_cases hl : len = 0
    · subst hl
      exact ⟨some a, cap, [], rfl, by simp, .inl rfl, fun r hr => by cases hr⟩
    · obtain ⟨b, o, sp⟩ := a
      obtain ⟨r0, _, hs, _⟩ := key 0 (by omega)
      have hsp : sp = none := by simpa [Addr.add] using World.cell?_spot hs
      subst hsp
      obtain ⟨l, hll, hq⟩ := list_of zero len key
      refine ⟨some ⟨b, o, none⟩, cap, l, by rw [hll], (by rw [hll]; unfold maxLen at hcm; omega), .inr ⟨b, o, rfl, fun j hj => ?_⟩, fun r hr => ?_⟩
      · obtain ⟨_, q0, q1, q2, q3⟩ := hq j (by omega)
        rw [add_plain] at q0 q1 q2 q3
        exact ⟨q0, q1, q2, q3⟩
      · obtain ⟨j, hj, e⟩ := List.mem_iff_getElem.1 hr
        have := (hq j (by omega)).1
        have e2 : l.getD j zero = r := by simp [List.getD, hj, e]
        rw [e2] at this
        exact this

set_option maxRecDepth 100000 in
/-- A slice of acts that came in. -/
theorem open_acts {r : Reach} {b0 : Nat} {v : Value} {d : DataW H} {ps : List MemPlace} (hval : Value.okWide Try.prog w r b0 23 v) (h : DataW.Trod enc Try.prog w base spare held 23 v d ps) :
    ∃ (p : Option Addr) (c : Nat) (l : List Ac), v = .slice p l.length c ∧ (l.length : Int) ≤ 9223372036854775807 ∧ ActsAt w p l ∧ ∀ a ∈ l, 0 ≤ a.kind ∧ a.kind < 256 ∧ Nums a.s ∧ Num a.keep := by
  obtain ⟨a0, len, cap, rfl⟩ := okWide_slice Try.underlying23 hval
  obtain ⟨fuel, hf⟩ := h
  rcases Deep.open_slice Try.underlying23 hf with ⟨h0, _⟩ | ⟨a, len0, cap0, m, n, D, Pl, h0, _, hlc, hcm, hm, _, hx⟩
  · simp [Value.cells] at h0
    obtain ⟨rfl, rfl, rfl⟩ := h0
    exact ⟨none, 0, [], rfl, by simp, .inl rfl, fun r hr => by cases hr⟩
  · simp [Value.cells] at h0
    obtain ⟨rfl, rfl, rfl⟩ := h0
    rw [six_act] at hx
    have hlm : len ≤ m := by rw [hm]; split <;> omega
    have key : ∀ i, i < len → ∃ c : Ac, (0 ≤ c.kind ∧ c.kind < 256 ∧ Nums c.s ∧ Num c.keep) ∧ w.cell? (a.add (i * 6)) = some (.int .u8 c.kind) ∧ w.cell? (a.add (i * 6 + 1)) = some (.int .i64 c.s.p) ∧ w.cell? (a.add (i * 6 + 2)) = some (.int .i64 c.s.g) ∧
        w.cell? (a.add (i * 6 + 3)) = some (.int .i64 c.s.h) ∧ w.cell? (a.add (i * 6 + 4)) = some (.int .i64 c.s.r) ∧ w.cell? (a.add (i * 6 + 5)) = some (.int .i64 c.keep) := by
      intro i hi
      obtain ⟨cs, hcs, ht⟩ := hx i (by omega)
      obtain ⟨_, hcl, hat⟩ := World.cells?_some hcs
      match cs, hcl with
      | [c0, c1, c2, c3, c4, c5], _ =>
        obtain ⟨_, k, hk⟩ := field_of Try.underlying44 ht
        obtain ⟨y0, g0⟩ := hk 0 _ [c0] rfl (by simp [one_u8])
        obtain ⟨y1, g1⟩ := hk 1 _ [c1, c2, c3, c4] rfl (by simp [four_state])
        obtain ⟨y2, g2⟩ := hk 2 _ [c5] rfl (by simp [one_int])
        obtain ⟨x0, e0, _, w0⟩ := DataW.trod_int Try.underlying5 g0
        obtain ⟨x2, e2, _, w2⟩ := DataW.trod_int Try.underlying3 g2
        obtain ⟨s, hs, rfl, rfl, rfl, rfl⟩ := state_of g1
        simp only [List.cons.injEq, and_true] at e0 e2
        subst e0 e2
        have q0 := hat 0 (by decide)
        have q1 := hat 1 (by decide)
        have q2 := hat 2 (by decide)
        have q3 := hat 3 (by decide)
        have q4 := hat 4 (by decide)
        have q5 := hat 5 (by decide)
        rw [Deep.add_add] at q0 q1 q2 q3 q4 q5
        exact ⟨⟨x0, s, x2⟩, ⟨(u8_wf w0).1, (u8_wf w0).2, hs, num_wf w2⟩, q0, q1, q2, q3, q4, q5⟩
    by_cases hl : len = 0
    · subst hl
      exact ⟨some a, cap, [], rfl, by simp, .inl rfl, fun r hr => by cases hr⟩
    · obtain ⟨b, o, sp⟩ := a
      obtain ⟨r0, _, hs, _⟩ := key 0 (by omega)
      have hsp : sp = none := by simpa [Addr.add] using World.cell?_spot hs
      subst hsp
      obtain ⟨l, hll, hq⟩ := list_of noAc len key
      refine ⟨some ⟨b, o, none⟩, cap, l, by rw [hll], (by rw [hll]; unfold maxLen at hcm; omega), .inr ⟨b, o, rfl, fun j hj => ?_⟩, fun r hr => ?_⟩
      · obtain ⟨_, q0, q1, q2, q3, q4, q5⟩ := hq j (by omega)
        rw [add_plain] at q0 q1 q2 q3 q4 q5
        exact ⟨q0, ⟨q1, q2, q3, q4⟩, q5⟩
      · obtain ⟨j, hj, e⟩ := List.mem_iff_getElem.1 hr
        have := (hq j (by omega)).1
        have e2 : l.getD j noAc = r := by simp [List.getD, hj, e]
        rw [e2] at this
        exact this

set_option maxRecDepth 100000 in
/-- Two states that came in. -/
theorem open_two_states {r : Reach} {b0 : Nat} {v : Value} {d : DataW H} {ps : List MemPlace} (hval : Value.okWide Try.prog w r b0 26 v) (h : DataW.Trod enc Try.prog w base spare held 26 v d ps) :
    ∃ a b : Sv, v = .agg #[.int .i64 a.p, .int .i64 a.g, .int .i64 a.h, .int .i64 a.r, .int .i64 b.p, .int .i64 b.g, .int .i64 b.h, .int .i64 b.r] ∧ Nums a ∧ Nums b := by
  have ht := Try.underlying26
  obtain ⟨cs, rfl, hsz, _⟩ : ∃ cs, v = .agg cs ∧ cs.size = Try.prog.cellsOf 26 ∧ Row.okWide Try.prog w r b0 26 cs := by
    simpa [Value.okWide, ht] using hval
  have h8 : Try.prog.cellsOf 26 = 8 := by kernel_rfl
  rw [h8] at hsz
  obtain ⟨l⟩ := cs
  match l, hsz with
  | [c0, c1, c2, c3, c4, c5, c6, c7], _ =>
    obtain ⟨fuel, hf⟩ := h
    obtain ⟨xs, m, _, _, _, hxl, hx⟩ := DataW.trod_array ht hf
    have h0 := hx 0 (by omega)
    have h1 := hx 1 (by omega)
    rw [four_state, List.getElem?_eq_getElem (by omega)] at h0 h1
    obtain ⟨a, ha, e0, e1, e2, e3⟩ := state_of (c0 := c0) (c1 := c1) (c2 := c2) (c3 := c3) h0
    obtain ⟨b, hb, e4, e5, e6, e7⟩ := state_of (c0 := c4) (c1 := c5) (c2 := c6) (c3 := c7) h1
    subst e0 e1 e2 e3 e4 e5 e6 e7
    exact ⟨a, b, rfl, ha, hb⟩
end
end Go.Proofs.Ytlbdkigiphnabaa.Vault
