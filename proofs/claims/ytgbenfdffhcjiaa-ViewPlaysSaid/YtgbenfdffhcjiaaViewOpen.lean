/-
  How arguments that are four numbers, pairs of numbers, words of 32 bits, and three of these are opened.
-/
import Derived.Test.YtgbenfdffhcjiaaViewPlays
import Derived.Test.YtgbenfdffhcjiaaViewSilent
import Derived.Test.YtgbenfdffhcjiaaArgs
import Derived.Test.YtgbenfdffhcjiaaCodecOpen
namespace Go.Proofs.Ytgbenfdffhcjiaa.View
open Go.ChangeShapes Go.WideShapes Go.RowKit

section
variable {H : Type} {enc : TypeId × Value → H} {w : World} {base : Nat} {spare : Nat → Bool} {held : Bool}
theorem one_int : Try.prog.cellsOf 3 = 1 := by kernel_rfl
theorem one_u32 : Try.prog.cellsOf 46 = 1 := by kernel_rfl
theorem two_pair : Try.prog.cellsOf 33 = 2 := by kernel_rfl
theorem u32_wf {a : Int} (h : (Lit.int .u32 a).wf = true) : 0 ≤ a ∧ a ≤ 4294967295 := by simp [Lit.wf, IntKind.min, IntKind.max, IntKind.signed, IntKind.bits] at h; omega
set_option maxRecDepth 100000 in
theorem open_four {r : Reach} {b0 : Nat} {v : Value} {d : DataW H} {ps : List MemPlace} (hval : Value.okWide Try.prog w r b0 22 v) (h : DataW.Trod enc Try.prog w base spare held 22 v d ps) :
    ∃ x y z u, v = .agg #[.int .i64 x, .int .i64 y, .int .i64 z, .int .i64 u] ∧ Num x ∧ Num y ∧ Num z ∧ Num u := by
  have ht := Try.underlying22
  obtain ⟨cs, rfl, hsz, _⟩ : ∃ cs, v = .agg cs ∧ cs.size = Try.prog.cellsOf 22 ∧ Row.okWide Try.prog w r b0 22 cs := by
    simpa [Value.okWide, ht] using hval
  have h4 : Try.prog.cellsOf 22 = 4 := by kernel_rfl
  rw [h4] at hsz
  obtain ⟨l⟩ := cs
  match l, hsz with
  | [c0, c1, c2, c3], _ =>
    obtain ⟨fuel, hf⟩ := h
    obtain ⟨xs, m, _, _, _, hxl, hx⟩ := DataW.trod_array ht hf
    have h0 := hx 0 (by omega)
    have h1 := hx 1 (by omega)
    have h2 := hx 2 (by omega)
    have h3 := hx 3 (by omega)
    rw [one_int, List.getElem?_eq_getElem (by omega)] at h0 h1 h2 h3
    obtain ⟨x, e0, _, w0⟩ := DataW.trod_int Try.underlying3 h0
    obtain ⟨y, e1, _, w1⟩ := DataW.trod_int Try.underlying3 h1
    obtain ⟨z, e2, _, w2⟩ := DataW.trod_int Try.underlying3 h2
    obtain ⟨u, e3, _, w3⟩ := DataW.trod_int Try.underlying3 h3
    simp [Value.cells] at e0 e1 e2 e3
    subst e0 e1 e2 e3
    exact ⟨x, y, z, u, rfl, Row.num_wf w0, Row.num_wf w1, Row.num_wf w2, Row.num_wf w3⟩
set_option maxRecDepth 100000 in
theorem open_three {r : Reach} {b0 : Nat} {v : Value} {d : DataW H} {ps : List MemPlace} (hval : Value.okWide Try.prog w r b0 47 v) (h : DataW.Trod enc Try.prog w base spare held 47 v d ps) :
    ∃ x y z, v = .agg #[.int .u32 x, .int .u32 y, .int .u32 z] ∧ (0 ≤ x ∧ x ≤ 4294967295) ∧ (0 ≤ y ∧ y ≤ 4294967295) ∧ (0 ≤ z ∧ z ≤ 4294967295) := by
  have ht := Try.underlying47
  obtain ⟨cs, rfl, hsz, _⟩ : ∃ cs, v = .agg cs ∧ cs.size = Try.prog.cellsOf 47 ∧ Row.okWide Try.prog w r b0 47 cs := by
    simpa [Value.okWide, ht] using hval
  have h4 : Try.prog.cellsOf 47 = 3 := by kernel_rfl
  rw [h4] at hsz
  obtain ⟨l⟩ := cs
  match l, hsz with
  | [c0, c1, c2], _ =>
    obtain ⟨fuel, hf⟩ := h
    obtain ⟨xs, m, _, _, _, hxl, hx⟩ := DataW.trod_array ht hf
    have h0 := hx 0 (by omega)
    have h1 := hx 1 (by omega)
    have h2 := hx 2 (by omega)
    rw [one_u32, List.getElem?_eq_getElem (by omega)] at h0 h1 h2
    obtain ⟨x, e0, _, w0⟩ := DataW.trod_int Try.underlying46 h0
    obtain ⟨y, e1, _, w1⟩ := DataW.trod_int Try.underlying46 h1
    obtain ⟨z, e2, _, w2⟩ := DataW.trod_int Try.underlying46 h2
    simp [Value.cells] at e0 e1 e2
    subst e0 e1 e2
    exact ⟨x, y, z, rfl, u32_wf w0, u32_wf w1, u32_wf w2⟩
/-- The two cells of a pair. -/
def cells2 (a : Int × Int) : Nat → Value
  | 0 => .int .i64 a.1
  | _ => .int .i64 a.2
set_option maxRecDepth 100000 in
theorem pair_of {fuel : Nat} {cs : List Value} {x : DataW H × List MemPlace} (hc : cs.length = 2) (ht : DataW.trod enc Try.prog w base spare held fuel 33 cs = some x) :
    ∃ a : Int × Int, (Num a.1 ∧ Num a.2) ∧ ∀ k, k < 2 → cs[k]? = some (cells2 a k) := by
  match cs, hc with
  | [c0, c1], _ =>
    obtain ⟨xs, m, _, _, _, hxl, hx⟩ := DataW.trod_array Try.underlying33 ht
    have h0 := hx 0 (by omega)
    have h1 := hx 1 (by omega)
    rw [one_int, List.getElem?_eq_getElem (by omega)] at h0 h1
    obtain ⟨x, e0, _, w0⟩ := DataW.trod_int Try.underlying3 h0
    obtain ⟨y, e1, _, w1⟩ := DataW.trod_int Try.underlying3 h1
    simp at e0 e1
    subst e0 e1
    refine ⟨(x, y), ⟨Row.num_wf w0, Row.num_wf w1⟩, fun k hk => ?_⟩
    match k, hk with
    | 0, _ | 1, _ => rfl
set_option maxRecDepth 100000 in
theorem open_pairs {r : Reach} {b0 : Nat} {v : Value} {d : DataW H} {ps : List MemPlace} (hval : Value.okWide Try.prog w r b0 23 v) (h : DataW.Trod enc Try.prog w base spare held 23 v d ps) :
    ∃ (p : Option Addr) (c : Nat) (l : List (Int × Int)), v = .slice p l.length c ∧ Kit.Lies pairs w p l ∧ ∀ a ∈ l, Num a.1 ∧ Num a.2 := by
  obtain ⟨p, c, l, e, -, ha, hn⟩ := Row.open_rows (0, 0) (fun a : Int × Int => Num a.1 ∧ Num a.2) cells2 Try.underlying23 two_pair (by decide) (fun fuel cs x hc ht => pair_of hc ht) hval h
  refine ⟨p, c, l, e, ?_, hn⟩
  rcases ha with ha | ⟨g, o, e2, ha⟩
  · exact .inl ha
  · refine .inr ⟨g, o, e2, fun j hj k u hu => ?_⟩
    match k, hu with
    | 0, hu =>
      have := ha j hj 0 (by decide)
      simp only [pairs, List.getElem?_cons_zero, Option.some.injEq] at hu
      subst hu
      exact this
    | 1, hu =>
      have := ha j hj 1 (by decide)
      simp only [pairs, List.getElem?_cons_succ, List.getElem?_cons_zero, Option.some.injEq] at hu
      subst hu
      exact this
set_option maxRecDepth 100000 in
theorem open_words {r : Reach} {b0 : Nat} {v : Value} {d : DataW H} {ps : List MemPlace} (hval : Value.okWide Try.prog w r b0 45 v) (h : DataW.Trod enc Try.prog w base spare held 45 v d ps) :
    ∃ (p : Option Addr) (c : Nat) (l : List Int), v = .slice p l.length c ∧ Kit.Lies words w p l ∧ ∀ a ∈ l, 0 ≤ a ∧ a ≤ 4294967295 := by
  obtain ⟨p, c, zs, e, -, -, hw, hz⟩ := Row.open_nums Try.underlying45 Try.underlying46 one_u32 hval h
  refine ⟨p, c, zs, e, ?_, fun a ha => u32_wf (hw a ha)⟩
  rcases hz with hz | ⟨b, o, e2, hc⟩
  · exact .inl hz
  · refine .inr ⟨b, o, e2, fun j hj k u hu => ?_⟩
    match k, hu with
    | 0, hu =>
      simp only [words, List.getElem?_cons_zero, Option.some.injEq] at hu
      subst hu
      have := hc j hj
      simpa [words] using this
end
end Go.Proofs.Ytgbenfdffhcjiaa.View
