/-
  How arguments that are slices of annonaref13's notes are opened.
-/
import Derived.Test.YtghbcknbkkhhpaaArgs
import Derived.Test.YtghbcknbkkhhpaaDemandWords
namespace Go.Proofs.Ytghbcknbkkhhpaa.Demand
open Go.ChangeShapes Go.WideShapes Go.RowKit

section
variable {H : Type} {enc : TypeId × Value → H} {w : World} {base : Nat} {spare : Nat → Bool} {held : Bool}
theorem one_int : Try.prog.cellsOf 3 = 1 := by kernel_rfl
theorem two_note : Try.prog.cellsOf 32 = 2 := by kernel_rfl
/-- The two cells of a note. -/
def cells2 (a : Nt) : Nat → Value
  | 0 => .int .i64 a.key
  | _ => .int .i64 a.spent
set_option maxRecDepth 100000 in
theorem note_of {fuel : Nat} {cs : List Value} {x : DataW H × List MemPlace} (hc : cs.length = 2) (ht : DataW.trod enc Try.prog w base spare held fuel 32 cs = some x) :
    ∃ a : Nt, NtNum a ∧ ∀ k, k < 2 → cs[k]? = some (cells2 a k) := by
  match cs, hc with
  | [c0, c1], _ =>
    obtain ⟨_, k, hk⟩ := Row.field_of Try.underlying32 ht
    obtain ⟨y0, g0⟩ := hk 0 _ [c0] rfl (by simp [one_int])
    obtain ⟨y1, g1⟩ := hk 1 _ [c1] rfl (by simp [one_int])
    obtain ⟨x0, rfl, w0⟩ := Row.int_of Try.underlying3 g0
    obtain ⟨x1, rfl, w1⟩ := Row.int_of Try.underlying3 g1
    refine ⟨⟨x0, x1⟩, ⟨w0, w1⟩, fun k hk => ?_⟩
    match k, hk with
    | 0, _ | 1, _ => rfl
set_option maxRecDepth 100000 in
/-- A slice of notes that came in. -/
theorem open_notes {r : Reach} {b0 : Nat} {v : Value} {d : DataW H} {ps : List MemPlace} (hval : Value.okWide Try.prog w r b0 22 v) (h : DataW.Trod enc Try.prog w base spare held 22 v d ps) :
    ∃ (p : Option Addr) (c : Nat) (l : List Nt), v = .slice p l.length c ∧ (l.length : Int) ≤ 9223372036854775807 ∧ Kit.Lies note w p l ∧ ∀ a ∈ l, NtNum a := by
  obtain ⟨p, c, l, e, hl, ha, hn⟩ := Row.open_rows z NtNum cells2 Try.underlying22 two_note (by decide) (fun fuel cs x hc ht => note_of hc ht) hval h
  refine ⟨p, c, l, e, hl, ?_, hn⟩
  rcases ha with ha | ⟨g, o, e2, ha⟩
  · exact .inl ha
  · refine .inr ⟨g, o, e2, fun j hj k u hu => ?_⟩
    match k, hu with
    | 0, hu =>
      have := ha j hj 0 (by decide)
      simp only [note, List.getElem?_cons_zero, Option.some.injEq] at hu
      subst hu
      exact this
    | 1, hu =>
      have := ha j hj 1 (by decide)
      simp only [note, List.getElem?_cons_succ, List.getElem?_cons_zero, Option.some.injEq] at hu
      subst hu
      exact this
end
end Go.Proofs.Ytghbcknbkkhhpaa.Demand
