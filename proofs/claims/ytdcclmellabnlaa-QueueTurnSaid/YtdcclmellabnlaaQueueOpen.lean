/-
  How arguments that are slices of annonalaw12's acts, are opened.
-/
import Derived.Test.YtdcclmellabnlaaArgs
import Derived.Test.YtdcclmellabnlaaQueuePlaysWay
namespace Go.Proofs.Ytdcclmellabnlaa.Queue
open Go.ChangeShapes Go.WideShapes Go.RowKit

section
variable {H : Type} {enc : TypeId × Value → H} {w : World} {base : Nat} {spare : Nat → Bool} {held : Bool}
theorem one_u8 : Try.prog.cellsOf 5 = 1 := by kernel_rfl
theorem one_int : Try.prog.cellsOf 3 = 1 := by kernel_rfl
theorem five_item : Try.prog.cellsOf 35 = 5 := by kernel_rfl
theorem six_act : Try.prog.cellsOf 37 = 6 := by kernel_rfl

set_option maxRecDepth 100000 in
/-- Five cells that are an item. -/
theorem item_of {fuel : Nat} {c0 c1 c2 c3 c4 : Value} {x : DataW H × List MemPlace} (ht : DataW.trod enc Try.prog w base spare held fuel 35 [c0, c1, c2, c3, c4] = some x) :
    ∃ y : It, Nums y ∧ c0 = .int .i64 y.id ∧ c1 = .int .i64 y.key ∧ c2 = .int .i64 y.cost ∧ c3 = .int .i64 y.cls ∧ c4 = .int .i64 y.til := by
  obtain ⟨_, k, hk⟩ := Row.field_of Try.underlying35 ht
  obtain ⟨y0, g0⟩ := hk 0 _ [c0] rfl (by simp [one_int])
  obtain ⟨y1, g1⟩ := hk 1 _ [c1] rfl (by simp [one_int])
  obtain ⟨y2, g2⟩ := hk 2 _ [c2] rfl (by simp [one_int])
  obtain ⟨y3, g3⟩ := hk 3 _ [c3] rfl (by simp [one_int])
  obtain ⟨y4, g4⟩ := hk 4 _ [c4] rfl (by simp [one_int])
  obtain ⟨x0, e0, w0⟩ := Row.int_of Try.underlying3 g0
  obtain ⟨x1, e1, w1⟩ := Row.int_of Try.underlying3 g1
  obtain ⟨x2, e2, w2⟩ := Row.int_of Try.underlying3 g2
  obtain ⟨x3, e3, w3⟩ := Row.int_of Try.underlying3 g3
  obtain ⟨x4, e4, w4⟩ := Row.int_of Try.underlying3 g4
  exact ⟨⟨x0, x1, x2, x3, x4⟩, ⟨w0, w1, w2, w3, w4⟩, e0, e1, e2, e3, e4⟩
/-- The six cells of an act. -/
def cells6 (a : Ac) : Nat → Value
  | 0 => .int .u8 a.kind
  | 1 => .int .i64 a.x.id
  | 2 => .int .i64 a.x.key
  | 3 => .int .i64 a.x.cost
  | 4 => .int .i64 a.x.cls
  | _ => .int .i64 a.x.til
set_option maxRecDepth 100000 in
theorem act_of {fuel : Nat} {cs : List Value} {x : DataW H × List MemPlace} (hc : cs.length = 6) (ht : DataW.trod enc Try.prog w base spare held fuel 37 cs = some x) :
    ∃ a : Ac, AcNum a ∧ ∀ k, k < 6 → cs[k]? = some (cells6 a k) := by
  match cs, hc with
  | [c0, c1, c2, c3, c4, c5], _ =>
    obtain ⟨_, k, hk⟩ := Row.field_of Try.underlying37 ht
    obtain ⟨y0, g0⟩ := hk 0 _ [c0] rfl (by simp [one_u8])
    obtain ⟨y1, g1⟩ := hk 1 _ [c1, c2, c3, c4, c5] rfl (by simp [five_item])
    obtain ⟨x0, e0, _, w0⟩ := DataW.trod_int Try.underlying5 g0
    obtain ⟨s, hs, rfl, rfl, rfl, rfl, rfl⟩ := item_of g1
    simp only [List.cons.injEq, and_true] at e0
    subst e0
    refine ⟨⟨x0, s⟩, ⟨Row.u8_wf w0, hs⟩, fun k hk => ?_⟩
    match k, hk with
    | 0, _ | 1, _ | 2, _ | 3, _ | 4, _ | 5, _ => rfl
set_option maxRecDepth 100000 in
/-- A slice of acts that came in. -/
theorem open_acts {r : Reach} {b0 : Nat} {v : Value} {d : DataW H} {ps : List MemPlace} (hval : Value.okWide Try.prog w r b0 22 v) (h : DataW.Trod enc Try.prog w base spare held 22 v d ps) :
    ∃ (p : Option Addr) (c : Nat) (l : List Ac), v = .slice p l.length c ∧ (l.length : Int) ≤ 9223372036854775807 ∧ ActsAt w p l ∧ ∀ a ∈ l, AcNum a := by
  obtain ⟨p, c, l, e, hl, ha, hn⟩ := Row.open_rows za AcNum cells6 Try.underlying22 six_act (by decide) (fun fuel cs x hc ht => act_of hc ht) hval h
  refine ⟨p, c, l, e, hl, ?_, hn⟩
  rcases ha with ha | ⟨g, o, e2, ha⟩
  · exact .inl ha
  · exact .inr ⟨g, o, e2, fun j hj => ⟨ha j hj 0 (by decide), ha j hj 1 (by decide), ha j hj 2 (by decide), ha j hj 3 (by decide), ha j hj 4 (by decide), ha j hj 5 (by decide)⟩⟩
end
end Go.Proofs.Ytdcclmellabnlaa.Queue
