/-
  How arguments that are four numbers, acts of an election, and moves of a hall are opened.
-/
import Derived.Test.YthehbphpchmdiaaElectPlays
import Derived.Test.YthehbphpchmdiaaElectAlone
import Derived.Test.YthehbphpchmdiaaArgs
namespace Go.Proofs.Ythehbphpchmdiaa.Elect
open Go.ChangeShapes Go.WideShapes Go.RowKit

section
variable {H : Type} {enc : TypeId × Value → H} {w : World} {base : Nat} {spare : Nat → Bool} {held : Bool}
theorem one_int : Try.prog.cellsOf 3 = 1 := by kernel_rfl
theorem one_u8 : Try.prog.cellsOf 5 = 1 := by kernel_rfl
theorem one_u16 : Try.prog.cellsOf 54 = 1 := by kernel_rfl
theorem one_u64 : Try.prog.cellsOf 34 = 1 := by kernel_rfl
theorem three_act : Try.prog.cellsOf 36 = 3 := by kernel_rfl
theorem three_move : Try.prog.cellsOf 56 = 3 := by kernel_rfl
theorem u16_wf {a : Int} (h : (Lit.int .u16 a).wf = true) : 0 ≤ a ∧ a ≤ 65535 := by simp [Lit.wf, IntKind.min, IntKind.max, IntKind.signed, IntKind.bits] at h; omega
theorem u64_wf {a : Int} (h : (Lit.int .u64 a).wf = true) : 0 ≤ a ∧ a < 18446744073709551616 := by simp [Lit.wf, IntKind.min, IntKind.max, IntKind.signed, IntKind.bits] at h; omega
set_option maxRecDepth 100000 in
theorem open_four {r : Reach} {b0 : Nat} {v : Value} {d : DataW H} {ps : List MemPlace} (hval : Value.okWide Try.prog w r b0 22 v) (h : DataW.Trod enc Try.prog w base spare held 22 v d ps) :
    ∃ x y z u, v = .agg #[.int .i64 x, .int .i64 y, .int .i64 z, .int .i64 u] ∧ Num x ∧ Num y ∧ Num z ∧ Num u := by
  have ht := Try.underlying22
  obtain ⟨cs, rfl, hsz, _⟩ : ∃ cs, v = .agg cs ∧ cs.size = Try.prog.cellsOf 22 ∧ Row.okWide Try.prog w r b0 22 cs := by
    simpa [Value.okWide, ht] using hval
  have h4 : Try.prog.cellsOf 22 = 4 := by kernel_rfl
  rw [h4] at hsz
  obtain ⟨l⟩ := cs
  match l, hsz with
  | [c0, c1, c2, c3], _ =>
    obtain ⟨fuel, hf⟩ := h
    obtain ⟨xs, m, _, _, _, hxl, hx⟩ := DataW.trod_array ht hf
    have h0 := hx 0 (by omega)
    have h1 := hx 1 (by omega)
    have h2 := hx 2 (by omega)
    have h3 := hx 3 (by omega)
    rw [one_int, List.getElem?_eq_getElem (by omega)] at h0 h1 h2 h3
    obtain ⟨x, e0, _, w0⟩ := DataW.trod_int Try.underlying3 h0
    obtain ⟨y, e1, _, w1⟩ := DataW.trod_int Try.underlying3 h1
    obtain ⟨z, e2, _, w2⟩ := DataW.trod_int Try.underlying3 h2
    obtain ⟨u, e3, _, w3⟩ := DataW.trod_int Try.underlying3 h3
    simp [Value.cells] at e0 e1 e2 e3
    subst e0 e1 e2 e3
    exact ⟨x, y, z, u, rfl, Row.num_wf w0, Row.num_wf w1, Row.num_wf w2, Row.num_wf w3⟩
/-- The three cells of an act. -/
def cells3 (a : Ac) : Nat → Value
  | 0 => .int .u8 a.kind
  | 1 => .int .i64 a.gen
  | _ => .int .u64 a.bits
set_option maxRecDepth 100000 in
theorem act_of {fuel : Nat} {cs : List Value} {x : DataW H × List MemPlace} (hc : cs.length = 3) (ht : DataW.trod enc Try.prog w base spare held fuel 36 cs = some x) :
    ∃ a : Ac, AcNum a ∧ ∀ k, k < 3 → cs[k]? = some (cells3 a k) := by
  match cs, hc with
  | [c0, c1, c2], _ =>
    obtain ⟨_, k, hk⟩ := Row.field_of Try.underlying36 ht
    obtain ⟨y0, g0⟩ := hk 0 _ [c0] rfl (by simp [one_u8])
    obtain ⟨y1, g1⟩ := hk 1 _ [c1] rfl (by simp [one_int])
    obtain ⟨y2, g2⟩ := hk 2 _ [c2] rfl (by simp [one_u64])
    obtain ⟨x0, e0, _, w0⟩ := DataW.trod_int Try.underlying5 g0
    obtain ⟨x1, e1, _, w1⟩ := DataW.trod_int Try.underlying3 g1
    obtain ⟨x2, e2, _, w2⟩ := DataW.trod_int Try.underlying34 g2
    simp only [List.cons.injEq, and_true] at e0 e1 e2
    subst e0 e1 e2
    refine ⟨⟨x0, x1, x2⟩, ⟨Row.u8_wf w0, Row.num_wf w1, u64_wf w2⟩, fun k hk => ?_⟩
    match k, hk with
    | 0, _ | 1, _ | 2, _ => rfl
set_option maxRecDepth 100000 in
theorem open_acts {r : Reach} {b0 : Nat} {v : Value} {d : DataW H} {ps : List MemPlace} (hval : Value.okWide Try.prog w r b0 23 v) (h : DataW.Trod enc Try.prog w base spare held 23 v d ps) :
    ∃ (p : Option Addr) (c : Nat) (l : List Ac), v = .slice p l.length c ∧ Kit.Lies acts w p l ∧ ∀ a ∈ l, AcNum a := by
  obtain ⟨p, c, l, e, -, ha, hn⟩ := Row.open_rows ⟨0, 0, 0⟩ AcNum cells3 Try.underlying23 three_act (by decide) (fun fuel cs x hc ht => act_of hc ht) hval h
  refine ⟨p, c, l, e, ?_, hn⟩
  rcases ha with ha | ⟨g, o, e2, ha⟩
  · exact .inl ha
  · refine .inr ⟨g, o, e2, fun j hj k u hu => ?_⟩
    have hk : k < 3 := (List.getElem?_eq_some_iff.1 hu).1
    have q := ha j hj k hk
    match k, hk with
    | 0, _ | 1, _ | 2, _ => exact q.trans hu
/-- The three cells of a move. -/
def mcells (a : Mv) : Nat → Value
  | 0 => .int .u8 a.kind
  | 1 => .int .u8 a.who
  | _ => .int .u16 a.what
set_option maxRecDepth 100000 in
theorem move_of {fuel : Nat} {cs : List Value} {x : DataW H × List MemPlace} (hc : cs.length = 3) (ht : DataW.trod enc Try.prog w base spare held fuel 56 cs = some x) :
    ∃ a : Mv, MvNum a ∧ ∀ k, k < 3 → cs[k]? = some (mcells a k) := by
  match cs, hc with
  | [c0, c1, c2], _ =>
    obtain ⟨_, k, hk⟩ := Row.field_of Try.underlying56 ht
    obtain ⟨y0, g0⟩ := hk 0 _ [c0] rfl (by simp [one_u8])
    obtain ⟨y1, g1⟩ := hk 1 _ [c1] rfl (by simp [one_u8])
    obtain ⟨y2, g2⟩ := hk 2 _ [c2] rfl (by simp [one_u16])
    obtain ⟨x0, e0, _, w0⟩ := DataW.trod_int Try.underlying5 g0
    obtain ⟨x1, e1, _, w1⟩ := DataW.trod_int Try.underlying5 g1
    obtain ⟨x2, e2, _, w2⟩ := DataW.trod_int Try.underlying54 g2
    simp only [List.cons.injEq, and_true] at e0 e1 e2
    subst e0 e1 e2
    refine ⟨⟨x0, x1, x2⟩, ⟨Row.u8_wf w0, Row.u8_wf w1, u16_wf w2⟩, fun k hk => ?_⟩
    match k, hk with
    | 0, _ | 1, _ | 2, _ => rfl
set_option maxRecDepth 100000 in
theorem open_moves {r : Reach} {b0 : Nat} {v : Value} {d : DataW H} {ps : List MemPlace} (hval : Value.okWide Try.prog w r b0 46 v) (h : DataW.Trod enc Try.prog w base spare held 46 v d ps) :
    ∃ (p : Option Addr) (c : Nat) (l : List Mv), v = .slice p l.length c ∧ Kit.Lies movesE w p l ∧ ∀ a ∈ l, MvNum a := by
  obtain ⟨p, c, l, e, -, ha, hn⟩ := Row.open_rows ⟨0, 0, 0⟩ MvNum mcells Try.underlying46 three_move (by decide) (fun fuel cs x hc ht => move_of hc ht) hval h
  refine ⟨p, c, l, e, ?_, hn⟩
  rcases ha with ha | ⟨g, o, e2, ha⟩
  · exact .inl ha
  · refine .inr ⟨g, o, e2, fun j hj k u hu => ?_⟩
    have hk : k < 3 := (List.getElem?_eq_some_iff.1 hu).1
    have q := ha j hj k hk
    match k, hk with
    | 0, _ | 1, _ | 2, _ => exact q.trans hu
end
end Go.Proofs.Ythehbphpchmdiaa.Elect
