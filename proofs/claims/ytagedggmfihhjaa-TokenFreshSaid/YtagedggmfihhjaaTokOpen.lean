/-
  How arguments that are tokens, slices of stamps, four numbers, and three places are opened.
-/
import Derived.Test.YtagedggmfihhjaaFrmOpen
import Derived.Test.YtagedggmfihhjaaTokWay
namespace Go.Proofs.Ytagedggmfihhjaa.Token
open Go.ChangeShapes Go.WideShapes Go.RowKit Codec
open _root_.Go.Proofs.Ytagedggmfihhjaa.Frame (Rw Tb Tk RowsAt field_of rows_of ints_of one_int one_ints one_rows two_table five_token)

section
variable {H : Type} {enc : TypeId × Value → H} {w : World} {base : Nat} {spare : Nat → Bool} {held : Bool}
set_option maxRecDepth 100000 in
theorem open_token {r : Reach} {b0 : Nat} {v : Value} {d : DataW H} {ps : List MemPlace} (hval : Value.okWide Try.prog w r b0 29 v) (h : DataW.Trod enc Try.prog w base spare held 29 v d ps) :
    ∃ (t : Tk) (sp p : Option Addr) (cs c : Nat), v = tokVal t sp cs p c ∧ (t.stamps.length : Int) ≤ 9223372036854775807 ∧ (t.table.rows.length : Int) ≤ 9223372036854775807 ∧ Ints w sp t.stamps ∧ RowsAt w p t.table.rows ∧ Num t.hop := by
  obtain ⟨cs, rfl, hsz⟩ := okWide_struct Try.underlying29 hval
  obtain ⟨fuel, hf⟩ := h
  obtain ⟨l⟩ := cs
  match l, hsz.trans five_token with
  | [c0, c1, c2, c3, c4], _ =>
    have hf1 : DataW.trod enc Try.prog w base spare held fuel 29 [c0, c1, c2, c3, c4] = some _ := hf
    obtain ⟨_, k2, hk2⟩ := field_of Try.underlying29 hf1
    obtain ⟨z0, j0⟩ := hk2 0 _ [c0] rfl (by simp [one_int])
    obtain ⟨z1, j1⟩ := hk2 1 _ [c1] rfl (by simp [one_int])
    obtain ⟨z2, j2⟩ := hk2 2 _ [c2] rfl (by simp [one_ints])
    obtain ⟨z3, j3⟩ := hk2 3 _ [c3, c4] rfl (by simp [two_table])
    obtain ⟨_, k3, hk3⟩ := field_of Try.underlying27 j3
    obtain ⟨t0, m0⟩ := hk3 0 _ [c3] rfl (by simp [one_int])
    obtain ⟨t1, m1⟩ := hk3 1 _ [c4] rfl (by simp [one_rows])
    clear hk2 hk3 hf hf1
    obtain ⟨x6, e6, _, _⟩ := DataW.trod_int Try.underlying3 j0
    obtain ⟨x7, e7, _, w7⟩ := DataW.trod_int Try.underlying3 j1
    obtain ⟨x9, e9, _, _⟩ := DataW.trod_int Try.underlying3 m0
    simp only [List.cons.injEq, and_true] at e6 e7 e9
    obtain ⟨sp, cs, st, e8, -, hs, hst⟩ := ints_of Try.underlying24 Try.underlying3 one_int j2
    obtain ⟨p, c, rows, e10, hr, hrw, -⟩ := rows_of m1
    subst e6 e7 e8 e9 e10
    exact ⟨⟨x6, x7, st, ⟨x9, rows⟩⟩, sp, p, cs, c, rfl, hs, hr, hst, hrw, num_of w7⟩
set_option maxRecDepth 100000 in
theorem open_stamps {r : Reach} {b0 : Nat} {v : Value} {d : DataW H} {ps : List MemPlace} (hval : Value.okWide Try.prog w r b0 24 v) (h : DataW.Trod enc Try.prog w base spare held 24 v d ps) :
    ∃ (p : Option Addr) (c : Nat) (l : List Int), v = .slice p l.length c ∧ (l.length : Int) ≤ 9223372036854775807 ∧ Ints w p l := by
  obtain ⟨a0, len0, cap0, rfl⟩ := okWide_slice Try.underlying24 hval
  obtain ⟨fuel, hf⟩ := h
  obtain ⟨p, c, zs, e, -, hl, hi⟩ := ints_of (v := .slice a0 len0 cap0) Try.underlying24 Try.underlying3 one_int hf
  exact ⟨p, c, zs, e, hl, hi⟩
set_option maxRecDepth 100000 in
theorem open_four {r : Reach} {b0 : Nat} {v : Value} {d : DataW H} {ps : List MemPlace} (hval : Value.okWide Try.prog w r b0 22 v) (h : DataW.Trod enc Try.prog w base spare held 22 v d ps) :
    ∃ x y z u, v = .agg #[.int .i64 x, .int .i64 y, .int .i64 z, .int .i64 u] ∧ (Lit.int .i64 x).wf = true ∧ (Lit.int .i64 y).wf = true ∧ (Lit.int .i64 z).wf = true ∧ (Lit.int .i64 u).wf = true := by
  have ht := Try.underlying22
  obtain ⟨cs, rfl, hsz, _⟩ : ∃ cs, v = .agg cs ∧ cs.size = Try.prog.cellsOf 22 ∧ Row.okWide Try.prog w r b0 22 cs := by
    simpa [Value.okWide, ht] using hval
  have h4 : Try.prog.cellsOf 22 = 4 := by kernel_rfl
  rw [h4] at hsz
  obtain ⟨l⟩ := cs
  match l, hsz with
  | [c0, c1, c2, c3], _ =>
    obtain ⟨fuel, hf⟩ := h
    obtain ⟨xs, m, _, _, _, hxl, hx⟩ := DataW.trod_array ht hf
    have h0 := hx 0 (by omega)
    have h1 := hx 1 (by omega)
    have h2 := hx 2 (by omega)
    have h3 := hx 3 (by omega)
    rw [one_int, List.getElem?_eq_getElem (by omega)] at h0 h1 h2 h3
    obtain ⟨x, e0, _, w0⟩ := DataW.trod_int Try.underlying3 h0
    obtain ⟨y, e1, _, w1⟩ := DataW.trod_int Try.underlying3 h1
    obtain ⟨z, e2, _, w2⟩ := DataW.trod_int Try.underlying3 h2
    obtain ⟨u, e3, _, w3⟩ := DataW.trod_int Try.underlying3 h3
    simp [Value.cells] at e0 e1 e2 e3
    subst e0 e1 e2 e3
    exact ⟨x, y, z, u, rfl, w0, w1, w2, w3⟩
set_option maxRecDepth 100000 in
theorem two_place : Try.prog.cellsOf 36 = 2 := by kernel_rfl
set_option maxRecDepth 100000 in
theorem place_of {fuel : Nat} {c0 c1 : Value} {x : DataW H × List MemPlace} (h : DataW.trod enc Try.prog w base spare held fuel 36 [c0, c1] = some x) : ∃ a b : Int, c0 = .int .i64 a ∧ c1 = .int .i64 b := by
  obtain ⟨_, k, hk⟩ := field_of Try.underlying36 h
  obtain ⟨y0, g0⟩ := hk 0 _ [c0] rfl (by simp [one_int])
  obtain ⟨y1, g1⟩ := hk 1 _ [c1] rfl (by simp [one_int])
  obtain ⟨x0, e0, _, _⟩ := DataW.trod_int Try.underlying3 g0
  obtain ⟨x1, e1, _, _⟩ := DataW.trod_int Try.underlying3 g1
  simp only [List.cons.injEq, and_true] at e0 e1
  exact ⟨x0, x1, e0, e1⟩
set_option maxRecDepth 100000 in
theorem open_places {r : Reach} {b0 : Nat} {v : Value} {d : DataW H} {ps : List MemPlace} (hval : Value.okWide Try.prog w r b0 48 v) (h : DataW.Trod enc Try.prog w base spare held 48 v d ps) :
    ∃ x0 x1 y0 y1 z0 z1 : Int, v = .agg #[.int .i64 x0, .int .i64 x1, .int .i64 y0, .int .i64 y1, .int .i64 z0, .int .i64 z1] := by
  have ht := Try.underlying48
  obtain ⟨cs, rfl, hsz, _⟩ : ∃ cs, v = .agg cs ∧ cs.size = Try.prog.cellsOf 48 ∧ Row.okWide Try.prog w r b0 48 cs := by
    simpa [Value.okWide, ht] using hval
  have h6 : Try.prog.cellsOf 48 = 6 := by kernel_rfl
  rw [h6] at hsz
  obtain ⟨l⟩ := cs
  match l, hsz with
  | [c0, c1, c2, c3, c4, c5], _ =>
    obtain ⟨fuel, hf⟩ := h
    obtain ⟨xs, m, _, _, _, hxl, hx⟩ := DataW.trod_array ht hf
    have h0 := hx 0 (by omega)
    have h1 := hx 1 (by omega)
    have h2 := hx 2 (by omega)
    rw [two_place, List.getElem?_eq_getElem (by omega)] at h0 h1 h2
    obtain ⟨x0, x1, e0, e1⟩ := place_of (c0 := c0) (c1 := c1) h0
    obtain ⟨y0, y1, e2, e3⟩ := place_of (c0 := c2) (c1 := c3) h1
    obtain ⟨z0, z1, e4, e5⟩ := place_of (c0 := c4) (c1 := c5) h2
    subst e0 e1 e2 e3 e4 e5
    exact ⟨x0, x1, y0, y1, z0, z1, rfl⟩
end
end Go.Proofs.Ytagedggmfihhjaa.Token
