/-
  How arguments that are slices of annonalaw15's acts are opened: each act's kind, its frame, its place.
-/
import Derived.Test.YtkdjhphakopfeaaArgs
import Derived.Test.YtkdjhphakopfeaaFrmOpen
import Derived.Test.YtkdjhphakopfeaaRelayActs
namespace Go.Proofs.Ytkdjhphakopfeaa.Relay
open Go.ChangeShapes Go.WideShapes Go.RowKit
open _root_.Go.Proofs.Ytkdjhphakopfeaa.Frame (Fr Tk Tb Rw Lying frameVal field_of ints_of rows_of one_int one_kind one_bits one_ints one_rows two_table five_token eleven_frame)

section
variable {H : Type} {enc : TypeId × Value → H} {w : World} {base : Nat} {spare : Nat → Bool} {held : Bool}
theorem one_u8 : Try.prog.cellsOf 5 = 1 := by kernel_rfl
theorem fourteen_act : Try.prog.cellsOf 43 = 14 := by kernel_rfl
set_option maxRecDepth 100000 in
/-- A frame that lies in a bigger thing. -/
theorem frame_of {fuel : Nat} {c0 c1 c2 c3 c4 c5 c6 c7 c8 c9 c10 : Value} {x : DataW H × List MemPlace} (hf1 : DataW.trod enc Try.prog w base spare held fuel 41 [c0, c1, c2, c3, c4, c5, c6, c7, c8, c9, c10] = some x) :
    ∃ (f : Fr) (sp p : Option Addr) (cs c : Nat), [c0, c1, c2, c3, c4, c5, c6, c7, c8, c9, c10] = [.int .i64 f.kind, .int .i64 f.src, .int .i64 f.dst, .int .i64 f.gen, .int .i64 f.hop, .int .u64 f.bits, .int .i64 f.token.gen, .int .i64 f.token.hop, .slice sp f.token.stamps.length cs, .int .i64 f.token.table.start, .slice p f.token.table.rows.length c] ∧ Lying w f sp p ∧ (Lit.int .i64 f.kind).wf = true := by
  obtain ⟨_, k, hk⟩ := field_of Try.underlying41 hf1
  obtain ⟨y0, g0⟩ := hk 0 _ [c0] rfl (by simp [one_kind])
  obtain ⟨y1, g1⟩ := hk 1 _ [c1] rfl (by simp [one_int])
  obtain ⟨y2, g2⟩ := hk 2 _ [c2] rfl (by simp [one_int])
  obtain ⟨y3, g3⟩ := hk 3 _ [c3] rfl (by simp [one_int])
  obtain ⟨y4, g4⟩ := hk 4 _ [c4] rfl (by simp [one_int])
  obtain ⟨y5, g5⟩ := hk 5 _ [c5] rfl (by simp [one_bits])
  obtain ⟨y6, g6⟩ := hk 6 _ [c6, c7, c8, c9, c10] rfl (by simp [five_token])
  obtain ⟨_, k2, hk2⟩ := field_of Try.underlying39 g6
  obtain ⟨z0, j0⟩ := hk2 0 _ [c6] rfl (by simp [one_int])
  obtain ⟨z1, j1⟩ := hk2 1 _ [c7] rfl (by simp [one_int])
  obtain ⟨z2, j2⟩ := hk2 2 _ [c8] rfl (by simp [one_ints])
  obtain ⟨z3, j3⟩ := hk2 3 _ [c9, c10] rfl (by simp [two_table])
  obtain ⟨_, k3, hk3⟩ := field_of Try.underlying37 j3
  obtain ⟨t0, m0⟩ := hk3 0 _ [c9] rfl (by simp [one_int])
  obtain ⟨t1, m1⟩ := hk3 1 _ [c10] rfl (by simp [one_rows])
  clear hk hk2 hk3 hf1
  obtain ⟨x0, e0, _, w0⟩ := DataW.trod_int Try.underlying32 g0
  obtain ⟨x1, e1, _, _⟩ := DataW.trod_int Try.underlying3 g1
  obtain ⟨x2, e2, _, _⟩ := DataW.trod_int Try.underlying3 g2
  obtain ⟨x3, e3, _, _⟩ := DataW.trod_int Try.underlying3 g3
  obtain ⟨x4, e4, _, _⟩ := DataW.trod_int Try.underlying3 g4
  obtain ⟨x5, e5, _, _⟩ := DataW.trod_int Try.underlying33 g5
  obtain ⟨x6, e6, _, _⟩ := DataW.trod_int Try.underlying3 j0
  obtain ⟨x7, e7, _, _⟩ := DataW.trod_int Try.underlying3 j1
  obtain ⟨x9, e9, _, _⟩ := DataW.trod_int Try.underlying3 m0
  simp only [List.cons.injEq, and_true] at e0 e1 e2 e3 e4 e5 e6 e7 e9
  obtain ⟨sp, cs, zs, e8, _, hs, hst⟩ := ints_of Try.underlying34 Try.underlying3 one_int j2
  obtain ⟨p, c, rows, e10, hr, hrw, hsm⟩ := rows_of m1
  subst e0 e1 e2 e3 e4 e5 e6 e7 e8 e9 e10
  exact ⟨⟨x0, x1, x2, x3, x4, x5, ⟨x6, x7, zs, ⟨x9, rows⟩⟩⟩, sp, p, cs, c, rfl, ⟨hst, hrw, hsm, hs, hr⟩, w0⟩
set_option maxRecDepth 100000 in
set_option maxHeartbeats 1000000 in
/-- A slice of acts that came in. -/
theorem open_acts {r : Reach} {b0 : Nat} {v : Value} {d : DataW H} {ps : List MemPlace} (hval : Value.okWide Try.prog w r b0 22 v) (h : DataW.Trod enc Try.prog w base spare held 22 v d ps) :
    ∃ (p : Option Addr) (c : Nat) (l : List Ac), v = .slice p l.length c ∧ (l.length : Int) ≤ 9223372036854775807 ∧ ActsAt w p l ∧ ∀ a ∈ l, AcNum a := by
  obtain ⟨a0, len, cap, rfl⟩ := okWide_slice Try.underlying22 hval
  obtain ⟨fuel, hf⟩ := h
  rcases Deep.open_slice Try.underlying22 hf with ⟨h0, _⟩ | ⟨a, len0, cap0, m, n, D, Pl, h0, _, hlc, hcm, hm, _, hx⟩
  · simp [Value.cells] at h0
    obtain ⟨rfl, rfl, rfl⟩ := h0
    exact ⟨none, 0, [], rfl, by simp, .inl rfl, fun r hr => by cases hr⟩
  · simp [Value.cells] at h0
    obtain ⟨rfl, rfl, rfl⟩ := h0
    rw [fourteen_act] at hx
    have hlm : len ≤ m := by rw [hm]; split <;> omega
    have key : ∀ i, i < len → ∃ r : Ac, AcNum r ∧ ∃ sp p cs c, (∀ k, k < 14 → w.cell? (a.add (i * 14 + k)) = some (cells14 r sp p cs c k)) ∧ Lying w r.f sp p := by
      intro i hi
      obtain ⟨cs, hcs, ht⟩ := hx i (by omega)
      obtain ⟨_, hcl, hat⟩ := World.cells?_some hcs
      match cs, hcl with
      | [c0, c1, c2, c3, c4, c5, c6, c7, c8, c9, c10, c11, c12, c13], _ =>
        obtain ⟨_, k, hk⟩ := field_of Try.underlying43 ht
        obtain ⟨y0, g0⟩ := hk 0 _ [c0] rfl (by simp [one_u8])
        obtain ⟨y1, g1⟩ := hk 1 _ [c1, c2, c3, c4, c5, c6, c7, c8, c9, c10, c11] rfl (by simp [eleven_frame])
        obtain ⟨y2, g2⟩ := hk 2 _ [c12] rfl (by simp [one_int])
        obtain ⟨y3, g3⟩ := hk 3 _ [c13] rfl (by simp [one_int])
        obtain ⟨x0, e0, _, w0⟩ := DataW.trod_int Try.underlying5 g0
        obtain ⟨x2, e2, _, w2⟩ := DataW.trod_int Try.underlying3 g2
        obtain ⟨x3, e3, _, w3⟩ := DataW.trod_int Try.underlying3 g3
        obtain ⟨f, sp, p, cs, c, e1, hl, hw⟩ := frame_of g1
        simp only [List.cons.injEq, and_true] at e0 e1 e2 e3
        obtain ⟨rfl, rfl, rfl, rfl, rfl, rfl, rfl, rfl, rfl, rfl, rfl⟩ := e1
        subst e0 e2 e3
        refine ⟨⟨x0, f, x2, x3⟩, ⟨(Row.u8_wf w0).1, (Row.u8_wf w0).2, hw, Row.num_wf w2, Row.num_wf w3⟩, sp, p, cs, c, fun k hk => ?_, hl⟩
        have := hat k hk
        rw [Deep.add_add] at this
        rw [this]
        match k, hk with
        | 0, _ | 1, _ | 2, _ | 3, _ | 4, _ | 5, _ | 6, _ | 7, _ | 8, _ | 9, _ | 10, _ | 11, _ | 12, _ | 13, _ => rfl
    by_cases hl : len = 0
    · subst hl
      exact ⟨some a, cap, [], rfl, by simp, .inl rfl, fun r hr => by cases hr⟩
    · obtain ⟨b, o, sp⟩ := a
      obtain ⟨r0, _, _, _, _, _, hs, _⟩ := key 0 (by omega)
      have hsp : sp = none := by simpa [Addr.add] using World.cell?_spot (hs 0 (by decide))
      subst hsp
      obtain ⟨l, hll, hq⟩ := Row.list_of zA len key
      refine ⟨some ⟨b, o, none⟩, cap, l, by rw [hll], (by rw [hll]; unfold maxLen at hcm; omega), .inr ⟨b, o, rfl, fun j hj => ?_⟩, fun r hr => ?_⟩
      · obtain ⟨_, sp, p, cs, c, hc, hly⟩ := hq j (by omega)
        refine ⟨sp, p, cs, c, fun k hk => ?_, hly⟩
        have := hc k hk
        rw [add_plain] at this
        rw [Nat.add_assoc]
        exact this
      · obtain ⟨j, hj, e⟩ := List.mem_iff_getElem.1 hr
        have := (hq j (by omega)).1
        have e2 : l.getD j zA = r := by simp [List.getD, hj, e]
        rw [e2] at this
        exact this
end
end Go.Proofs.Ytkdjhphakopfeaa.Relay
