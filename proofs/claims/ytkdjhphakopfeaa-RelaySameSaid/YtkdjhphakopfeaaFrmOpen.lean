/-
  How an argument that is a frame is opened: its eleven cells, its stamps, its rows and their leases.
-/
import Derived.Test.YtkdjhphakopfeaaLawRow
import Derived.Test.YtkdjhphakopfeaaFrameRight
import Derived.Deep.Slices
import Derived.WalkKit
import Derived.ProofKit
namespace Go.Proofs.Ytkdjhphakopfeaa.Frame
open Go.ChangeShapes Go.WideShapes Go.RowKit Codec

section
variable {H : Type} {enc : TypeId × Value → H} {P : Program} {w : World} {base : Nat} {spare : Nat → Bool} {held : Bool}
/-- A field of a struct, with its own cells. -/
theorem field_of {t : TypeId} {fs : Array Field} {fuel : Nat} {cs : List Value} {x : DataW H × List MemPlace} (ht : P.underlying t = some (.struct fs)) (h : DataW.trod enc P w base spare held fuel t cs = some x) :
    cs.length = P.cellsOf t ∧ ∃ n, ∀ (i : Nat) (f : Field) (L : List Value), fs[i]? = some f → (cs.drop f.offset).take (P.cellsOf f.type) = L → ∃ y, DataW.trod enc P w base spare held n f.type L = some y := by
  obtain ⟨xs, n, _, _, hcl, hlen, hf⟩ := DataW.trod_struct ht h
  refine ⟨hcl, n, fun i f L hi hL => ?_⟩
  have h1 := hf i f hi
  rw [hL] at h1
  have hlt : i < xs.length := by rw [hlen]; exact (Array.getElem?_eq_some_iff.1 hi).1
  exact ⟨_, h1.trans (List.getElem?_eq_getElem hlt)⟩

/-- A slice of numbers. -/
theorem ints_of {t e : TypeId} {v : Value} {fuel : Nat} {x : DataW H × List MemPlace} (ht : P.underlying t = some (.slice e)) (he : P.underlying e = some (.int .i64)) (hc : P.cellsOf e = 1) (hf : DataW.trod enc P w base spare held fuel t [v] = some x) :
    ∃ (p : Option Addr) (c : Nat) (zs : List Int), v = .slice p zs.length c ∧ (p = none → zs = []) ∧ (zs.length : Int) ≤ 9223372036854775807 ∧ Ints w p zs := by
  rcases open_ints ht he hc hf with ⟨hcs, _⟩ | ⟨x, len0, cap0, zs, hcs, _, hl, hm, hz, _, hcell, -⟩
  · simp only [List.cons.injEq, and_true] at hcs
    subst hcs
    exact ⟨none, 0, [], rfl, fun _ => rfl, by simp, .inl rfl⟩
  · simp only [List.cons.injEq, and_true] at hcs
    subst hcs
    have hlz : len0 ≤ zs.length := by rw [hz]; split <;> omega
    have hlen : (zs.take len0).length = len0 := by simp; omega
    refine ⟨some x, cap0, zs.take len0, by rw [hlen], (fun e => by cases e), (by rw [hlen]; unfold maxLen at hm; omega), ?_⟩
    by_cases h0 : len0 = 0
    · left; simp [h0]
    · right
      obtain ⟨b, o, sp⟩ := x
      have hs : sp = none := by simpa [Addr.add] using World.cell?_spot (hcell 0 (by omega))
      subst hs
      refine ⟨b, o, rfl, fun j hj => ?_⟩
      rw [hlen] at hj
      have := hcell j (by omega)
      rw [add_plain] at this
      rw [this]
      simp [List.getD, hj]

/-- A slice of leases. -/
theorem leases_of {t e : TypeId} {f0 f1 : Field} {v : Value} {fuel : Nat} {x : DataW H × List MemPlace} (ht : P.underlying t = some (.slice e)) (he : P.underlying e = some (.struct #[f0, f1]))
    (ce : P.cellsOf e = 2) (o0 : f0.offset = 0) (o1 : f1.offset = 1) (c0 : P.cellsOf f0.type = 1) (c1 : P.cellsOf f1.type = 1) (u0 : P.underlying f0.type = some (.int .i64)) (u1 : P.underlying f1.type = some (.int .i64))
    (hf : DataW.trod enc P w base spare held fuel t [v] = some x) :
    ∃ (p : Option Addr) (c : Nat) (l : List (Int × Int)), v = .slice p l.length c ∧ (l.length : Int) ≤ 9223372036854775807 ∧ LeasesAt w p l := by
  rcases Deep.open_slice_pairs ht he ce o0 o1 c0 c1 hf with ⟨h0, _⟩ | ⟨a, len0, cap0, m, n, V0, V1, D0, D1, P0, P1, h0, _, hlc, hcm, hm, _, hx⟩
  · simp only [List.cons.injEq, and_true] at h0
    subst h0
    exact ⟨none, 0, [], rfl, by simp, .inl rfl⟩
  · simp only [List.cons.injEq, and_true] at h0
    subst h0
    have hlm : len0 ≤ m := by rw [hm]; split <;> omega
    have key : ∀ i, i < len0 → ∃ x y, V0 i = .int .i64 x ∧ V1 i = .int .i64 y := by
      intro i hi
      obtain ⟨_, _, g2, g3⟩ := hx i (by omega)
      obtain ⟨x, e0, _, _⟩ := DataW.trod_int u0 g2
      obtain ⟨y, e1, _, _⟩ := DataW.trod_int u1 g3
      simp only [List.cons.injEq, and_true] at e0 e1
      exact ⟨x, y, e0, e1⟩
    refine ⟨some a, cap0, (List.range len0).map fun i => (intOf (V0 i), intOf (V1 i)), by simp, (by simp; unfold maxLen at hcm; omega), ?_⟩
    by_cases hl : len0 = 0
    · left; simp [hl]
    · right
      obtain ⟨b, o, sp⟩ := a
      have hs := (hx 0 (by omega)).1
      have hsp : sp = none := by simpa [Addr.add] using World.cell?_spot hs
      subst hsp
      refine ⟨b, o, rfl, fun i hi => ?_⟩
      simp only [List.length_map, List.length_range] at hi
      obtain ⟨g0, g1, _, _⟩ := hx i (by omega)
      obtain ⟨x, y, e0, e1⟩ := key i hi
      rw [add_plain] at g0 g1
      rw [e0] at g0
      rw [e1] at g1
      have ez : ((List.range len0).map fun i => (intOf (V0 i), intOf (V1 i))).getD i (0, 0) = (x, y) := by
        simp [List.getD, hi, e0, e1, intOf]
      rw [ez]
      exact ⟨g0, g1⟩
end

/-- One thing for each number: all of them, in a list. -/
theorem list_of {Q : Nat → Rw → Prop} : ∀ (n : Nat), (∀ i, i < n → ∃ r, Q i r) → ∃ l : List Rw, l.length = n ∧ ∀ i, i < n → Q i (l.getD i noRow)
  | 0, _ => ⟨[], rfl, fun i hi => absurd hi (Nat.not_lt_zero i)⟩
  | n + 1, h => by
    obtain ⟨l, hl, hq⟩ := list_of n fun i hi => h i (by omega)
    obtain ⟨r, hr⟩ := h n (by omega)
    refine ⟨l ++ [r], by simp [hl], fun i hi => ?_⟩
    by_cases e : i < n
    · have : (l ++ [r]).getD i noRow = l.getD i noRow := by simp [List.getD, List.getElem?_append_left (show i < l.length by omega)]
      rw [this]
      exact hq i e
    · obtain rfl : i = n := by omega
      have : (l ++ [r]).getD i noRow = r := by simp [List.getD, ← hl]
      rw [this]
      exact hr

section
variable {H : Type} {enc : TypeId × Value → H} {w : World} {base : Nat} {spare : Nat → Bool} {held : Bool}
theorem one_int : Try.prog.cellsOf 3 = 1 := by kernel_rfl
theorem one_kind : Try.prog.cellsOf 32 = 1 := by kernel_rfl
theorem one_bits : Try.prog.cellsOf 33 = 1 := by kernel_rfl
theorem one_ints : Try.prog.cellsOf 34 = 1 := by kernel_rfl
theorem one_rows : Try.prog.cellsOf 35 = 1 := by kernel_rfl
theorem one_leases : Try.prog.cellsOf 87 = 1 := by kernel_rfl
theorem two_table : Try.prog.cellsOf 37 = 2 := by kernel_rfl
theorem five_token : Try.prog.cellsOf 39 = 5 := by kernel_rfl
theorem four_row : Try.prog.cellsOf 89 = 4 := by kernel_rfl
theorem eleven_frame : Try.prog.cellsOf 41 = 11 := by kernel_rfl

/-- A slice of rows. -/
theorem rows_of {v : Value} {fuel : Nat} {x : DataW H × List MemPlace} (hf : DataW.trod enc Try.prog w base spare held fuel 35 [v] = some x) :
    ∃ (p : Option Addr) (c : Nat) (l : List Rw), v = .slice p l.length c ∧ (l.length : Int) ≤ 9223372036854775807 ∧ RowsAt w p l ∧ Small l := by
  rcases Deep.open_slice Try.underlying35 hf with ⟨h0, _⟩ | ⟨a, len0, cap0, m, n, D, Pl, h0, _, hlc, hcm, hm, _, hx⟩
  · simp only [List.cons.injEq, and_true] at h0
    subst h0
    exact ⟨none, 0, [], rfl, by simp, .inl rfl, fun r hr => by cases hr⟩
  · simp only [List.cons.injEq, and_true] at h0
    subst h0
    rw [four_row] at hx
    have hlm : len0 ≤ m := by rw [hm]; split <;> omega
    have key : ∀ i, i < len0 → ∃ r : Rw, (r.out.length : Int) ≤ 9223372036854775807 ∧ w.cell? (a.add (i * 4)) = some (.int .i64 r.key) ∧ w.cell? (a.add (i * 4 + 1)) = some (.int .i64 r.avail) ∧ w.cell? (a.add (i * 4 + 2)) = some (.int .i64 r.mark) ∧
        ∃ p c, w.cell? (a.add (i * 4 + 3)) = some (.slice p r.out.length c) ∧ LeasesAt w p r.out := by
      intro i hi
      obtain ⟨cs, hcs, ht⟩ := hx i (by omega)
      obtain ⟨_, hcl, hat⟩ := World.cells?_some hcs
      match cs, hcl with
      | [a0, a1, a2, a3], _ =>
        obtain ⟨_, k, hk⟩ := field_of Try.underlying89 ht
        obtain ⟨y0, g0⟩ := hk 0 _ [a0] rfl (by simp [one_int])
        obtain ⟨y1, g1⟩ := hk 1 _ [a1] rfl (by simp [one_int])
        obtain ⟨y2, g2⟩ := hk 2 _ [a2] rfl (by simp [one_int])
        obtain ⟨y3, g3⟩ := hk 3 _ [a3] rfl (by simp [one_leases])
        obtain ⟨x0, e0, _, _⟩ := DataW.trod_int Try.underlying3 g0
        obtain ⟨x1, e1, _, _⟩ := DataW.trod_int Try.underlying3 g1
        obtain ⟨x2, e2, _, _⟩ := DataW.trod_int Try.underlying3 g2
        simp only [List.cons.injEq, and_true] at e0 e1 e2
        obtain ⟨p, c, l, e3, hl, hle⟩ := leases_of Try.underlying87 Try.underlying97 (by kernel_rfl) rfl rfl one_int one_int Try.underlying3 Try.underlying3 g3
        subst e0 e1 e2 e3
        have q0 := hat 0 (by decide)
        have q1 := hat 1 (by decide)
        have q2 := hat 2 (by decide)
        have q3 := hat 3 (by decide)
        rw [Deep.add_add] at q0 q1 q2 q3
        exact ⟨⟨x0, x1, x2, l⟩, hl, q0, q1, q2, p, c, q3, hle⟩
    by_cases hl : len0 = 0
    · subst hl
      exact ⟨some a, cap0, [], rfl, by simp, .inl rfl, fun r hr => by cases hr⟩
    · obtain ⟨b, o, sp⟩ := a
      obtain ⟨r0, _, hs, _⟩ := key 0 (by omega)
      have hsp : sp = none := by simpa [Addr.add] using World.cell?_spot hs
      subst hsp
      obtain ⟨l, hll, hq⟩ := list_of len0 key
      refine ⟨some ⟨b, o, none⟩, cap0, l, by rw [hll], (by rw [hll]; unfold maxLen at hcm; omega), .inr ⟨b, o, rfl, fun j hj => ?_⟩, fun r hr => ?_⟩
      · obtain ⟨_, q0, q1, q2, p, c, q3, hle⟩ := hq j (by omega)
        rw [add_plain] at q0 q1 q2 q3
        exact ⟨q0, q1, q2, p, c, q3, hle⟩
      · obtain ⟨j, hj, e⟩ := List.mem_iff_getElem.1 hr
        have := (hq j (by omega)).1
        have e2 : l.getD j noRow = r := by simp [List.getD, hj, e]
        rw [e2] at this
        exact this

set_option maxRecDepth 100000 in
/-- A frame that came in. -/
theorem open_frame {r : Reach} {b0 : Nat} {v : Value} {d : DataW H} {ps : List MemPlace} (hval : Value.okWide Try.prog w r b0 41 v) (h : DataW.Trod enc Try.prog w base spare held 41 v d ps) :
    ∃ (f : Fr) (sp p : Option Addr) (cs c : Nat), v = frameVal f sp p cs c ∧ Lying w f sp p ∧ (sp = none → f.token.stamps = []) ∧ (Lit.int .i64 f.kind).wf = true ∧ (Lit.int .u64 f.bits).wf = true := by
  obtain ⟨cs, rfl, hsz⟩ := okWide_struct Try.underlying41 hval
  obtain ⟨fuel, hf⟩ := h
  obtain ⟨l⟩ := cs
  match l, hsz.trans eleven_frame with
  | [c0, c1, c2, c3, c4, c5, c6, c7, c8, c9, c10], _ =>
    have hf1 : DataW.trod enc Try.prog w base spare held fuel 41 [c0, c1, c2, c3, c4, c5, c6, c7, c8, c9, c10] = some _ := hf
    obtain ⟨_, k, hk⟩ := field_of Try.underlying41 hf1
    obtain ⟨y0, g0⟩ := hk 0 _ [c0] rfl (by simp [one_kind])
    obtain ⟨y1, g1⟩ := hk 1 _ [c1] rfl (by simp [one_int])
    obtain ⟨y2, g2⟩ := hk 2 _ [c2] rfl (by simp [one_int])
    obtain ⟨y3, g3⟩ := hk 3 _ [c3] rfl (by simp [one_int])
    obtain ⟨y4, g4⟩ := hk 4 _ [c4] rfl (by simp [one_int])
    obtain ⟨y5, g5⟩ := hk 5 _ [c5] rfl (by simp [one_bits])
    obtain ⟨y6, g6⟩ := hk 6 _ [c6, c7, c8, c9, c10] rfl (by simp [five_token])
    obtain ⟨_, k2, hk2⟩ := field_of Try.underlying39 g6
    obtain ⟨z0, j0⟩ := hk2 0 _ [c6] rfl (by simp [one_int])
    obtain ⟨z1, j1⟩ := hk2 1 _ [c7] rfl (by simp [one_int])
    obtain ⟨z2, j2⟩ := hk2 2 _ [c8] rfl (by simp [one_ints])
    obtain ⟨z3, j3⟩ := hk2 3 _ [c9, c10] rfl (by simp [two_table])
    obtain ⟨_, k3, hk3⟩ := field_of Try.underlying37 j3
    obtain ⟨t0, m0⟩ := hk3 0 _ [c9] rfl (by simp [one_int])
    obtain ⟨t1, m1⟩ := hk3 1 _ [c10] rfl (by simp [one_rows])
    clear hk hk2 hk3 hf hf1
    obtain ⟨x0, e0, _, w0⟩ := DataW.trod_int Try.underlying32 g0
    obtain ⟨x1, e1, _, _⟩ := DataW.trod_int Try.underlying3 g1
    obtain ⟨x2, e2, _, _⟩ := DataW.trod_int Try.underlying3 g2
    obtain ⟨x3, e3, _, _⟩ := DataW.trod_int Try.underlying3 g3
    obtain ⟨x4, e4, _, _⟩ := DataW.trod_int Try.underlying3 g4
    obtain ⟨x5, e5, _, w5⟩ := DataW.trod_int Try.underlying33 g5
    obtain ⟨x6, e6, _, _⟩ := DataW.trod_int Try.underlying3 j0
    obtain ⟨x7, e7, _, _⟩ := DataW.trod_int Try.underlying3 j1
    obtain ⟨x9, e9, _, _⟩ := DataW.trod_int Try.underlying3 m0
    simp only [List.cons.injEq, and_true] at e0 e1 e2 e3 e4 e5 e6 e7 e9
    obtain ⟨sp, cs, st, e8, hn, hs, hst⟩ := ints_of Try.underlying34 Try.underlying3 one_int j2
    obtain ⟨p, c, rows, e10, hr, hrw, hsm⟩ := rows_of m1
    subst e0 e1 e2 e3 e4 e5 e6 e7 e8 e9 e10
    exact ⟨⟨x0, x1, x2, x3, x4, x5, ⟨x6, x7, st, ⟨x9, rows⟩⟩⟩, sp, p, cs, c, rfl, ⟨hst, hrw, hsm, hs, hr⟩, hn, w0, w5⟩
end
end Go.Proofs.Ytkdjhphakopfeaa.Frame
