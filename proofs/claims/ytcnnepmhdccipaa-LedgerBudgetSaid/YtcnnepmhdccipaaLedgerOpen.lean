/-
  How arguments that are tables, configurations, rates, and slices of annonalaw09's acts are opened.
-/
import Derived.Test.YtcnnepmhdccipaaFrmOpen
import Derived.Test.YtcnnepmhdccipaaLedgerRight
namespace Go.Proofs.Ytcnnepmhdccipaa.Ledger
open Go.ChangeShapes Go.WideShapes Go.RowKit Codec
open _root_.Go.Proofs.Ytcnnepmhdccipaa.Frame (LeasesAt Rw Tb field_of four_row leases_of list_of noRow one_int one_leases one_rows two_table)

section
variable {H : Type} {enc : TypeId × Value → H} {w : World} {base : Nat} {spare : Nat → Bool} {held : Bool}
theorem num_of {a : Int} (h : (Lit.int .i64 a).wf = true) : Num a := by simp [Lit.wf, IntKind.min, IntKind.max, IntKind.signed, IntKind.bits] at h; unfold Num; omega
theorem num_u8 {a : Int} (h : (Lit.int .u8 a).wf = true) : 0 ≤ a ∧ a ≤ 255 := by simp [Lit.wf, IntKind.min, IntKind.max, IntKind.signed, IntKind.bits] at h; omega
/-- A slice's capacity is its length at least. -/
theorem cap_of {t e : TypeId} {v : Value} {fuel : Nat} {x : DataW H × List MemPlace} (ht : Try.prog.underlying t = some (.slice e)) (hf : DataW.trod enc Try.prog w base spare held fuel t [v] = some x) {p : Option Addr} {n c : Nat} (hv : v = .slice p n c) : n ≤ c := by
  rcases Deep.open_slice ht hf with ⟨h0, _⟩ | ⟨a, len0, cap0, m, n, D, Pl, h0, _, hlc, hcm, hm, _, hx⟩
  · simp only [List.cons.injEq, and_true] at h0
    rw [h0] at hv
    simp only [Value.slice.injEq] at hv
    omega
  · simp only [List.cons.injEq, and_true] at h0
    rw [h0] at hv
    simp only [Value.slice.injEq] at hv
    omega
/-- A slice of rows. -/
theorem rows_cap {v : Value} {fuel : Nat} {x : DataW H × List MemPlace} (hf : DataW.trod enc Try.prog w base spare held fuel 22 [v] = some x) :
    ∃ (p : Option Addr) (c : Nat) (l : List Rw), v = .slice p l.length (c + l.length) ∧ (l.length : Int) ≤ 9223372036854775807 ∧ RowsAt w p l := by
  rcases Deep.open_slice Try.underlying22 hf with ⟨h0, _⟩ | ⟨a, len0, cap0, m, n, D, Pl, h0, _, hlc, hcm, hm, _, hx⟩
  · simp only [List.cons.injEq, and_true] at h0
    subst h0
    exact ⟨none, 0, [], rfl, by simp, .inl rfl⟩
  · simp only [List.cons.injEq, and_true] at h0
    subst h0
    rw [four_row] at hx
    have hlm : len0 ≤ m := by rw [hm]; split <;> omega
    have key : ∀ i, i < len0 → ∃ r : Rw, w.cell? (a.add (i * 4)) = some (.int .i64 r.key) ∧ w.cell? (a.add (i * 4 + 1)) = some (.int .i64 r.avail) ∧ w.cell? (a.add (i * 4 + 2)) = some (.int .i64 r.mark) ∧
        ∃ p c, w.cell? (a.add (i * 4 + 3)) = some (.slice p r.out.length (c + r.out.length)) ∧ LeasesAt w p r.out := by
      intro i hi
      obtain ⟨cs, hcs, ht⟩ := hx i (by omega)
      obtain ⟨_, hcl, hat⟩ := World.cells?_some hcs
      match cs, hcl with
      | [a0, a1, a2, a3], _ =>
        obtain ⟨_, k, hk⟩ := field_of Try.underlying38 ht
        obtain ⟨y0, g0⟩ := hk 0 _ [a0] rfl (by simp [one_int])
        obtain ⟨y1, g1⟩ := hk 1 _ [a1] rfl (by simp [one_int])
        obtain ⟨y2, g2⟩ := hk 2 _ [a2] rfl (by simp [one_int])
        obtain ⟨y3, g3⟩ := hk 3 _ [a3] rfl (by simp [one_leases])
        obtain ⟨x0, e0, _, _⟩ := DataW.trod_int Try.underlying3 g0
        obtain ⟨x1, e1, _, _⟩ := DataW.trod_int Try.underlying3 g1
        obtain ⟨x2, e2, _, _⟩ := DataW.trod_int Try.underlying3 g2
        simp only [List.cons.injEq, and_true] at e0 e1 e2
        obtain ⟨p, c, l, e3, -, hle⟩ := leases_of Try.underlying36 Try.underlying78 (by kernel_rfl) rfl rfl one_int one_int Try.underlying3 Try.underlying3 g3
        have hcap := cap_of Try.underlying36 g3 e3
        subst e0 e1 e2 e3
        have q0 := hat 0 (by decide)
        have q1 := hat 1 (by decide)
        have q2 := hat 2 (by decide)
        have q3 := hat 3 (by decide)
        rw [Deep.add_add] at q0 q1 q2 q3
        exact ⟨⟨x0, x1, x2, l⟩, q0, q1, q2, p, c - l.length, by rw [Nat.sub_add_cancel hcap]; exact q3, hle⟩
    by_cases hl : len0 = 0
    · subst hl
      exact ⟨some a, cap0, [], rfl, by simp, .inl rfl⟩
    · obtain ⟨b, o, sp⟩ := a
      obtain ⟨r0, hs, _⟩ := key 0 (by omega)
      have hsp : sp = none := by simpa [Addr.add] using World.cell?_spot hs
      subst hsp
      obtain ⟨l, hll, hq⟩ := list_of len0 key
      refine ⟨some ⟨b, o, none⟩, cap0 - l.length, l, by rw [hll, Nat.sub_add_cancel hlc], (by rw [hll]; unfold maxLen at hcm; omega), .inr ⟨b, o, rfl, fun j hj => ?_⟩⟩
      obtain ⟨q0, q1, q2, p, c, q3, hle⟩ := hq j (by omega)
      rw [add_plain] at q0 q1 q2 q3
      exact ⟨q0, q1, q2, p, c, q3, hle⟩
set_option maxRecDepth 100000 in
theorem open_table {r : Reach} {b0 : Nat} {v : Value} {d : DataW H} {ps : List MemPlace} (hval : Value.okWide Try.prog w r b0 24 v) (h : DataW.Trod enc Try.prog w base spare held 24 v d ps) :
    ∃ (t : Tb) (p : Option Addr) (c : Nat), v = tabVal t p c ∧ (t.rows.length : Int) ≤ 9223372036854775807 ∧ RowsAt w p t.rows := by
  obtain ⟨cs, rfl, hsz⟩ := okWide_struct Try.underlying24 hval
  obtain ⟨fuel, hf⟩ := h
  obtain ⟨l⟩ := cs
  match l, hsz.trans two_table with
  | [c0, c1], _ =>
    have hf1 : DataW.trod enc Try.prog w base spare held fuel 24 [c0, c1] = some _ := hf
    obtain ⟨_, k, hk⟩ := field_of Try.underlying24 hf1
    obtain ⟨y0, g0⟩ := hk 0 _ [c0] rfl (by simp [one_int])
    obtain ⟨y1, g1⟩ := hk 1 _ [c1] rfl (by simp [one_rows])
    obtain ⟨x0, e0, _, _⟩ := DataW.trod_int Try.underlying3 g0
    simp only [List.cons.injEq, and_true] at e0
    obtain ⟨p, c, rows, e1, hr, hrw⟩ := rows_cap g1
    subst e0 e1
    exact ⟨⟨x0, rows⟩, p, c, rfl, hr, hrw⟩
set_option maxRecDepth 100000 in
theorem one_rates : Try.prog.cellsOf 25 = 1 := by kernel_rfl
set_option maxRecDepth 100000 in
theorem nine_conf : Try.prog.cellsOf 27 = 9 := by kernel_rfl
set_option maxRecDepth 100000 in
theorem open_conf {r : Reach} {b0 : Nat} {v : Value} {d : DataW H} {ps : List MemPlace} (hval : Value.okWide Try.prog w r b0 27 v) (h : DataW.Trod enc Try.prog w base spare held 27 v d ps) :
    ∃ (f : Cf) (p : Option Addr) (c : Nat), v = cfVal f p c ∧ RatesAt w p f.rates := by
  obtain ⟨V, Y, m, rfl, hf⟩ := Row.open_fields Try.underlying27 (Deep.hone_of (by kernel_rfl)) (by kernel_rfl) hval h
  have h0 := hf 0 _ rfl
  have h1 := hf 1 _ rfl
  have h2 := hf 2 _ rfl
  have h3 := hf 3 _ rfl
  have h4 := hf 4 _ rfl
  have h5 := hf 5 _ rfl
  have h6 := hf 6 _ rfl
  have h7 := hf 7 _ rfl
  have h8 := hf 8 _ rfl
  clear hf
  obtain ⟨x0, e0, _, _⟩ := DataW.trod_int Try.underlying3 h0
  obtain ⟨x1, e1, _, _⟩ := DataW.trod_int Try.underlying3 h1
  obtain ⟨x2, e2, _, _⟩ := DataW.trod_int Try.underlying3 h2
  obtain ⟨x3, e3, _, _⟩ := DataW.trod_int Try.underlying3 h3
  obtain ⟨x4, e4, _, _⟩ := DataW.trod_int Try.underlying3 h4
  obtain ⟨x5, e5, _, _⟩ := DataW.trod_int Try.underlying3 h5
  obtain ⟨x6, e6, _, _⟩ := DataW.trod_int Try.underlying3 h6
  obtain ⟨x7, e7, _, _⟩ := DataW.trod_int Try.underlying3 h7
  obtain ⟨p, c, zs, e8, -, hr⟩ := leases_of Try.underlying25 Try.underlying44 (by kernel_rfl) rfl rfl (by kernel_rfl) (by kernel_rfl) Try.underlying3 Try.underlying3 h8
  simp only [List.cons.injEq, and_true] at e0 e1 e2 e3 e4 e5 e6 e7
  refine ⟨⟨x0, x1, x2, x3, x4, x5, x6, x7, zs⟩, p, c, ?_, hr⟩
  show Value.agg #[V 0, V 1, V 2, V 3, V 4, V 5, V 6, V 7, V 8] = _
  rw [e0, e1, e2, e3, e4, e5, e6, e7, e8]
  rfl
set_option maxRecDepth 100000 in
theorem open_rate {r : Reach} {b0 : Nat} {v : Value} {d : DataW H} {ps : List MemPlace} (hval : Value.okWide Try.prog w r b0 44 v) (h : DataW.Trod enc Try.prog w base spare held 44 v d ps) :
    ∃ x y : Int, v = .agg #[.int .i64 x, .int .i64 y] := by
  obtain ⟨V, Y, m, rfl, hf⟩ := Row.open_fields Try.underlying44 (Deep.hone_of (by kernel_rfl)) (by kernel_rfl) hval h
  have h0 := hf 0 _ rfl
  have h1 := hf 1 _ rfl
  obtain ⟨x0, e0, _, _⟩ := DataW.trod_int Try.underlying3 h0
  obtain ⟨x1, e1, _, _⟩ := DataW.trod_int Try.underlying3 h1
  simp only [List.cons.injEq, and_true] at e0 e1
  refine ⟨x0, x1, ?_⟩
  show Value.agg #[V 0, V 1] = _
  rw [e0, e1]
theorem acts_list {Q : Nat → Ac → Prop} : ∀ (n : Nat), (∀ i, i < n → ∃ r, Q i r) → ∃ l : List Ac, l.length = n ∧ ∀ i, i < n → Q i (l.getD i noAc)
  | 0, _ => ⟨[], rfl, fun i hi => absurd hi (Nat.not_lt_zero i)⟩
  | n + 1, h => by
    obtain ⟨l, hl, hq⟩ := acts_list n fun i hi => h i (by omega)
    obtain ⟨r, hr⟩ := h n (by omega)
    refine ⟨l ++ [r], by simp [hl], fun i hi => ?_⟩
    by_cases e : i < n
    · have : (l ++ [r]).getD i noAc = l.getD i noAc := by simp [List.getD, List.getElem?_append_left (show i < l.length by omega)]
      rw [this]
      exact hq i e
    · obtain rfl : i = n := by omega
      have : (l ++ [r]).getD i noAc = r := by simp [List.getD, ← hl]
      rw [this]
      exact hr
set_option maxRecDepth 100000 in
theorem one_u8 : Try.prog.cellsOf 5 = 1 := by kernel_rfl
set_option maxRecDepth 100000 in
theorem five_act : Try.prog.cellsOf 32 = 5 := by kernel_rfl
set_option maxRecDepth 100000 in
/-- A slice of acts that came in. -/
theorem open_acts {r : Reach} {b0 : Nat} {v : Value} {d : DataW H} {ps : List MemPlace} (hval : Value.okWide Try.prog w r b0 28 v) (h : DataW.Trod enc Try.prog w base spare held 28 v d ps) :
    ∃ (p : Option Addr) (c : Nat) (l : List Ac), v = .slice p l.length c ∧ ActsAt w p l ∧ ∀ a ∈ l, AcNum a := by
  obtain ⟨a0, len, cap, rfl⟩ := okWide_slice Try.underlying28 hval
  obtain ⟨fuel, hf⟩ := h
  rcases Deep.open_slice Try.underlying28 hf with ⟨h0, _⟩ | ⟨a, len0, cap0, m, n, D, Pl, h0, _, hlc, hcm, hm, _, hx⟩
  · simp [Value.cells] at h0
    obtain ⟨rfl, rfl, rfl⟩ := h0
    exact ⟨none, 0, [], rfl, .inl rfl, fun r hr => by cases hr⟩
  · simp [Value.cells] at h0
    obtain ⟨rfl, rfl, rfl⟩ := h0
    rw [five_act] at hx
    have hlm : len ≤ m := by rw [hm]; split <;> omega
    have key : ∀ i, i < len → ∃ r : Ac, AcNum r ∧ w.cell? (a.add (i * 5)) = some (.int .u8 r.kind) ∧ w.cell? (a.add (i * 5 + 1)) = some (.int .i64 r.key) ∧ w.cell? (a.add (i * 5 + 2)) = some (.int .i64 r.now) ∧ w.cell? (a.add (i * 5 + 3)) = some (.int .i64 r.node) ∧ w.cell? (a.add (i * 5 + 4)) = some (.int .i64 r.n) := by
      intro i hi
      obtain ⟨cs, hcs, ht⟩ := hx i (by omega)
      obtain ⟨_, hcl, hat⟩ := World.cells?_some hcs
      match cs, hcl with
      | [c0, c1, c2, c3, c4], _ =>
        obtain ⟨_, k, hk⟩ := field_of Try.underlying32 ht
        obtain ⟨y0, g0⟩ := hk 0 _ [c0] rfl (by simp [one_u8])
        obtain ⟨y1, g1⟩ := hk 1 _ [c1] rfl (by simp [one_int])
        obtain ⟨y2, g2⟩ := hk 2 _ [c2] rfl (by simp [one_int])
        obtain ⟨y3, g3⟩ := hk 3 _ [c3] rfl (by simp [one_int])
        obtain ⟨y4, g4⟩ := hk 4 _ [c4] rfl (by simp [one_int])
        obtain ⟨x0, e0, _, w0⟩ := DataW.trod_int Try.underlying5 g0
        obtain ⟨x1, e1, _, w1⟩ := DataW.trod_int Try.underlying3 g1
        obtain ⟨x2, e2, _, w2⟩ := DataW.trod_int Try.underlying3 g2
        obtain ⟨x3, e3, _, w3⟩ := DataW.trod_int Try.underlying3 g3
        obtain ⟨x4, e4, _, w4⟩ := DataW.trod_int Try.underlying3 g4
        simp only [List.cons.injEq, and_true] at e0 e1 e2 e3 e4
        subst e0 e1 e2 e3 e4
        have q0 := hat 0 (by decide)
        have q1 := hat 1 (by decide)
        have q2 := hat 2 (by decide)
        have q3 := hat 3 (by decide)
        have q4 := hat 4 (by decide)
        rw [Deep.add_add] at q0 q1 q2 q3 q4
        exact ⟨⟨x0, x1, x2, x3, x4⟩, ⟨num_u8 w0, num_of w1, num_of w2, num_of w3, num_of w4⟩, q0, q1, q2, q3, q4⟩
    by_cases hl : len = 0
    · subst hl
      exact ⟨some a, cap, [], rfl, .inl rfl, fun r hr => by cases hr⟩
    · obtain ⟨b, o, sp⟩ := a
      obtain ⟨r0, _, hs, _⟩ := key 0 (by omega)
      have hsp : sp = none := by simpa [Addr.add] using World.cell?_spot hs
      subst hsp
      obtain ⟨l, hll, hq⟩ := acts_list len key
      refine ⟨some ⟨b, o, none⟩, cap, l, by rw [hll], .inr ⟨b, o, rfl, fun j hj => ?_⟩, fun r hr => ?_⟩
      · obtain ⟨_, q0, q1, q2, q3, q4⟩ := hq j (by omega)
        rw [add_plain] at q0 q1 q2 q3 q4
        exact ⟨q0, q1, q2, q3, q4⟩
      · obtain ⟨j, hj, e⟩ := List.mem_iff_getElem.1 hr
        have := (hq j (by omega)).1
        have e2 : l.getD j noAc = r := by simp [List.getD, hj, e]
        rw [e2] at this
        exact this
end
end Go.Proofs.Ytcnnepmhdccipaa.Ledger
