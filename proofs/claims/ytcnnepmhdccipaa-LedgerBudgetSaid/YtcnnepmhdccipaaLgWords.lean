/-
  Words for the program's ledger: rows with where their leases lie, as ranges of cells; make and copy of elements of several cells. No conditions beyond those that each names.
-/
import Derived.Test.YtcnnepmhdccipaaLedgerRise
import Derived.Deep.MidRow
import Derived.OwnWalk
import Derived.Deep.RegionLaw
namespace Go.Proofs.Ytcnnepmhdccipaa.Ledger
open Go.RowKit
open _root_.Go.Proofs.Ytcnnepmhdccipaa.Frame (Rw Tb noRow LeasesAt cell_on)

/-- A row, and where its leases lie. -/
abbrev Rp := Rw × (Option Addr × Nat)
def noRp : Rp := (noRow, none, 0)
/-- Cells from an address on. -/
def Lay (w : World) (p : Option Addr) (cs : List Value) : Prop := cs = [] ∨ ∃ b o, p = some ⟨b, o, none⟩ ∧ w.rangeAt b o cs
theorem range_on {w w' : World} {b o : Nat} {cs : List Value} (h : w.rangeAt b o cs) (hb : Below w.heap.size w w') : w'.rangeAt b o cs := fun j v hv => cell_on (h j v hv) hb
theorem Lay.on {w w' : World} {p : Option Addr} {cs : List Value} (h : Lay w p cs) (hb : Below w.heap.size w w') : Lay w' p cs := by
  rcases h with h | ⟨b, o, e, hc⟩
  · exact .inl h
  · exact .inr ⟨b, o, e, range_on hc hb⟩
theorem cellsR_len : ∀ (m : List Rp), (cellsR m).length = m.length * 4
  | [] => rfl
  | x :: m => by
    have e : cellsR (x :: m) = [.int .i64 x.1.key, .int .i64 x.1.avail, .int .i64 x.1.mark, .slice x.2.1 x.1.out.length (x.2.2 + x.1.out.length)] ++ cellsR m := by simp [cellsR]
    rw [e, List.length_append, cellsR_len m]
    simp
    omega
theorem cellsR_append (m n : List Rp) : cellsR (m ++ n) = cellsR m ++ cellsR n := by simp [cellsR]
theorem cellsL_len : ∀ (l : List (Int × Int)), (cellsL l).length = l.length * 2
  | [] => rfl
  | x :: l => by
    have e : cellsL (x :: l) = [.int .i64 x.1, .int .i64 x.2] ++ cellsL l := by simp [cellsL]
    rw [e, List.length_append, cellsL_len l]
    simp
    omega
theorem cellsL_append (m n : List (Int × Int)) : cellsL (m ++ n) = cellsL m ++ cellsL n := by simp [cellsL]
theorem cellsL_one (l : List (Int × Int)) : ∀ u ∈ cellsL l, u.oneCell' = true := by
  intro u hu
  simp only [cellsL, List.mem_flatMap] at hu
  obtain ⟨s, _, hs⟩ := hu
  simp at hs
  rcases hs with rfl | rfl <;> rfl

/-- Rows as a range, and back. -/
theorem range_rows {w : World} {b o : Nat} {m : List Rp} (h : ∀ j (hj : j < m.length), w.cell? ⟨b, o + j * 4, none⟩ = some (.int .i64 m[j].1.key) ∧ w.cell? ⟨b, o + j * 4 + 1, none⟩ = some (.int .i64 m[j].1.avail) ∧ w.cell? ⟨b, o + j * 4 + 2, none⟩ = some (.int .i64 m[j].1.mark) ∧ w.cell? ⟨b, o + j * 4 + 3, none⟩ = some (.slice m[j].2.1 m[j].1.out.length (m[j].2.2 + m[j].1.out.length))) : w.rangeAt b o (cellsR m) := by
  intro i v hv
  have hi : i < m.length * 4 := by
    rw [← cellsR_len]
    exact (List.getElem?_eq_some_iff.1 hv).1
  have hj : i / 4 < m.length := by omega
  obtain ⟨c0, c1, c2, c3⟩ := cellsR_at m (i / 4) hj
  obtain ⟨h0, h1, h2, h3⟩ := h (i / 4) hj
  have hr : i = i / 4 * 4 ∨ i = i / 4 * 4 + 1 ∨ i = i / 4 * 4 + 2 ∨ i = i / 4 * 4 + 3 := by omega
  generalize i / 4 = q at *
  rcases hr with rfl | rfl | rfl | rfl
  · rw [c0] at hv; rw [← hv]; exact h0
  · rw [c1] at hv; rw [← hv, ← Nat.add_assoc]; exact h1
  · rw [c2] at hv; rw [← hv, ← Nat.add_assoc]; exact h2
  · rw [c3] at hv; rw [← hv, ← Nat.add_assoc]; exact h3
theorem rows_range {w : World} {b o : Nat} {m : List Rp} (h : w.rangeAt b o (cellsR m)) : ∀ j (hj : j < m.length), w.cell? ⟨b, o + j * 4, none⟩ = some (.int .i64 m[j].1.key) ∧ w.cell? ⟨b, o + j * 4 + 1, none⟩ = some (.int .i64 m[j].1.avail) ∧ w.cell? ⟨b, o + j * 4 + 2, none⟩ = some (.int .i64 m[j].1.mark) ∧ w.cell? ⟨b, o + j * 4 + 3, none⟩ = some (.slice m[j].2.1 m[j].1.out.length (m[j].2.2 + m[j].1.out.length)) := by
  intro j hj
  obtain ⟨c0, c1, c2, c3⟩ := cellsR_at m j hj
  exact ⟨h _ _ c0, by rw [Nat.add_assoc]; exact h _ _ c1, by rw [Nat.add_assoc]; exact h _ _ c2, by rw [Nat.add_assoc]; exact h _ _ c3⟩
/-- Rows, with where their leases lie. -/
theorem rows_pair {w : World} {p : Option Addr} {l : List Rw} (h : RowsAt w p l) : ∃ m : List Rp, m.map (·.1) = l ∧ Lay w p (cellsR m) ∧ (∀ x ∈ m, LeasesAt w x.2.1 x.1.out) ∧ ∀ S, RowsIn S w p l → ∀ x ∈ m, LeasesIn S w x.2.1 x.1.out := by
  rcases h with rfl | ⟨b, o, rfl, hc⟩
  · exact ⟨[], rfl, .inl rfl, (fun x hx => by cases hx), fun _ _ x hx => by cases hx⟩
  · have hq : ∀ j, ∃ q : Option Addr × Nat, j < l.length → w.cell? ⟨b, o + j * 4 + 3, none⟩ = some (.slice q.1 (l.getD j noRow).out.length (q.2 + (l.getD j noRow).out.length)) ∧ LeasesAt w q.1 (l.getD j noRow).out := fun j => by
      by_cases hj : j < l.length
      · obtain ⟨-, -, -, p, c, h3, h4⟩ := hc j hj
        exact ⟨(p, c), fun _ => ⟨h3, h4⟩⟩
      · exact ⟨(none, 0), fun h => absurd h hj⟩
    obtain ⟨f, hf⟩ := Classical.axiomOfChoice hq
    have hm : ((List.range l.length).map fun j => (l.getD j noRow, f j)).map (·.1) = l := by
      refine List.ext_getElem (by simp) fun i h1 h2 => ?_
      simp [List.getD, h2]
    refine ⟨(List.range l.length).map fun j => (l.getD j noRow, f j), hm, .inr ⟨b, o, rfl, range_rows fun j hj => ?_⟩, fun x hx => ?_, fun S hS x hx => ?_⟩
    · have hj' : j < l.length := by simpa using hj
      obtain ⟨h0, h1, h2, -⟩ := hc j hj'
      simp only [List.getElem_map, List.getElem_range]
      exact ⟨h0, h1, h2, (hf j hj').1⟩
    · simp only [List.mem_map, List.mem_range] at hx
      obtain ⟨j, hj, rfl⟩ := hx
      exact (hf j hj).2
    · simp only [List.mem_map, List.mem_range] at hx
      obtain ⟨j, hj, rfl⟩ := hx
      rcases hS with hS | ⟨b', o', e, -, hS⟩
      · rw [hS] at hj; cases hj
      · simp only [Option.some.injEq, Addr.mk.injEq, and_true] at e
        obtain ⟨rfl, rfl⟩ := e
        obtain ⟨-, -, -, p, c, h3, h4⟩ := hS j hj
        have h5 := (hf j hj).1
        rw [h3] at h5
        simp only [Option.some.injEq, Value.slice.injEq, true_and] at h5
        rw [← h5.1]
        exact h4
theorem pair_rows {w : World} {p : Option Addr} {m : List Rp} (h : Lay w p (cellsR m)) (hl : ∀ x ∈ m, LeasesAt w x.2.1 x.1.out) : RowsAt w p (m.map (·.1)) := by
  rcases h with h | ⟨b, o, rfl, hc⟩
  · have : m.length * 4 = 0 := by rw [← cellsR_len, h]; rfl
    have : m = [] := List.eq_nil_of_length_eq_zero (by omega)
    subst this
    exact .inl rfl
  · refine .inr ⟨b, o, rfl, fun j hj => ?_⟩
    have hj' : j < m.length := by simpa using hj
    obtain ⟨h0, h1, h2, h3⟩ := rows_range hc j hj'
    have e : (m.map (·.1)).getD j noRow = m[j].1 := by simp [List.getD, hj']
    rw [e]
    exact ⟨h0, h1, h2, m[j].2.1, m[j].2.2, h3, hl _ (List.getElem_mem hj')⟩
theorem pair_rowsin {w : World} {b o : Nat} {S : Nat → Prop} {m : List Rp} (h : w.rangeAt b o (cellsR m)) (hb : S b) (hl : ∀ x ∈ m, LeasesIn S w x.2.1 x.1.out) : RowsIn S w (some ⟨b, o, none⟩) (m.map (·.1)) := by
  refine .inr ⟨b, o, rfl, hb, fun j hj => ?_⟩
  have hj' : j < m.length := by simpa using hj
  obtain ⟨h0, h1, h2, h3⟩ := rows_range h j hj'
  have e : (m.map (·.1)).getD j noRow = m[j].1 := by simp [List.getD, hj']
  rw [e]
  exact ⟨h0, h1, h2, m[j].2.1, m[j].2.2, h3, hl _ (List.getElem_mem hj')⟩
/-- Leases as a range, and back. -/
theorem leases_lay {w : World} {p : Option Addr} {l : List (Int × Int)} (h : LeasesAt w p l) : Lay w p (cellsL l) := by
  rcases h with rfl | ⟨b, o, rfl, hc⟩
  · exact .inl rfl
  · refine .inr ⟨b, o, rfl, fun i v hv => ?_⟩
    have hi : i < l.length * 2 := by
      rw [← cellsL_len]
      exact (List.getElem?_eq_some_iff.1 hv).1
    have hj : i / 2 < l.length := by omega
    obtain ⟨c0, c1⟩ := cellsL_at l (i / 2) hj
    obtain ⟨h0, h1⟩ := hc (i / 2) hj
    have hr : i = i / 2 * 2 ∨ i = i / 2 * 2 + 1 := by omega
    generalize i / 2 = q at *
    rcases hr with rfl | rfl
    · rw [c0] at hv; rw [← hv]; exact h0
    · rw [c1] at hv; rw [← hv, ← Nat.add_assoc]; exact h1
theorem lay_leases {w : World} {b o : Nat} {l : List (Int × Int)} (h : w.rangeAt b o (cellsL l)) : ∀ j, j < l.length → w.cell? ⟨b, o + j * 2, none⟩ = some (.int .i64 (l.getD j (0, 0)).1) ∧ w.cell? ⟨b, o + j * 2 + 1, none⟩ = some (.int .i64 (l.getD j (0, 0)).2) := fun j hj => by
  obtain ⟨c0, c1⟩ := cellsL_at l j hj
  exact ⟨h _ _ c0, by rw [Nat.add_assoc]; exact h _ _ c1⟩

/-- Parts of a range. -/
theorem range_append {w : World} {b o : Nat} {A B : List Value} : w.rangeAt b o (A ++ B) ↔ w.rangeAt b o A ∧ w.rangeAt b (o + A.length) B := by
  refine ⟨fun h => ⟨fun j v hv => h j v ?_, fun j v hv => ?_⟩, fun ⟨h1, h2⟩ j v hv => ?_⟩
  · rw [List.getElem?_append_left (List.getElem?_eq_some_iff.1 hv).1]; exact hv
  · have := h (A.length + j) v (by rw [List.getElem?_append_right (by omega)]; simpa using hv)
    rwa [← Nat.add_assoc] at this
  · by_cases hj : j < A.length
    · rw [List.getElem?_append_left hj] at hv
      exact h1 j v hv
    · rw [List.getElem?_append_right (by omega)] at hv
      have := h2 (j - A.length) v hv
      rwa [show o + A.length + (j - A.length) = o + j by omega] at this
theorem Lay.left {w : World} {p : Option Addr} {A B : List Value} (h : Lay w p (A ++ B)) : Lay w p A := by
  rcases h with h | ⟨b, o, e, hc⟩
  · exact .inl (List.append_eq_nil_iff.1 h).1
  · exact .inr ⟨b, o, e, (range_append.1 hc).1⟩
/-- What a cut makes of an address. -/
def cut (p : Option Addr) (k : Nat) (z : Bool) : Option Addr := if z = true then p else p.map (·.add k)
theorem Lay.right {w : World} {p q : Option Addr} {A B : List Value} (h : Lay w p (A ++ B)) (hq : B = [] ∨ q = p.map (·.add A.length)) : Lay w q B := by
  rcases hq with hq | rfl
  · exact .inl hq
  · rcases h with h | ⟨b, o, rfl, hc⟩
    · exact .inl (List.append_eq_nil_iff.1 h).2
    · exact .inr ⟨b, o + A.length, by simp [Addr.add_mid], (range_append.1 hc).2⟩

/-- copy, of elements of several cells. -/
theorem run_copy_range (P : Program) (w : World) (dT sT ty elem : TypeId) (b o dLen dCap sLen sCap sz : Nat) (dp sp : Option Addr) (cs : List Value)
    (hu : P.underlying dT = some (.slice elem)) (hs : (P.info? elem).map (·.size) = some sz) (hn : cs.length = Nat.min sLen dLen * sz) (hsrc : Lay w sp cs) (hd : cs = [] ∨ dp = some ⟨b, o, none⟩)
    (ht : w.there b o cs.length) (h1 : ∀ v ∈ cs, v.oneCell' = true) :
    (Builtin.copy_ #[dT, sT] ty #[.slice dp dLen dCap, .slice sp sLen sCap]).run P w = .ok (goInt (Nat.min sLen dLen)) (w.setCells b o cs) := by
  cases hq : P.info? elem with
  | none => simp [hq] at hs
  | some i =>
    have hi : i.size = sz := by simpa [hq] using hs
    by_cases h0 : cs = []
    · subst h0
      have hn0 : Nat.min sLen dLen * sz = 0 := by rw [← hn]; rfl
      have hl : ∀ (x : Addr), (loadCells x 0).run P w = .ok #[] w := fun x => by simpa using run_loadCells_list (P := P) w x [] (by simp)
      cases dp <;> cases sp <;> simp [Builtin.copy_, run_underlying hu, Builtin.lenOf, Builtin.firstCells, sizeOf, typeInfo, hq, hi, hn0, storeCells, hl, World.setCells]
    · rcases hd with hd | rfl
      · exact absurd hd h0
      · rcases hsrc with hd | ⟨sb, so, rfl, hc⟩
        · exact absurd hd h0
        · have hl := run_loadCells_list (P := P) w ⟨sb, so, none⟩ cs (fun j v hv => by rw [Addr.add_mid]; exact hc j v hv)
          have hst := run_storeCells_cells (P := P) b o cs 0 w (fun j hj => by simpa using (ht j hj).1) (fun j hj => by simpa using (ht j hj).2) h1
          rw [hn] at hl
          simp [Builtin.copy_, run_underlying hu, Builtin.lenOf, Builtin.firstCells, sizeOf, typeInfo, hq, hi, hl, hst]
theorem wpList_copy_range {P : Program} {w : World} {ops : Array Oper} {rest : List Oper} {o : Oper} {a : Act} {Q : Exit → Act → World → Prop} (hgd : o.guard = none) (d s : Operand) (dT sT : TypeId)
    (ho : o.op = .call { callee := .builtin .copy, args := #[d, s], argTypes := #[dT, sT] }) (elem : TypeId) (sz : Nat) (hu : P.underlying dT = some (.slice elem)) (hs : (P.info? elem).map (·.size) = some sz)
    (dp sp : Option Addr) (dLen dCap sLen sCap : Nat) (hd : a.eval d = .slice dp dLen dCap) (hsv : a.eval s = .slice sp sLen sCap)
    (b off : Nat) (cs : List Value) (hn : cs.length = Nat.min sLen dLen * sz) (hsrc : Lay w sp cs) (hdp : cs = [] ∨ dp = some ⟨b, off, none⟩)
    (ht : w.there b off cs.length) (h1 : ∀ v ∈ cs, v.oneCell' = true) (h : ∀ w', Hid (w' = w.setCells b off cs) → wpList P ops Q rest (a.put o.dst (goInt (Nat.min sLen dLen))) w') :
    wpList P ops Q (o :: rest) a w := by
  refine wpList_plain hgd fun K hK => ?_
  have hrun := run_copy_range P w dT sT o.type elem b off dLen dCap sLen sCap sz dp sp cs hu hs hn hsrc hdp ht h1
  unfold Oper.wp
  simp [execOp, ho, resolve, invoke, builtin, hd, hsv, hrun, Result.andThen]
  exact hK _ _ (h _ rfl)
theorem step_copy_range {P : Program} {ops : Array Oper} {o : Oper} {a : Act} {w : World} {K : Act → World → Prop} {Q : Exit → Act → World → Prop} {E : Prop} (hgd : o.guard = none) (d s : Operand) (dT sT : TypeId)
    (ho : o.op = .call { callee := .builtin .copy, args := #[d, s], argTypes := #[dT, sT] }) (elem : TypeId) (sz : Nat) (hu : P.underlying dT = some (.slice elem)) (hs : (P.info? elem).map (·.size) = some sz)
    (dp sp : Option Addr) (dLen dCap sLen sCap : Nat) (hd : a.eval d = .slice dp dLen dCap) (hsv : a.eval s = .slice sp sLen sCap)
    (b off : Nat) (cs : List Value) (hn : cs.length = Nat.min sLen dLen * sz) (hsrc : Lay w sp cs) (hdp : cs = [] ∨ dp = some ⟨b, off, none⟩)
    (ht : w.there b off cs.length) (h1 : ∀ v ∈ cs, v.oneCell' = true) (h : ∀ w', Hid (w' = w.setCells b off cs) → K (a.put o.dst (goInt (Nat.min sLen dLen))) w') :
    if Region.wanted o (yielded ops a.tmps) = true then Oper.wp P o a w K Q else E := by
  have hw : Region.wanted o (yielded ops a.tmps) = true := by simp [Region.wanted, hgd]
  rw [if_pos hw]
  have hrun := run_copy_range P w dT sT o.type elem b off dLen dCap sLen sCap sz dp sp cs hu hs hn hsrc hdp ht h1
  unfold Oper.wp
  simp [execOp, ho, resolve, invoke, builtin, hd, hsv, hrun, Result.andThen]
  exact h _ rfl
/-- A store of a value of several cells. -/
theorem run_store_range (P : Program) (w : World) (b o : Nat) (ty : TypeId) (cells : List Value) (ht : w.there b o cells.length) (hi : (P.info? ty).map (·.size) = some cells.length) (h1 : ∀ v ∈ cells, v.oneCell' = true) :
    (Instr.storeAt ty (.pointer (some ⟨b, o, none⟩)) (.agg cells.toArray)).run P w = .ok () (w.setCells b o cells) :=
  run_storeAt_mid w b o ty cells.toArray (by simpa using ht) (by simpa using hi) (all_oneCell_toArray h1)
/-- Cuts. -/
theorem cut_head (P : Program) (t e : TypeId) (sz : Nat) (ht : P.underlying t = some (.slice e)) (hs : (P.info? e).map (·.size) = some sz) (p : Option Addr) (n c i : Nat) (h : i ≤ c) (w : World) :
    (Instr.slice t (.slice p n c) none (some (.int .i64 (i : Int))) none).run P w = .ok (.slice p i c) w := by
  cases hq : P.info? e with
  | none => simp [hq] at hs
  | some j =>
    have hi : j.size = sz := by simpa [hq] using hs
    have h2 : (i : Int) ≤ (c : Int) := by omega
    have e0 : ∀ a : Addr, a.add 0 = a := fun a => by
      obtain ⟨b, o, sp⟩ := a
      unfold Addr.add
      split <;> simp_all
    have h3 : ¬ c < i := by omega
    simp [Instr.slice, run_underlying ht, Instr.sliceBounds, Instr.sliceBound, asIntOf, h2, h3, sizeOf, typeInfo, hq, e0]
theorem cut_tail (P : Program) (t e : TypeId) (sz : Nat) (ht : P.underlying t = some (.slice e)) (hs : (P.info? e).map (·.size) = some sz) (p : Option Addr) (n c k : Nat) (x : Int) (hx : x = (k : Int)) (h : k ≤ n) (hc : n ≤ c) :
    ∃ q, (∀ w, (Instr.slice t (.slice p n c) (some (.int .i64 x)) none none).run P w = .ok (.slice q (n - k) (c - k)) w) ∧ (n - k = 0 ∨ q = p.map (·.add (k * sz))) := by
  subst hx
  cases hq : P.info? e with
  | none => simp [hq] at hs
  | some j =>
    have hi : j.size = sz := by simpa [hq] using hs
    have h2 : (k : Int) ≤ (n : Int) := by omega
    have h3 : ¬ n < k := by omega
    refine ⟨if c = k then p else p.map (·.add (k * sz)), fun w => ?_, ?_⟩
    · simp [Instr.slice, run_underlying ht, Instr.sliceBounds, Instr.sliceBound, asIntOf, h2, h3, sizeOf, typeInfo, hq, hi]
    · by_cases e : c = k
      · left; omega
      · right; rw [if_neg e]
/-- make([]T, n). -/
theorem wpList_make_range {P : Program} {w : World} {ops : Array Oper} {rest : List Oper} {o : Oper} {a : Act} {Q : Exit → Act → World → Prop} (hg : o.guard = none) (l c : Operand) (t : TypeId) (hop : o.op = Op.makeSlice t l c)
    (e : TypeId) (i : TypeInfo) (z : Value) (sz : Nat) (h1 : P.underlying t = some (.slice e)) (h2 : P.info? e = some i) (h3 : i.zero = some z) (h4 : i.size = sz)
    (kl kc : IntKind) (L C : Int) (n : Nat) (hl : a.eval l = .int kl L) (hc : a.eval c = .int kc C) (hL : L = (n : Int)) (hC : C = (n : Int)) (b2 : i.bytes * n ≤ 281474976710656) (b3 : n ≤ 9223372036854775807)
    (hK : ∀ w', Below w.heap.size w w' → w.heap.size < w'.heap.size → w'.there w.heap.size 0 (n * sz) → wpList P ops Q rest (a.put o.dst (.slice (some ⟨w.heap.size, 0, none⟩) n n)) w') :
    wpList P ops Q (o :: rest) a w := by
  refine wpList_plain hg fun K hK' => ?_
  subst hL hC h4
  have hrun := run_make (P := P) w t e i z h1 h2 h3 kl kc n n (by omega) (by omega) (by omega) (by omega)
  simp only [Int.toNat_natCast] at hrun
  unfold Oper.wp
  simp [execOp, hop, hl, hc, hrun, Result.andThen]
  refine hK' _ _ (hK _ ((Below.refl _ _).alloc (Nat.le_refl _) _) (by simp) fun j hj => ?_)
  have hs := heap_alloc_new w (.cells (madeCells z.cells (n * i.size)) e)
  have hm : j < (madeCells z.cells (n * i.size)).size := by rw [size_madeCells]; exact hj
  refine ⟨?_, ?_⟩
  · rw [Nat.zero_add, cell_of_row _ _ _ _ _ (0, 0) hs, Array.getElem?_eq_getElem hm]; rfl
  · exact Codec.frozen_of hs
/-- A new block that is filled from its head on. -/
structure Fill (w0 : World) (g M : Nat) (X : List Value) (u : World) : Prop where
  room : u.there g 0 M
  has : u.rangeAt g 0 X
  below : Below w0.heap.size w0 u
  ge : w0.heap.size ≤ g
theorem Fill.sub {w0 : World} {g M : Nat} {X : List Value} {u : World} (h : Fill w0 g M X u) (o n : Nat) (hn : o + n ≤ M) : u.there g o n := fun j hj => by
  have := h.room (o + j) (by omega)
  rwa [Nat.zero_add] at this
theorem Fill.cell {w0 : World} {g M : Nat} {X : List Value} {u : World} (h : Fill w0 g M X u) {o : Nat} (ho : o < M) : ∃ z, u.cell? ⟨g, o, none⟩ = some z ∧ u.frozen? ⟨g, o, none⟩ = false := by
  obtain ⟨h1, h2⟩ := h.room o ho
  rw [Nat.zero_add] at h1 h2
  obtain ⟨z, hz⟩ := Option.isSome_iff_exists.1 h1
  exact ⟨z, hz, h2⟩
theorem Fill.same {w0 : World} {g M : Nat} {X : List Value} {u u' : World} (h : Fill w0 g M X u) (hb : Below u.heap.size u u') : Fill w0 g M X u' := by
  refine ⟨fun j hj => ?_, range_on h.has hb, h.below.trans (hb.mono h.below.size), h.ge⟩
  obtain ⟨h1, h2⟩ := h.room j hj
  obtain ⟨v, hv⟩ := Option.isSome_iff_exists.1 h1
  have hlt := World.block_lt_of_cell? _ _ hv
  refine ⟨by rw [cell_on hv hb]; rfl, ?_⟩
  rw [← h2]
  exact hb.frozen (p := ⟨g, 0 + j, none⟩) hlt
theorem there_heap {u u' : World} (e : u'.heap = u.heap) {b o n : Nat} (h : u.there b o n) : u'.there b o n := fun j hj => by
  obtain ⟨h1, h2⟩ := h j hj
  refine ⟨?_, ?_⟩
  · rw [← h1]; simp only [World.cell?, e]
  · rw [← h2]; simp only [World.frozen?, e]
theorem lay_heap {u u' : World} (e : u'.heap = u.heap) {p : Option Addr} {cs : List Value} (h : Lay u p cs) : Lay u' p cs := by
  rcases h with h | ⟨b, o, e2, h⟩
  · exact .inl h
  · refine .inr ⟨b, o, e2, fun j v hv => ?_⟩
    rw [← h j v hv]
    simp only [World.cell?, e]
/-- Behind cells that were set. -/
theorem below_setCells {B : Nat} {w0 : World} : ∀ (cs : List Value) (b o : Nat) (w : World), Below B w0 w → B ≤ b → Below B w0 (w.setCells b o cs)
  | [], _, _, _, h, _ => h
  | v :: cs, b, o, w, h, hb => below_setCells cs b (o + 1) _ (h.setCell hb v) hb
theorem size_setCells : ∀ (cs : List Value) (b o : Nat) (w : World), (w.setCells b o cs).heap.size = w.heap.size
  | [], _, _, _ => rfl
  | v :: cs, b, o, w => by rw [World.setCells, size_setCells cs b (o + 1)]; simp [World.setCell]
theorem Fill.step {w0 : World} {g M : Nat} {X : List Value} {u u' : World} {cs : List Value} {o : Nat} (h : Fill w0 g M X u) (e : u' = u.setCells g o cs) (ho : X.length = o) (hM : o + cs.length ≤ M) : Fill w0 g M (X ++ cs) u' := by
  subst e ho
  have ht := h.sub X.length cs.length hM
  refine ⟨World.there_setCells h.room _ _ _, ?_, below_setCells _ _ _ _ h.below h.ge, h.ge⟩
  rw [range_append]
  refine ⟨World.rangeAt_setCells_apart h.has _ _ _ (.inr (.inl (by omega))), ?_⟩
  have := World.rangeAt_setCells_same u g X.length cs ht
  rwa [Nat.zero_add]
end Go.Proofs.Ytcnnepmhdccipaa.Ledger
