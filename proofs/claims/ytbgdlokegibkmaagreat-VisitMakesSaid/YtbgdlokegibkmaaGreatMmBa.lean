/-
  Words for the program's ledger: rows with where their leases lie, as ranges of cells; make and copy of elements of several cells. No conditions beyond those that each names.
  The program's at, of any rows of up to 1000: the place of a key's row, or how many there are; nothing turns.
  The program's Total, lent, others, isNode, of any row of up to 1000 leases: what the plain functions give; what lay when the call began lies on.
  The program's Find, Look, of any rows of up to 1000, with where their leases lie.
  The program's above, of any rows of up to 1000.
  The program's idle, of any row and configuration; busy, of any rows of up to 1000.
  The program's Look, of any rows of up to 1000.
-/
import Derived.Deep.MidRow
import Derived.OwnWalk
import Derived.Deep.RegionLaw
import Derived.ScopeJumps
import Derived.WalkMore
import Derived.Laws.Cover1
import Derived.Test.YtbgdlokegibkmaaGreatMmAo
import Derived.Test.YtbgdlokegibkmaaGreatMmAb
import Derived.Test.YtbgdlokegibkmaaGreatMmAe
namespace Go.Proofs.YtbgdlokegibkmaaGreat.Ledger
open Go.RowKit
open _root_.Go.Proofs.YtbgdlokegibkmaaGreat.Frame (Rw Tb noRow LeasesAt cell_on)
/-- A row, and where its leases lie. -/
abbrev Rp := Rw × (Option Addr × Nat)
def noRp : Rp := (noRow, none, 0)
/-- Cells from an address on. -/
def Lay (w : World) (p : Option Addr) (cs : List Value) : Prop := cs = [] ∨ ∃ b o, p = some ⟨b, o, none⟩ ∧ w.rangeAt b o cs
theorem range_on {w w' : World} {b o : Nat} {cs : List Value} (h : w.rangeAt b o cs) (hb : Below w.heap.size w w') : w'.rangeAt b o cs := fun j v hv => cell_on (h j v hv) hb
theorem Lay.on {w w' : World} {p : Option Addr} {cs : List Value} (h : Lay w p cs) (hb : Below w.heap.size w w') : Lay w' p cs := by
  rcases h with h | ⟨b, o, e, hc⟩
  · exact .inl h
  · exact .inr ⟨b, o, e, range_on hc hb⟩
theorem cellsR_len : ∀ (m : List Rp), (cellsR m).length = m.length * 4
  | [] => rfl
  | x :: m => by
    have e : cellsR (x :: m) = [.int .i64 x.1.key, .int .i64 x.1.avail, .int .i64 x.1.mark, .slice x.2.1 x.1.out.length (x.2.2 + x.1.out.length)] ++ cellsR m := by simp [cellsR]
    rw [e, List.length_append, cellsR_len m]
    simp
    omega
theorem cellsR_append (m n : List Rp) : cellsR (m ++ n) = cellsR m ++ cellsR n := by simp [cellsR]
theorem cellsL_len : ∀ (l : List (Int × Int)), (cellsL l).length = l.length * 2
  | [] => rfl
  | x :: l => by
    have e : cellsL (x :: l) = [.int .i64 x.1, .int .i64 x.2] ++ cellsL l := by simp [cellsL]
    rw [e, List.length_append, cellsL_len l]
    simp
    omega
theorem cellsL_append (m n : List (Int × Int)) : cellsL (m ++ n) = cellsL m ++ cellsL n := by simp [cellsL]
theorem cellsL_one (l : List (Int × Int)) : ∀ u ∈ cellsL l, u.oneCell' = true := by
  intro u hu
  simp only [cellsL, List.mem_flatMap] at hu
  obtain ⟨s, _, hs⟩ := hu
  simp at hs
  rcases hs with rfl | rfl <;> rfl
/-- Rows as a range, and back. -/
theorem range_rows {w : World} {b o : Nat} {m : List Rp} (h : ∀ j (hj : j < m.length), w.cell? ⟨b, o + j * 4, none⟩ = some (.int .i64 m[j].1.key) ∧ w.cell? ⟨b, o + j * 4 + 1, none⟩ = some (.int .i64 m[j].1.avail) ∧ w.cell? ⟨b, o + j * 4 + 2, none⟩ = some (.int .i64 m[j].1.mark) ∧ w.cell? ⟨b, o + j * 4 + 3, none⟩ = some (.slice m[j].2.1 m[j].1.out.length (m[j].2.2 + m[j].1.out.length))) : w.rangeAt b o (cellsR m) := by
  intro i v hv
  have hi : i < m.length * 4 := by
    rw [← cellsR_len]
    exact (List.getElem?_eq_some_iff.1 hv).1
  have hj : i / 4 < m.length := by omega
  obtain ⟨c0, c1, c2, c3⟩ := cellsR_at m (i / 4) hj
  obtain ⟨h0, h1, h2, h3⟩ := h (i / 4) hj
  have hr : i = i / 4 * 4 ∨ i = i / 4 * 4 + 1 ∨ i = i / 4 * 4 + 2 ∨ i = i / 4 * 4 + 3 := by omega
  generalize i / 4 = q at *
  rcases hr with rfl | rfl | rfl | rfl
  · rw [c0] at hv; rw [← hv]; exact h0
  · rw [c1] at hv; rw [← hv, ← Nat.add_assoc]; exact h1
  · rw [c2] at hv; rw [← hv, ← Nat.add_assoc]; exact h2
  · rw [c3] at hv; rw [← hv, ← Nat.add_assoc]; exact h3
theorem rows_range {w : World} {b o : Nat} {m : List Rp} (h : w.rangeAt b o (cellsR m)) : ∀ j (hj : j < m.length), w.cell? ⟨b, o + j * 4, none⟩ = some (.int .i64 m[j].1.key) ∧ w.cell? ⟨b, o + j * 4 + 1, none⟩ = some (.int .i64 m[j].1.avail) ∧ w.cell? ⟨b, o + j * 4 + 2, none⟩ = some (.int .i64 m[j].1.mark) ∧ w.cell? ⟨b, o + j * 4 + 3, none⟩ = some (.slice m[j].2.1 m[j].1.out.length (m[j].2.2 + m[j].1.out.length)) := by
  intro j hj
  obtain ⟨c0, c1, c2, c3⟩ := cellsR_at m j hj
  exact ⟨h _ _ c0, by rw [Nat.add_assoc]; exact h _ _ c1, by rw [Nat.add_assoc]; exact h _ _ c2, by rw [Nat.add_assoc]; exact h _ _ c3⟩
/-- Rows, with where their leases lie. -/
theorem rows_pair {w : World} {p : Option Addr} {l : List Rw} (h : RowsAt w p l) : ∃ m : List Rp, m.map (·.1) = l ∧ Lay w p (cellsR m) ∧ (∀ x ∈ m, LeasesAt w x.2.1 x.1.out) ∧ ∀ S, RowsIn S w p l → ∀ x ∈ m, LeasesIn S w x.2.1 x.1.out := by
  rcases h with rfl | ⟨b, o, rfl, hc⟩
  · exact ⟨[], rfl, .inl rfl, (fun x hx => by cases hx), fun _ _ x hx => by cases hx⟩
  · have hq : ∀ j, ∃ q : Option Addr × Nat, j < l.length → w.cell? ⟨b, o + j * 4 + 3, none⟩ = some (.slice q.1 (l.getD j noRow).out.length (q.2 + (l.getD j noRow).out.length)) ∧ LeasesAt w q.1 (l.getD j noRow).out := fun j => by
      by_cases hj : j < l.length
      · obtain ⟨-, -, -, p, c, h3, h4⟩ := hc j hj
        exact ⟨(p, c), fun _ => ⟨h3, h4⟩⟩
      · exact ⟨(none, 0), fun h => absurd h hj⟩
    obtain ⟨f, hf⟩ := Classical.axiomOfChoice hq
    have hm : ((List.range l.length).map fun j => (l.getD j noRow, f j)).map (·.1) = l := by
      refine List.ext_getElem (by simp) fun i h1 h2 => ?_
      simp [List.getD, h2]
    refine ⟨(List.range l.length).map fun j => (l.getD j noRow, f j), hm, .inr ⟨b, o, rfl, range_rows fun j hj => ?_⟩, fun x hx => ?_, fun S hS x hx => ?_⟩
    · have hj' : j < l.length := by simpa using hj
      obtain ⟨h0, h1, h2, -⟩ := hc j hj'
      simp only [List.getElem_map, List.getElem_range]
      exact ⟨h0, h1, h2, (hf j hj').1⟩
    · simp only [List.mem_map, List.mem_range] at hx
      obtain ⟨j, hj, rfl⟩ := hx
      exact (hf j hj).2
    · simp only [List.mem_map, List.mem_range] at hx
      obtain ⟨j, hj, rfl⟩ := hx
      rcases hS with hS | ⟨b', o', e, -, hS⟩
      · rw [hS] at hj; cases hj
      · simp only [Option.some.injEq, Addr.mk.injEq, and_true] at e
        obtain ⟨rfl, rfl⟩ := e
        obtain ⟨-, -, -, p, c, h3, h4⟩ := hS j hj
        have h5 := (hf j hj).1
        rw [h3] at h5
        simp only [Option.some.injEq, Value.slice.injEq, true_and] at h5
        rw [← h5.1]
        exact h4
theorem pair_rows {w : World} {p : Option Addr} {m : List Rp} (h : Lay w p (cellsR m)) (hl : ∀ x ∈ m, LeasesAt w x.2.1 x.1.out) : RowsAt w p (m.map (·.1)) := by
  rcases h with h | ⟨b, o, rfl, hc⟩
  · have : m.length * 4 = 0 := by rw [← cellsR_len, h]; rfl
    have : m = [] := List.eq_nil_of_length_eq_zero (by omega)
    subst this
    exact .inl rfl
  · refine .inr ⟨b, o, rfl, fun j hj => ?_⟩
    have hj' : j < m.length := by simpa using hj
    obtain ⟨h0, h1, h2, h3⟩ := rows_range hc j hj'
    have e : (m.map (·.1)).getD j noRow = m[j].1 := by simp [List.getD, hj']
    rw [e]
    exact ⟨h0, h1, h2, m[j].2.1, m[j].2.2, h3, hl _ (List.getElem_mem hj')⟩
theorem pair_rowsin {w : World} {b o : Nat} {S : Nat → Prop} {m : List Rp} (h : w.rangeAt b o (cellsR m)) (hb : S b) (hl : ∀ x ∈ m, LeasesIn S w x.2.1 x.1.out) : RowsIn S w (some ⟨b, o, none⟩) (m.map (·.1)) := by
  refine .inr ⟨b, o, rfl, hb, fun j hj => ?_⟩
  have hj' : j < m.length := by simpa using hj
  obtain ⟨h0, h1, h2, h3⟩ := rows_range h j hj'
  have e : (m.map (·.1)).getD j noRow = m[j].1 := by simp [List.getD, hj']
  rw [e]
  exact ⟨h0, h1, h2, m[j].2.1, m[j].2.2, h3, hl _ (List.getElem_mem hj')⟩
/-- Leases as a range, and back. -/
theorem leases_lay {w : World} {p : Option Addr} {l : List (Int × Int)} (h : LeasesAt w p l) : Lay w p (cellsL l) := by
  rcases h with rfl | ⟨b, o, rfl, hc⟩
  · exact .inl rfl
  · refine .inr ⟨b, o, rfl, fun i v hv => ?_⟩
    have hi : i < l.length * 2 := by
      rw [← cellsL_len]
      exact (List.getElem?_eq_some_iff.1 hv).1
    have hj : i / 2 < l.length := by omega
    obtain ⟨c0, c1⟩ := cellsL_at l (i / 2) hj
    obtain ⟨h0, h1⟩ := hc (i / 2) hj
    have hr : i = i / 2 * 2 ∨ i = i / 2 * 2 + 1 := by omega
    generalize i / 2 = q at *
    rcases hr with rfl | rfl
    · rw [c0] at hv; rw [← hv]; exact h0
    · rw [c1] at hv; rw [← hv, ← Nat.add_assoc]; exact h1
theorem lay_leases {w : World} {b o : Nat} {l : List (Int × Int)} (h : w.rangeAt b o (cellsL l)) : ∀ j, j < l.length → w.cell? ⟨b, o + j * 2, none⟩ = some (.int .i64 (l.getD j (0, 0)).1) ∧ w.cell? ⟨b, o + j * 2 + 1, none⟩ = some (.int .i64 (l.getD j (0, 0)).2) := fun j hj => by
  obtain ⟨c0, c1⟩ := cellsL_at l j hj
  exact ⟨h _ _ c0, by rw [Nat.add_assoc]; exact h _ _ c1⟩
/-- Parts of a range. -/
theorem range_append {w : World} {b o : Nat} {A B : List Value} : w.rangeAt b o (A ++ B) ↔ w.rangeAt b o A ∧ w.rangeAt b (o + A.length) B := by
  refine ⟨fun h => ⟨fun j v hv => h j v ?_, fun j v hv => ?_⟩, fun ⟨h1, h2⟩ j v hv => ?_⟩
  · rw [List.getElem?_append_left (List.getElem?_eq_some_iff.1 hv).1]; exact hv
  · have := h (A.length + j) v (by rw [List.getElem?_append_right (by omega)]; simpa using hv)
    rwa [← Nat.add_assoc] at this
  · by_cases hj : j < A.length
    · rw [List.getElem?_append_left hj] at hv
      exact h1 j v hv
    · rw [List.getElem?_append_right (by omega)] at hv
      have := h2 (j - A.length) v hv
      rwa [show o + A.length + (j - A.length) = o + j by omega] at this
theorem Lay.left {w : World} {p : Option Addr} {A B : List Value} (h : Lay w p (A ++ B)) : Lay w p A := by
  rcases h with h | ⟨b, o, e, hc⟩
  · exact .inl (List.append_eq_nil_iff.1 h).1
  · exact .inr ⟨b, o, e, (range_append.1 hc).1⟩
/-- copy, of elements of several cells. -/
theorem run_copy_range (P : Program) (w : World) (dT sT ty elem : TypeId) (b o dLen dCap sLen sCap sz : Nat) (dp sp : Option Addr) (cs : List Value)
    (hu : P.underlying dT = some (.slice elem)) (hs : (P.info? elem).map (·.size) = some sz) (hn : cs.length = Nat.min sLen dLen * sz) (hsrc : Lay w sp cs) (hd : cs = [] ∨ dp = some ⟨b, o, none⟩)
    (ht : w.there b o cs.length) (h1 : ∀ v ∈ cs, v.oneCell' = true) :
    (Builtin.copy_ #[dT, sT] ty #[.slice dp dLen dCap, .slice sp sLen sCap]).run P w = .ok (goInt (Nat.min sLen dLen)) (w.setCells b o cs) := by
  cases hq : P.info? elem with
  | none => simp [hq] at hs
  | some i =>
    have hi : i.size = sz := by simpa [hq] using hs
    by_cases h0 : cs = []
    · subst h0
      have hn0 : Nat.min sLen dLen * sz = 0 := by rw [← hn]; rfl
      have hl : ∀ (x : Addr), (loadCells x 0).run P w = .ok #[] w := fun x => by simpa using run_loadCells_list (P := P) w x [] (by simp)
      cases dp <;> cases sp <;> simp [Builtin.copy_, run_underlying hu, Builtin.lenOf, Builtin.firstCells, sizeOf, typeInfo, hq, hi, hn0, storeCells, hl, World.setCells]
    · rcases hd with hd | rfl
      · exact absurd hd h0
      · rcases hsrc with hd | ⟨sb, so, rfl, hc⟩
        · exact absurd hd h0
        · have hl := run_loadCells_list (P := P) w ⟨sb, so, none⟩ cs (fun j v hv => by rw [Addr.add_mid]; exact hc j v hv)
          have hst := run_storeCells_cells (P := P) b o cs 0 w (fun j hj => by simpa using (ht j hj).1) (fun j hj => by simpa using (ht j hj).2) h1
          rw [hn] at hl
          simp [Builtin.copy_, run_underlying hu, Builtin.lenOf, Builtin.firstCells, sizeOf, typeInfo, hq, hi, hl, hst]
theorem wpList_copy_range {P : Program} {w : World} {ops : Array Oper} {rest : List Oper} {o : Oper} {a : Act} {Q : Exit → Act → World → Prop} (hgd : o.guard = none) (d s : Operand) (dT sT : TypeId)
    (ho : o.op = .call { callee := .builtin .copy, args := #[d, s], argTypes := #[dT, sT] }) (elem : TypeId) (sz : Nat) (hu : P.underlying dT = some (.slice elem)) (hs : (P.info? elem).map (·.size) = some sz)
    (dp sp : Option Addr) (dLen dCap sLen sCap : Nat) (hd : a.eval d = .slice dp dLen dCap) (hsv : a.eval s = .slice sp sLen sCap)
    (b off : Nat) (cs : List Value) (hn : cs.length = Nat.min sLen dLen * sz) (hsrc : Lay w sp cs) (hdp : cs = [] ∨ dp = some ⟨b, off, none⟩)
    (ht : w.there b off cs.length) (h1 : ∀ v ∈ cs, v.oneCell' = true) (h : ∀ w', Hid (w' = w.setCells b off cs) → wpList P ops Q rest (a.put o.dst (goInt (Nat.min sLen dLen))) w') :
    wpList P ops Q (o :: rest) a w := by
  refine wpList_plain hgd fun K hK => ?_
  have hrun := run_copy_range P w dT sT o.type elem b off dLen dCap sLen sCap sz dp sp cs hu hs hn hsrc hdp ht h1
  unfold Oper.wp
  simp [execOp, ho, resolve, invoke, builtin, hd, hsv, hrun, Result.andThen]
  exact hK _ _ (h _ rfl)
theorem step_copy_range {P : Program} {ops : Array Oper} {o : Oper} {a : Act} {w : World} {K : Act → World → Prop} {Q : Exit → Act → World → Prop} {E : Prop} (hgd : o.guard = none) (d s : Operand) (dT sT : TypeId)
    (ho : o.op = .call { callee := .builtin .copy, args := #[d, s], argTypes := #[dT, sT] }) (elem : TypeId) (sz : Nat) (hu : P.underlying dT = some (.slice elem)) (hs : (P.info? elem).map (·.size) = some sz)
    (dp sp : Option Addr) (dLen dCap sLen sCap : Nat) (hd : a.eval d = .slice dp dLen dCap) (hsv : a.eval s = .slice sp sLen sCap)
    (b off : Nat) (cs : List Value) (hn : cs.length = Nat.min sLen dLen * sz) (hsrc : Lay w sp cs) (hdp : cs = [] ∨ dp = some ⟨b, off, none⟩)
    (ht : w.there b off cs.length) (h1 : ∀ v ∈ cs, v.oneCell' = true) (h : ∀ w', Hid (w' = w.setCells b off cs) → K (a.put o.dst (goInt (Nat.min sLen dLen))) w') :
    if Region.wanted o (yielded ops a.tmps) = true then Oper.wp P o a w K Q else E := by
  have hw : Region.wanted o (yielded ops a.tmps) = true := by simp [Region.wanted, hgd]
  rw [if_pos hw]
  have hrun := run_copy_range P w dT sT o.type elem b off dLen dCap sLen sCap sz dp sp cs hu hs hn hsrc hdp ht h1
  unfold Oper.wp
  simp [execOp, ho, resolve, invoke, builtin, hd, hsv, hrun, Result.andThen]
  exact h _ rfl
/-- Cuts. -/
theorem cut_head (P : Program) (t e : TypeId) (sz : Nat) (ht : P.underlying t = some (.slice e)) (hs : (P.info? e).map (·.size) = some sz) (p : Option Addr) (n c i : Nat) (h : i ≤ c) (w : World) :
    (Instr.slice t (.slice p n c) none (some (.int .i64 (i : Int))) none).run P w = .ok (.slice p i c) w := by
  cases hq : P.info? e with
  | none => simp [hq] at hs
  | some j =>
    have hi : j.size = sz := by simpa [hq] using hs
    have h2 : (i : Int) ≤ (c : Int) := by omega
    have e0 : ∀ a : Addr, a.add 0 = a := fun a => by
      obtain ⟨b, o, sp⟩ := a
      unfold Addr.add
      split <;> simp_all
    have h3 : ¬ c < i := by omega
    simp [Instr.slice, run_underlying ht, Instr.sliceBounds, Instr.sliceBound, asIntOf, h3, sizeOf, typeInfo, hq, e0]
theorem cut_tail (P : Program) (t e : TypeId) (sz : Nat) (ht : P.underlying t = some (.slice e)) (hs : (P.info? e).map (·.size) = some sz) (p : Option Addr) (n c k : Nat) (x : Int) (hx : x = (k : Int)) (h : k ≤ n) (hc : n ≤ c) :
    ∃ q, (∀ w, (Instr.slice t (.slice p n c) (some (.int .i64 x)) none none).run P w = .ok (.slice q (n - k) (c - k)) w) ∧ (n - k = 0 ∨ q = p.map (·.add (k * sz))) := by
  subst hx
  cases hq : P.info? e with
  | none => simp [hq] at hs
  | some j =>
    have hi : j.size = sz := by simpa [hq] using hs
    have h2 : (k : Int) ≤ (n : Int) := by omega
    have h3 : ¬ n < k := by omega
    refine ⟨if c = k then p else p.map (·.add (k * sz)), fun w => ?_, ?_⟩
    · simp [Instr.slice, run_underlying ht, Instr.sliceBounds, Instr.sliceBound, asIntOf, h3, sizeOf, typeInfo, hq, hi]
    · by_cases e : c = k
      · left; omega
      · right; rw [if_neg e]
/-- make([]T, n). -/
theorem wpList_make_range {P : Program} {w : World} {ops : Array Oper} {rest : List Oper} {o : Oper} {a : Act} {Q : Exit → Act → World → Prop} (hg : o.guard = none) (l c : Operand) (t : TypeId) (hop : o.op = Op.makeSlice t l c)
    (e : TypeId) (i : TypeInfo) (z : Value) (sz : Nat) (h1 : P.underlying t = some (.slice e)) (h2 : P.info? e = some i) (h3 : i.zero = some z) (h4 : i.size = sz)
    (kl kc : IntKind) (L C : Int) (n : Nat) (hl : a.eval l = .int kl L) (hc : a.eval c = .int kc C) (hL : L = (n : Int)) (hC : C = (n : Int)) (b2 : i.bytes * n ≤ 281474976710656) (b3 : n ≤ 9223372036854775807)
    (hK : ∀ w', Below w.heap.size w w' → w.heap.size < w'.heap.size → w'.there w.heap.size 0 (n * sz) → wpList P ops Q rest (a.put o.dst (.slice (some ⟨w.heap.size, 0, none⟩) n n)) w') :
    wpList P ops Q (o :: rest) a w := by
  refine wpList_plain hg fun K hK' => ?_
  subst hL hC h4
  have hrun := run_make (P := P) w t e i z h1 h2 h3 kl kc n n (by omega) (by omega) (by omega) (by omega)
  simp only [Int.toNat_natCast] at hrun
  unfold Oper.wp
  simp [execOp, hop, hl, hc, hrun, Result.andThen]
  refine hK' _ _ (hK _ ((Below.refl _ _).alloc (Nat.le_refl _) _) (by simp) fun j hj => ?_)
  have hs := heap_alloc_new w (.cells (madeCells z.cells (n * i.size)) e)
  have hm : j < (madeCells z.cells (n * i.size)).size := by rw [size_madeCells]; exact hj
  refine ⟨?_, ?_⟩
  · rw [Nat.zero_add, cell_of_row _ _ _ _ _ (0, 0) hs, Array.getElem?_eq_getElem hm]; rfl
  · exact Codec.frozen_of hs
/-- A new block that is filled from its head on. -/
structure Fill (w0 : World) (g M : Nat) (X : List Value) (u : World) : Prop where
  room : u.there g 0 M
  has : u.rangeAt g 0 X
  below : Below w0.heap.size w0 u
  ge : w0.heap.size ≤ g
theorem Fill.sub {w0 : World} {g M : Nat} {X : List Value} {u : World} (h : Fill w0 g M X u) (o n : Nat) (hn : o + n ≤ M) : u.there g o n := fun j hj => by
  have := h.room (o + j) (by omega)
  rwa [Nat.zero_add] at this
theorem Fill.cell {w0 : World} {g M : Nat} {X : List Value} {u : World} (h : Fill w0 g M X u) {o : Nat} (ho : o < M) : ∃ z, u.cell? ⟨g, o, none⟩ = some z ∧ u.frozen? ⟨g, o, none⟩ = false := by
  obtain ⟨h1, h2⟩ := h.room o ho
  rw [Nat.zero_add] at h1 h2
  obtain ⟨z, hz⟩ := Option.isSome_iff_exists.1 h1
  exact ⟨z, hz, h2⟩
theorem Fill.same {w0 : World} {g M : Nat} {X : List Value} {u u' : World} (h : Fill w0 g M X u) (hb : Below u.heap.size u u') : Fill w0 g M X u' := by
  refine ⟨fun j hj => ?_, range_on h.has hb, h.below.trans (hb.mono h.below.size), h.ge⟩
  obtain ⟨h1, h2⟩ := h.room j hj
  obtain ⟨v, hv⟩ := Option.isSome_iff_exists.1 h1
  have hlt := World.block_lt_of_cell? _ _ hv
  refine ⟨by rw [cell_on hv hb]; rfl, ?_⟩
  rw [← h2]
  exact hb.frozen (p := ⟨g, 0 + j, none⟩) hlt
theorem there_heap {u u' : World} (e : u'.heap = u.heap) {b o n : Nat} (h : u.there b o n) : u'.there b o n := fun j hj => by
  obtain ⟨h1, h2⟩ := h j hj
  refine ⟨?_, ?_⟩
  · rw [← h1]; simp only [World.cell?, e]
  · rw [← h2]; simp only [World.frozen?, e]
theorem lay_heap {u u' : World} (e : u'.heap = u.heap) {p : Option Addr} {cs : List Value} (h : Lay u p cs) : Lay u' p cs := by
  rcases h with h | ⟨b, o, e2, h⟩
  · exact .inl h
  · refine .inr ⟨b, o, e2, fun j v hv => ?_⟩
    rw [← h j v hv]
    simp only [World.cell?, e]
/-- Behind cells that were set. -/
theorem below_setCells {B : Nat} {w0 : World} : ∀ (cs : List Value) (b o : Nat) (w : World), Below B w0 w → B ≤ b → Below B w0 (w.setCells b o cs)
  | [], _, _, _, h, _ => h
  | v :: cs, b, o, _, h, hb => below_setCells cs b (o + 1) _ (h.setCell hb v) hb
theorem Fill.step {w0 : World} {g M : Nat} {X : List Value} {u u' : World} {cs : List Value} {o : Nat} (h : Fill w0 g M X u) (e : u' = u.setCells g o cs) (ho : X.length = o) (hM : o + cs.length ≤ M) : Fill w0 g M (X ++ cs) u' := by
  subst e ho
  have ht := h.sub X.length cs.length hM
  refine ⟨World.there_setCells h.room _ _ _, ?_, below_setCells _ _ _ _ h.below h.ge, h.ge⟩
  rw [range_append]
  refine ⟨World.rangeAt_setCells_apart h.has _ _ _ (.inr (.inl (by omega))), ?_⟩
  have := World.rangeAt_setCells_same u g X.length cs ht
  rwa [Nat.zero_add]
end Go.Proofs.YtbgdlokegibkmaaGreat.Ledger

namespace Go.Proofs.YtbgdlokegibkmaaGreat.Ledger
open Go.RowKit
open _root_.Go.Proofs.YtbgdlokegibkmaaGreat.Frame (Rw Tb noRow LeasesAt cell_on)
/-- Where a key's row stands; behind the last one: none. -/
def pat (l : List Rw) (key : Int) : Nat := if place l key < 0 then l.length else (place l key).toNat
theorem pat_at {l : List Rw} {key : Int} {j : Nat} (hj : j < l.length) (h : ∀ i, i < j → (l.getD i noRow).key ≠ key) (h1 : (l.getD j noRow).key = key) : pat l key = j := by
  have e : place l key = (j : Int) := spot_at _ noRow l j hj (fun i hi => by simpa using h i hi) (by simpa using h1)
  unfold pat
  rw [e, if_neg (by omega), Int.toNat_natCast]
theorem pat_none {l : List Rw} {key : Int} (h : ∀ i, i < l.length → (l.getD i noRow).key ≠ key) : pat l key = l.length := by
  have e : place l key = -1 := spot_none _ noRow l fun i hi => by simpa using h i hi
  unfold pat
  rw [e, if_pos (by omega)]
theorem pat_cases (l : List Rw) (key : Int) : (place l key = -1 ∧ pat l key = l.length ∧ ∀ i, i < l.length → (l.getD i noRow).key ≠ key) ∨ (∃ j : Nat, place l key = (j : Int) ∧ pat l key = j ∧ j < l.length ∧ (l.getD j noRow).key = key) := by
  rcases spot_cases (fun r : Rw => r.key == key) noRow l with ⟨h1, h2⟩ | ⟨j, h1, h2, h3, h4⟩
  · exact .inl ⟨h1, pat_none fun i hi => by simpa using h2 i hi, fun i hi => by simpa using h2 i hi⟩
  · exact .inr ⟨j, h1, pat_at h2 (fun i hi => by simpa using h4 i hi) (by simpa using h3), h2, by simpa using h3⟩
set_option maxRecDepth 100000 in
theorem pat_any (l : List Rw) (p : Option Addr) (c : Nat) (key : Int) (w : World) (h : RowsAt w p l) (hl : l.length ≤ 1000) :
    Calls Tryz.prog 189 #[.slice p l.length c, .int .i64 key] w fun e w' => e = .returned (.int .i64 (pat l key : Nat)) ∧ w' = w := by
  have tri : Hid (∀ j : Nat, j ≤ l.length → (∀ i, i < j → (l.getD i noRow).key ≠ key) → (∃ b o y, (j : Int) < (l.length : Int) ∧ p = some ⟨b, o, none⟩ ∧ w.cell? ⟨b, o + j * 4, none⟩ = some (.int .i64 y) ∧ ¬ y = key ∧ Hid (∀ i, i < j + 1 → (l.getD i noRow).key ≠ key)) ∨
      (∃ b o, (j : Int) < (l.length : Int) ∧ p = some ⟨b, o, none⟩ ∧ w.cell? ⟨b, o + j * 4, none⟩ = some (.int .i64 key) ∧ Hid (pat l key = j)) ∨ (j = l.length ∧ Hid (pat l key = j))) := by
    intro j hj hne
    by_cases hlt : j < l.length
    · obtain ⟨b, o, rfl, k0, -⟩ := rows_some h hlt
      by_cases hk : (l.getD j noRow).key = key
      · exact .inr (.inl ⟨b, o, by omega, rfl, by rw [← hk]; exact k0, pat_at hlt hne hk⟩)
      · refine .inl ⟨b, o, _, by omega, rfl, k0, hk, fun i hi => ?_⟩
        by_cases e : i < j
        · exact hne i e
        · rw [show i = j by omega]; exact hk
    · have e : j = l.length := by omega
      exact .inr (.inr ⟨e, by subst e; exact pat_none hne⟩)
  generalize pat l key = R at *
  have tri0 := tri.out 0 (by omega) (fun i hi => by omega)
  clear h
  go_enter Tryz.func189, Tryz.ntmps189
  go_wp2
  refine wp_scope_jumps 0 (fun a' w' => w' = w ∧ ∃ (j : Nat) (u6 u7 u8 u9 u10 u11 u12 u13 u14 u15 u16 u17 u18 u19 u20 u21 : Value), a' = { tmps := #[.slice p l.length c, .int .i64 key, undef, undef, .int .i64 0, .int .i64 (j : Int), u6, u7, u8, u9, u10, u11, u12, u13, u14, u15, u16, u17, u18, u19, u20, u21], defers := [] } ∧ j ≤ l.length ∧ Hid (∀ i, i < j → (l.getD i noRow).key ≠ key)) (fun a' _ => l.length - (intOf (a'.tmps.getD 5 undef)).toNat) rfl ?_ ?_
  · rcases tri0 with ⟨b, o, y, hlt, rfl, k0, hk, hn⟩ | ⟨b, o, hlt, rfl, k0, hR⟩ | ⟨hj, hR⟩
    · simp only [Nat.zero_mul, Nat.add_zero] at k0
      go_wp2
      go_step3
      go_wp2
      go_step3
      exact ⟨rfl, rfl, 1, _, _, _, _, _, _, _, _, _, _, _, _, _, _, _, _, rfl, by omega, hn⟩
    · simp only [Nat.zero_mul, Nat.add_zero] at k0
      go_wp2
      go_step3
      go_wp2
      simp only [Exit.jump]
      go_ret
      exact ⟨by rw [hR.out]; rfl, rfl⟩
    · have hj' : ¬ (0 : Int) < (l.length : Int) := by omega
      go_wp2
      go_step3
      go_wp2
      simp only [Exit.jump]
      go_ret
      exact ⟨by rw [hR.out]; rfl, rfl⟩
  · rintro a' w' ⟨rfl, j, u6, u7, u8, u9, u10, u11, u12, u13, u14, u15, u16, u17, u18, u19, u20, u21, rfl, hj, hne⟩
    rcases tri.out j hj hne.out with ⟨b, o, y, hlt, rfl, k0, hk, hn⟩ | ⟨b, o, hlt, rfl, k0, hR⟩ | ⟨hj, hR⟩
    · clear tri tri0 hne
      go_wp2
      go_step3
      refine ⟨rfl, ⟨rfl, j + 1, _, _, _, _, _, _, _, _, _, _, _, _, _, _, _, _, rfl, by omega, hn⟩, ?_⟩
      simp [intOf]
      omega
    · clear tri tri0 hne
      go_wp2
      simp only [Exit.jump]
      go_ret
      exact ⟨by rw [hR.out]; rfl, rfl⟩
    · clear tri tri0 hne
      have hj' : ¬ (j : Int) < (l.length : Int) := by omega
      go_wp2
      simp only [Exit.jump]
      go_ret
      exact ⟨by rw [hR.out, hj]; rfl, rfl⟩
end Go.Proofs.YtbgdlokegibkmaaGreat.Ledger

namespace Go.Proofs.YtbgdlokegibkmaaGreat.Ledger
open Go.RowKit
open _root_.Go.Proofs.YtbgdlokegibkmaaGreat.Frame (Rw Tb noRow LeasesAt cell_on)
open _root_.Go.Proofs.YtbgdlokegibkmaaGreat.Codec (own_below own_lower lt_of_heap frozen_of heap_set)
open _root_.Go.Proofs.YtbgdlokegibkmaaGreat.Sat (fit add sub mul fit_lo fit_hi fit_self fit_any sub_any mul_any add2 add_lo add_hi)
theorem add_snoc (l : List Int) (x : Int) : add (l ++ [x]) = add [add l, x] := by
  have h0 := add_lo l
  have h1 := add_hi l
  have hs : Sat.sum (l ++ [x]) = Sat.sum l + fit x := by
    have := Sat.sum_take (l ++ [x]) l.length (by simp)
    rw [List.take_of_length_le (by simp), List.take_left'] at this
    · rw [this]; simp [List.getD]
    · rfl
  have hl := Sat.sum_lo l
  have hx := fit_lo x
  unfold add at h0 h1 ⊢
  rw [Sat.sum_two, hs]
  generalize Sat.sum l = S at *
  have ht : Sat.top = 4611686018427387904 := rfl
  rw [ht] at h0 h1 ⊢
  rw [fit_self h0 h1]
  by_cases hS : 4611686018427387904 < S
  · rw [if_pos hS]
    split <;> split <;> omega
  · rw [if_neg hS]
theorem add_just (x : Int) : add [x] = fit x := by
  have h0 := fit_lo x
  have h1 := fit_hi x
  unfold add
  have : Sat.sum [x] = fit x := by simp [Sat.sum]
  rw [this, if_neg (by unfold Sat.top; omega)]
set_option maxRecDepth 100000 in
set_option maxHeartbeats 1000000 in
theorem ptotal_any (r : Rw) (p : Option Addr) (c : Nat) (w : World) (h : LeasesAt w p r.out) (hl : r.out.length ≤ 1000) :
    Calls Tryz.prog 224 #[rowVal r p c] w fun e w' => e = .returned (.int .i64 (total r)) ∧ Below w.heap.size w w' := by
  have HT := Lib.hid (soFar_all r)
  have HS : ∀ j, Hid (j < r.out.length → add (soFar r (j + 1)) = add [add (soFar r j), (r.out.getD j (0, 0)).2]) := fun j hj => by rw [soFar_succ r j hj, add_snoc]
  have h00 : add (soFar r 0) = fit r.avail := by rw [← add_just]; simp [soFar]
  generalize total r = T at HT ⊢
  generalize hF : (fun j => add (soFar r j)) = F
  have hFj : ∀ j, add (soFar r j) = F j := fun j => by rw [← hF]
  simp only [hFj] at HT HS h00
  clear hF hFj
  obtain ⟨key, avail, mark, out⟩ := r
  simp only [rowVal] at *
  have M0 := Lib.hid (((Mem.start w).addLeases h).box #[.int .i64 key, .int .i64 avail, .int .i64 mark, .slice p out.length (c + out.length)] 80)
  obtain ⟨r0, r1, r2, r3, -⟩ := box4 (M0.out.boxes 0 _ _ _ rfl)
  have hfit := fit_any avail
  rw [← h00] at hfit
  clear h
  go_enter Tryz.func224, Tryz.ntmps224
  go_wp2_with (go_at_call 100; (with_reducible refine (hfit _).mono ?_); rintro e w' ⟨rfl, rfl⟩)
  go_loopw [3, 12] (fun s i wr => ∃ j : Nat, j ≤ out.length ∧ i = .int .i64 (j : Int) ∧ s = .int .i64 (F j) ∧ Below (w.alloc (.cells #[.int .i64 key, .int .i64 avail, .int .i64 mark, .slice p out.length (c + out.length)] 80)).heap.size (w.alloc (.cells #[.int .i64 key, .int .i64 avail, .int .i64 mark, .slice p out.length (c + out.length)] 80)) wr) (fun _ i _ => out.length - (intOf i).toNat)
  case atStart => exact ⟨0, by omega, rfl, by rw [h00], Below.refl _ _⟩
  case round =>
    obtain ⟨j, hj, rfl, rfl, hbw⟩ := hrel
    have M1 := Lib.hid (M0.out.on hbw)
    by_cases hlt : j < out.length
    · obtain ⟨b, o, rfl, x0, x1⟩ := leases_some (M1.out.leases 0 _ _ rfl) hlt
      have hlt' : (j : Int) < (out.length : Int) := by omega
      have hs := (HS j).out hlt
      generalize out.getD j (0, 0) = y at *
      obtain ⟨y1, y2⟩ := y
      simp only at x0 x1 hs
      have M2 := Lib.hid (M1.out.box #[.int .i64 y1, .int .i64 y2] 141)
      have hadd := add2 (F j) y2
      rw [← hs] at hadd
      have HBW := Lib.hid hbw
      clear HS HT hs r0 r1 r2 r3 hfit hbw h00
      go_wp2_with (go_at_call 88; (with_reducible refine (hadd _ _ (by simp)).mono ?_); rintro e u ⟨rfl, rfl⟩)
      go_roundw
      case rel => exact ⟨j + 1, by omega, by go_num, rfl, (HBW.out.alloc HBW.out.size _).alloc (Nat.le_trans HBW.out.size (by simp)) _⟩
      case measure => simp only [intOf]; omega
    · obtain rfl : j = out.length := by omega
      have hT := HT.out
      clear HS HT
      go_wp2
      go_ret
      exact ⟨by rw [hT]; rfl, M1.out.below⟩
/-- What a node has out, and whether. -/
def lentStep (node : Int) (s : Int × Bool) (y : Int × Int) : Int × Bool := if y.1 = node then (add [s.1, y.2], true) else s
def lentOf (node : Int) (l : List (Int × Int)) : Int × Bool := l.foldl (lentStep node) (0, false)
theorem lentOf_take (node : Int) (l : List (Int × Int)) (j : Nat) (h : j < l.length) : lentOf node (l.take (j + 1)) = lentStep node (lentOf node (l.take j)) (l.getD j (0, 0)) := by
  have e : l.getD j (0, 0) = l[j] := by simp [List.getD, h]
  rw [e, lentOf, List.take_succ_eq_append_getElem h, List.foldl_append]
  rfl
theorem lent_off (node : Int) : ∀ (l : List (Int × Int)) (s : Int × Bool), (∀ y ∈ l, y.1 ≠ node) → l.foldl (lentStep node) s = s
  | [], _, _ => rfl
  | y :: l, s, h => by
    have e : lentStep node s y = s := if_neg (h y List.mem_cons_self)
    rw [List.foldl_cons, e]
    exact lent_off node l s fun z hz => h z (List.mem_cons_of_mem _ hz)
/-- Leases that rise: one at most. -/
theorem up_apart {l : List (Int × Int)} (hu : UpL l) {j : Nat} (hj : j < l.length) {node : Int} (hk : l[j].1 = node) : (∀ y ∈ l.take j, y.1 ≠ node) ∧ ∀ y ∈ l.drop (j + 1), y.1 ≠ node := by
  have up := List.pairwise_iff_getElem.1 hu
  refine ⟨fun y hy => ?_, fun y hy => ?_⟩
  · obtain ⟨q, hq, rfl⟩ := List.mem_iff_getElem.1 hy
    simp only [List.length_take] at hq
    rw [List.getElem_take]
    have := up q j (by omega) hj (by omega)
    omega
  · obtain ⟨q, hq, rfl⟩ := List.mem_iff_getElem.1 hy
    simp only [List.length_drop] at hq
    rw [List.getElem_drop]
    have := up j (j + 1 + q) hj (by omega) (by omega)
    omega
theorem split_at {α : Type} (l : List α) (j : Nat) (hj : j < l.length) : l = l.take j ++ l[j] :: l.drop (j + 1) := by
  rw [← List.drop_eq_getElem_cons hj, List.take_append_drop]
theorem lent_out {l : List (Int × Int)} (hu : UpL l) (node : Int) (hA : ∀ y ∈ l, 1 ≤ y.2 ∧ y.2 ≤ 2147483648) : (outAt l node < 0 ∧ lentOf node l = (0, false)) ∨ (0 ≤ outAt l node ∧ lentOf node l = ((l.getD (outAt l node).toNat (0, 0)).2, true)) := by
  rcases spot_cases (fun x : Int × Int => x.1 == node) (0, 0) l with ⟨h1, h2⟩ | ⟨j, h1, h2, h3, -⟩
  · refine .inl ⟨by unfold outAt; omega, lent_off node l _ fun y hy => ?_⟩
    obtain ⟨i, hi, rfl⟩ := List.mem_iff_getElem.1 hy
    have := h2 i hi
    simpa [List.getD, hi] using this
  · have e : (outAt l node).toNat = j := by unfold outAt; omega
    have hk : l[j].1 = node := by simpa [List.getD, h2] using h3
    obtain ⟨a1, a2⟩ := up_apart hu h2 hk
    refine .inr ⟨by unfold outAt; omega, ?_⟩
    have ha := hA _ (List.getElem_mem h2)
    rw [e]
    have eg : l.getD j (0, 0) = l[j] := by simp [List.getD, h2]
    have e0 : lentOf node l = lentStep node (0, false) l[j] := by
      unfold lentOf
      conv => lhs; rw [split_at l j h2]
      rw [List.foldl_append, lent_off node _ _ a1, List.foldl_cons, lent_off node _ _ a2]
    rw [e0, eg, lentStep, if_pos hk]
    have e1 : add [0, l[j].2] = l[j].2 := by
      unfold add
      rw [Sat.sum_two, fit_self (x := 0) (by omega) (by omega), fit_self (x := l[j].2) (by omega) (by omega)]
      rw [if_neg (show ¬ Sat.top < 0 + l[j].2 by unfold Sat.top; omega)]
      omega
    simp only [e1]
set_option maxRecDepth 100000 in
set_option maxHeartbeats 1000000 in
theorem lent_any (r : Rw) (p : Option Addr) (c : Nat) (node : Int) (w : World) (h : LeasesAt w p r.out) (hl : r.out.length ≤ 1000) :
    Calls Tryz.prog 147 #[rowVal r p c, .int .i64 node] w fun e w' => e = .returned (.tuple #[.int .i64 (lentOf node r.out).1, .bool (lentOf node r.out).2]) ∧ Below w.heap.size w w' := by
  have HS : ∀ j, Hid (j < r.out.length → lentOf node (r.out.take (j + 1)) = lentStep node (lentOf node (r.out.take j)) (r.out.getD j (0, 0))) := fun j hj => lentOf_take node r.out j hj
  have HT : Hid (∀ j, j = r.out.length → lentOf node r.out = lentOf node (r.out.take j)) := by rintro j rfl; rw [List.take_length]
  have h00 : lentOf node (r.out.take 0) = (0, false) := by simp [lentOf]
  generalize lentOf node r.out = T at HT ⊢
  generalize hF : (fun j => lentOf node (r.out.take j)) = F
  have hFj : ∀ j, lentOf node (r.out.take j) = F j := fun j => by rw [← hF]
  simp only [hFj] at HT HS h00
  clear hF hFj
  obtain ⟨key, avail, mark, out⟩ := r
  simp only [rowVal] at *
  have M0 := Lib.hid (((Mem.start w).addLeases h).box #[.int .i64 key, .int .i64 avail, .int .i64 mark, .slice p out.length (c + out.length)] 80)
  obtain ⟨r0, r1, r2, r3, -⟩ := box4 (M0.out.boxes 0 _ _ _ rfl)
  clear h
  go_enter Tryz.func147, Tryz.ntmps147
  go_wp2
  go_loopw [6, 7, 13] (fun s b i wr => ∃ j : Nat, j ≤ out.length ∧ i = .int .i64 (j : Int) ∧ s = .int .i64 (F j).1 ∧ b = .bool (F j).2 ∧ Below (w.alloc (.cells #[.int .i64 key, .int .i64 avail, .int .i64 mark, .slice p out.length (c + out.length)] 80)).heap.size (w.alloc (.cells #[.int .i64 key, .int .i64 avail, .int .i64 mark, .slice p out.length (c + out.length)] 80)) wr) (fun _ _ i _ => out.length - (intOf i).toNat)
  case atStart => exact ⟨0, by omega, rfl, by rw [h00], by rw [h00], Below.refl _ _⟩
  case round =>
    obtain ⟨j, hj, rfl, rfl, rfl, hbw⟩ := hrel
    have M1 := Lib.hid (M0.out.on hbw)
    by_cases hlt : j < out.length
    · obtain ⟨b, o, rfl, x0, x1⟩ := leases_some (M1.out.leases 0 _ _ rfl) hlt
      have hlt' : (j : Int) < (out.length : Int) := by omega
      have hs := (HS j).out hlt
      generalize out.getD j (0, 0) = y at *
      obtain ⟨y1, y2⟩ := y
      simp only at x0 x1 hs
      have M2 := Lib.hid (M1.out.box #[.int .i64 y1, .int .i64 y2] 141)
      generalize F j = f at *
      generalize hS2 : F (j + 1) = f2 at *
      have H2 := Lib.hid hS2
      obtain ⟨s, q⟩ := f
      simp only [lentStep] at hs
      have HBW := Lib.hid hbw
      clear HS HT r0 r1 r2 r3 hbw h00 hS2
      by_cases hk : y1 = node
      · rw [if_pos hk] at hs
        have hadd := add2 s y2
        have SE := Lib.hid hs
        clear hs
        go_wp2_with (go_at_call 88; (with_reducible refine (hadd _ _ (by simp)).mono ?_); rintro e u ⟨rfl, rfl⟩)
        go_roundw
        case rel => exact ⟨j + 1, by omega, by go_num, by rw [H2.out, SE.out], by rw [H2.out, SE.out], (HBW.out.alloc HBW.out.size _).alloc (Nat.le_trans HBW.out.size (by simp)) _⟩
        case measure => simp only [intOf]; omega
      · rw [if_neg hk] at hs
        have SE := Lib.hid hs
        clear hs
        go_wp2
        go_roundw
        case rel => exact ⟨j + 1, by omega, by go_num, by rw [H2.out, SE.out], by rw [H2.out, SE.out], HBW.out.alloc HBW.out.size _⟩
        case measure => simp only [intOf]; omega
    · obtain rfl : j = out.length := by omega
      have hT := HT.out _ rfl
      clear HS HT
      generalize F out.length = f at *
      obtain ⟨s, q⟩ := f
      subst hT
      go_wp2
      refine bodyPost_ret (v := .tuple #[.int .i64 s, .bool q]) (by simp [results, Tryz.results147, go_sem]) rfl ⟨rfl, M1.out.below⟩
/-- The leases of the others. -/
theorem others_out {l : List (Int × Int)} (hu : UpL l) (node : Int) (h : 0 ≤ outAt l node) : l.filter (fun y => y.1 != node) = butAt l (outAt l node).toNat := by
  rcases spot_cases (fun x : Int × Int => x.1 == node) (0, 0) l with ⟨h1, -⟩ | ⟨j, h1, h2, h3, -⟩
  · unfold outAt at h; omega
  · have e : (outAt l node).toNat = j := by unfold outAt; omega
    have hk : l[j].1 = node := by simpa [List.getD, h2] using h3
    obtain ⟨a1, a2⟩ := up_apart hu h2 hk
    rw [e, butAt, List.eraseIdx_eq_take_drop_succ]
    conv => lhs; rw [split_at l j h2]
    rw [List.filter_append, List.filter_cons_of_neg (by simp [hk]), List.filter_eq_self.2 (fun y hy => by simpa using a1 y hy), List.filter_eq_self.2 (fun y hy => by simpa using a2 y hy)]
theorem filter_take (f : Int × Int → Bool) (l : List (Int × Int)) (j : Nat) (h : j < l.length) : (l.take (j + 1)).filter f = (l.take j).filter f ++ (if f (l.getD j (0, 0)) = true then [l.getD j (0, 0)] else []) := by
  have e : l.getD j (0, 0) = l[j] := by simp [List.getD, h]
  rw [e, List.take_succ_eq_append_getElem h, List.filter_append]
  by_cases h2 : f l[j] = true
  · rw [if_pos h2]; simp [h2]
  · rw [if_neg h2]; simp [h2]
theorem isnode_any (i : Int) (w : World) : Calls Tryz.prog 202 #[.int .i64 i] w fun e w' => e = .returned (.bool (decide (0 ≤ i ∧ i ≤ 63))) ∧ w' = w := by
  by_cases h : 0 ≤ i
  all_goals
    go_enter Tryz.func202, Tryz.ntmps202
    go_wp2
    go_ret
    exact ⟨congrArg (fun b => Ending.returned (.bool b)) (by rw [Bool.eq_iff_iff]; simp; omega), rfl⟩
/-- Leases that a call owns lie in its own blocks. -/
theorem OwnL.far {B : Nat} {w : World} {v : Value} {l : List (Int × Int)} (h : OwnL B w v l) : ∃ p c, v = .slice p l.length (c + l.length) ∧ LeasesAt w p l ∧ LeasesIn (fun b => B ≤ b) w p l := by
  obtain ⟨p, c, hv, hl⟩ := h.leases
  refine ⟨p, c, hv, hl, ?_⟩
  rcases hl with hl | ⟨b, o, e, hc⟩
  · exact .inl hl
  · refine .inr ⟨b, o, e, ?_, hc⟩
    subst hv e
    rcases h.2 with ⟨h0, -⟩ | ⟨g, cap, cur, h0, h1, -⟩
    · simp at h0
    · simp only [Value.slice.injEq, Option.some.injEq, Addr.mk.injEq] at h0
      rw [h0.1.1]
      exact h1
set_option maxRecDepth 100000 in
set_option maxHeartbeats 1000000 in
theorem others_any (l : List (Int × Int)) (p : Option Addr) (c : Nat) (node : Int) (w : World) (h : LeasesAt w p l) (hl : l.length ≤ 1000) :
    Calls Tryz.prog 155 #[.slice p l.length c, .int .i64 node] w fun e w' => ∃ p' c', e = .returned (.slice p' (l.filter fun y => y.1 != node).length (c' + (l.filter fun y => y.1 != node).length)) ∧ LeasesAt w' p' (l.filter fun y => y.1 != node) ∧ LeasesIn (fun b => w.heap.size ≤ b) w' p' (l.filter fun y => y.1 != node) ∧ Below w.heap.size w w' := by
  have HS : ∀ j, Hid (j < l.length → (l.take (j + 1)).filter (fun y => y.1 != node) = (l.take j).filter (fun y => y.1 != node) ++ (if (l.getD j (0, 0)).1 != node then [l.getD j (0, 0)] else [])) := fun j hj => filter_take (fun y => y.1 != node) l j hj
  have HT : Hid (∀ j, j = l.length → l.filter (fun y => y.1 != node) = (l.take j).filter (fun y => y.1 != node)) := by rintro j rfl; rw [List.take_length]
  have HN : ∀ j, Hid (((l.take j).filter (fun y => y.1 != node)).length ≤ l.length) := fun j => by
    have h1 := List.length_filter_le (fun y : Int × Int => y.1 != node) (l.take j)
    have h2 : (l.take j).length ≤ l.length := by simp; omega
    exact Nat.le_trans h1 h2
  have h00 : (l.take 0).filter (fun y => y.1 != node) = [] := by simp
  generalize l.filter (fun y => y.1 != node) = T at HT ⊢
  generalize hF : (fun j => (l.take j).filter (fun y => y.1 != node)) = F
  have hFj : ∀ j, (l.take j).filter (fun y => y.1 != node) = F j := fun j => by rw [← hF]
  simp only [hFj] at HT HS HN h00
  clear hF hFj
  have M0 := Lib.hid ((Mem.start w).addLeases h)
  clear h
  go_enter Tryz.func155, Tryz.ntmps155
  go_wp2
  go_loopw [5, 10] (fun v i wr => ∃ j : Nat, j ≤ l.length ∧ i = .int .i64 (j : Int) ∧ Hid (OwnL w.heap.size wr v (F j)) ∧ Below w.heap.size w wr) (fun _ i _ => l.length - (intOf i).toNat)
  case atStart => exact ⟨0, by omega, rfl, (by rw [h00]; exact own_none _ _), Below.refl _ _⟩
  case round =>
    obtain ⟨j, hj, rfl, hown, hbw⟩ := hrel
    have M1 := Lib.hid (M0.out.on hbw)
    by_cases hlt : j < l.length
    · obtain ⟨b, o, rfl, x0, x1⟩ := leases_some (M1.out.leases 0 _ _ rfl) hlt
      have hlt' : (j : Int) < (l.length : Int) := by omega
      have hs := (HS j).out hlt
      have hlen := (HN j).out
      generalize l.getD j (0, 0) = y at *
      obtain ⟨y1, y2⟩ := y
      simp only at x0 x1 hs
      have M2 := Lib.hid (M1.out.box #[.int .i64 y1, .int .i64 y2] 141)
      generalize F j = f at *
      generalize hS2 : F (j + 1) = f2 at *
      have H2 := Lib.hid hS2
      obtain ⟨pv, cv, rfl⟩ := hown.out.shape
      generalize hnl : f.length = nl at *
      have HNL := Lib.hid hnl
      have HOW := Lib.hid hown.out
      have HBW := Lib.hid hbw
      clear HS HT HN hbw h00 hS2 hown hnl
      by_cases hk : y1 = node
      · rw [if_neg (by simp [hk]), List.append_nil] at hs
        have SE := Lib.hid hs
        clear hs
        go_wp2
        go_roundw
        case rel => exact ⟨j + 1, by omega, by go_num, by rw [H2.out, SE.out]; exact Lib.hid (HOW.out.on ((Below.refl _ _).alloc (Nat.le_refl _) _)), HBW.out.alloc HBW.out.size _⟩
        case measure => simp only [intOf]; omega
      · rw [if_pos (by simpa using hk)] at hs
        have SE := Lib.hid hs
        clear hs
        go_wp2_with (at_builtin; refine push_lease rfl (.tmp 18) (.tmp 20) rfl w wr (.slice pv nl cv) rfl f nl HNL.out HOW.out HBW.out ((Below.refl _ _).alloc (Nat.le_refl _) _) (wr.heap.size + 1) y1 y2 rfl (by have h := heap_alloc_new (wr.alloc (.cells #[.int .i64 y1, .int .i64 y2] 141)) (.cells #[.int .i64 y1, .int .i64 y2] 141); rwa [size_alloc] at h) (by omega) ?_; intro p4 c4 w4 R4 B4; clear x0 x1)
        go_roundw
        case rel => exact ⟨j + 1, by omega, by go_num, by rw [H2.out, SE.out]; exact R4, B4⟩
        case measure => simp only [intOf]; omega
    · obtain rfl : j = l.length := by omega
      have hT := HT.out _ rfl
      rw [← hT] at hown
      obtain ⟨pv, cv, rfl, h1, h2⟩ := hown.out.far
      have H12 := Lib.hid (And.intro h1 h2)
      have HBW := Lib.hid hbw
      clear HS HT HN hT h1 h2 hown hbw
      go_wp2
      go_ret
      exact ⟨pv, cv, rfl, H12.out.1, H12.out.2, HBW.out⟩
end Go.Proofs.YtbgdlokegibkmaaGreat.Ledger

namespace Go.Proofs.YtbgdlokegibkmaaGreat.Ledger
open Go.RowKit
open _root_.Go.Proofs.YtbgdlokegibkmaaGreat.Frame (Rw Tb noRow LeasesAt cell_on)
open _root_.Go.Proofs.YtbgdlokegibkmaaGreat.Codec (own_below own_lower lt_of_heap frozen_of heap_set)
open _root_.Go.Proofs.YtbgdlokegibkmaaGreat.Sat (fit add sub mul fit_lo fit_hi fit_self fit_any sub_any mul_any add2 add_lo add_hi)
/-- A row's value. -/
def rpVal (x : Rp) : Value := rowVal x.1 x.2.1 x.2.2
/-- A key's row, and where its leases lie. -/
def foundP (start : Int) (m : List Rp) (key : Int) : Rp := if place (m.map (·.1)) key < 0 then (⟨key, 0, start, []⟩, (none, 0)) else m.getD (place (m.map (·.1)) key).toNat noRp
theorem foundP_row (t : Tb) (m : List Rp) (key : Int) (h : m.map (·.1) = t.rows) : (foundP t.start m key).1 = findRow t key := by
  unfold foundP findRow
  rw [h]
  split
  · rfl
  · rw [← h]
    generalize (place (m.map (·.1)) key).toNat = j
    by_cases hj : j < m.length
    · simp [List.getD, hj]
    · simp [List.getD, hj, noRp]
theorem foundP_in (start : Int) (m : List Rp) (key : Int) : foundP start m key = (⟨key, 0, start, []⟩, (none, 0)) ∨ foundP start m key ∈ m := by
  unfold foundP
  split
  · exact .inl rfl
  · rename_i h
    rcases pat_cases (m.map (·.1)) key with ⟨h1, -⟩ | ⟨j, h1, -, h2, -⟩
    · omega
    · right
      rw [h1, Int.toNat_natCast]
      have h2' : j < m.length := by simpa using h2
      simp [List.getD, h2']
/-- A row that lies. -/
theorem lay_row {w : World} {p : Option Addr} {m : List Rp} (h : Lay w p (cellsR m)) {j : Nat} (hj : j < m.length) : ∃ b o, p = some ⟨b, o, none⟩ ∧ w.cell? ⟨b, o + j * 4, none⟩ = some (.int .i64 m[j].1.key) ∧ w.cell? ⟨b, o + j * 4 + 1, none⟩ = some (.int .i64 m[j].1.avail) ∧ w.cell? ⟨b, o + j * 4 + 2, none⟩ = some (.int .i64 m[j].1.mark) ∧ w.cell? ⟨b, o + j * 4 + 3, none⟩ = some (.slice m[j].2.1 m[j].1.out.length (m[j].2.2 + m[j].1.out.length)) := by
  rcases h with h | ⟨b, o, e, hc⟩
  · have : (cellsR m).length = 0 := by rw [h]; rfl
    rw [cellsR_len] at this
    omega
  · exact ⟨b, o, e, rows_range hc j hj⟩
set_option maxRecDepth 100000 in
set_option maxHeartbeats 1000000 in
theorem pfind_any (start : Int) (m : List Rp) (p : Option Addr) (c : Nat) (key : Int) (w : World) (hl : m.length ≤ 1000) (h : RowsAt w p (m.map (·.1))) (hm : Lay w p (cellsR m)) :
    Calls Tryz.prog 153 #[.agg #[.int .i64 start, .slice p m.length (c + m.length)], .int .i64 key] w fun e w' => e = .returned (.tuple #[rpVal (foundP start m key), .bool (decide (0 ≤ place (m.map (·.1)) key))]) ∧ Below w.heap.size w w' := by
  have hat := fun u (hb : Below w.heap.size w u) => pat_any (m.map (·.1)) p (c + m.length) key u (h.below hb) (by simpa using hl)
  have hlen : (m.map (·.1)).length = m.length := by simp
  rw [hlen] at hat
  have M0 := Lib.hid (((Mem.start w).box #[.int .i64 start, .slice p m.length (c + m.length)] 28).box #[.int .i64 0, .int .i64 0, .int .i64 0, .slice none 0 0] 80)
  simp only [size_alloc] at M0
  have HM := Lib.hid (hm.on M0.out.below)
  obtain ⟨t0, t1, -⟩ := box2 (M0.out.boxes 1 _ _ _ rfl)
  obtain ⟨d0, d1, d2, d3, ff⟩ := box4 (M0.out.boxes 0 _ _ _ rfl)
  have f0 := ff 0
  have f1 := ff 1
  have f2 := ff 2
  have f3 := ff 3
  clear ff h hm
  rcases pat_cases (m.map (·.1)) key with ⟨hp, hq, -⟩ | ⟨j, hp, hq, hj, -⟩
  · have hF : foundP start m key = (⟨key, 0, start, []⟩, (none, 0)) := by unfold foundP; rw [hp, if_pos (by omega)]
    rw [hF, hp]
    rw [hq, hlen] at hat
    have hat1 := hat _ M0.out.below
    clear hat hp hq hF
    go_enter Tryz.func153, Tryz.ntmps153
    go_wp2_with (go_at_call 189; (with_reducible refine hat1.mono ?_); rintro e u ⟨rfl, rfl⟩)
    refine bodyPost_ret (v := .tuple #[.agg #[.int .i64 key, .int .i64 0, .int .i64 start, .slice none 0 0], .bool false]) (by simp [results, Tryz.results153, go_sem]) rfl ⟨rfl, ?_⟩
    exact ((Below.refl _ _).alloc (Nat.le_refl _) _).alloc (by simp) _
  · rw [hlen] at hj
    have hF : foundP start m key = m[j] := by unfold foundP; rw [hp, if_neg (by omega), Int.toNat_natCast]; simp [List.getD, hj]
    rw [hF, hp]
    rw [hq] at hat
    obtain ⟨b, o, rfl, x0, x1, x2, x3⟩ := lay_row HM.out hj
    have hj' : (j : Int) < (m.length : Int) := by omega
    have hat1 := hat _ M0.out.below
    generalize m[j] = x at *
    obtain ⟨⟨xk, xa, xm, xo⟩, px, cx⟩ := x
    simp only [rpVal, rowVal] at *
    generalize xo.length = nx at *
    generalize m.length = nm at *
    clear hat hp hq hF HM hlen hl
    go_enter Tryz.func153, Tryz.ntmps153
    go_wp2_with (go_at_call 189; (with_reducible refine hat1.mono ?_); rintro e u ⟨rfl, rfl⟩)
    refine bodyPost_ret (v := .tuple #[.agg #[.int .i64 xk, .int .i64 xa, .int .i64 xm, .slice px nx (cx + nx)], .bool true]) (by simp [results, Tryz.results153, go_sem]) rfl ⟨by simp, ?_⟩
    exact ((Below.refl _ _).alloc (Nat.le_refl _) _).alloc (by simp) _
end Go.Proofs.YtbgdlokegibkmaaGreat.Ledger

namespace Go.Proofs.YtbgdlokegibkmaaGreat.Ledger
open Go.RowKit
open _root_.Go.Proofs.YtbgdlokegibkmaaGreat.Frame (Rw Tb noRow LeasesAt cell_on)
/-- Where the first row of a greater key stands; behind the last one: none. -/
def gt (l : List Rw) (key : Int) : Nat := if spot (fun r : Rw => decide (key < r.key)) l < 0 then l.length else (spot (fun r : Rw => decide (key < r.key)) l).toNat
theorem gt_at {l : List Rw} {key : Int} {j : Nat} (hj : j < l.length) (h : ∀ i, i < j → (l.getD i noRow).key ≤ key) (h1 : key < (l.getD j noRow).key) : gt l key = j := by
  have e : spot (fun r : Rw => decide (key < r.key)) l = (j : Int) := spot_at _ noRow l j hj (fun i hi => by have := h i hi; simpa using this) (by simpa using h1)
  unfold gt
  rw [e, if_neg (by omega), Int.toNat_natCast]
theorem gt_none {l : List Rw} {key : Int} (h : ∀ i, i < l.length → (l.getD i noRow).key ≤ key) : gt l key = l.length := by
  have e : spot (fun r : Rw => decide (key < r.key)) l = -1 := spot_none _ noRow l fun i hi => by have := h i hi; simpa using this
  unfold gt
  rw [e, if_pos (by omega)]
set_option maxRecDepth 100000 in
theorem above_any (l : List Rw) (p : Option Addr) (c : Nat) (key : Int) (w : World) (h : RowsAt w p l) (hl : l.length ≤ 1000) :
    Calls Tryz.prog 193 #[.slice p l.length c, .int .i64 key] w fun e w' => e = .returned (.int .i64 (gt l key : Nat)) ∧ Below w.heap.size w w' := by
  have HH := Lib.hid h
  have tri : Hid (∀ j : Nat, (j ≤ l.length ∧ ∀ i, i < j → (l.getD i noRow).key ≤ key) → (j = l.length → Hid (gt l key = j)) ∧ (j < l.length → key < (l.getD j noRow).key → Hid (gt l key = j))) := fun j ⟨hj, hn⟩ =>
    ⟨fun e => by subst e; exact gt_none hn, fun h1 h2 => gt_at h1 hn h2⟩
  generalize gt l key = R at *
  clear h
  go_enter Tryz.func193, Tryz.ntmps193
  go_wp2
  go_loopw [9] (fun i wr => ∃ j : Nat, j ≤ l.length ∧ i = .int .i64 (j : Int) ∧ Hid (∀ i, i < j → (l.getD i noRow).key ≤ key) ∧ Below w.heap.size w wr) (fun i _ => l.length - (intOf i).toNat)
  case atStart => exact ⟨0, by omega, rfl, (fun i hi => by omega), Below.refl _ _⟩
  case round =>
    obtain ⟨j, hj, rfl, hne, hbw⟩ := hrel
    obtain ⟨t1, t2⟩ := tri.out j ⟨hj, hne.out⟩
    by_cases hlt : j < l.length
    · obtain ⟨b, o, rfl, x0', x1', x2', px, cx, x3', -⟩ := rows_some HH.out hlt
      have x0 := cell_on x0' hbw
      have x1 := cell_on x1' hbw
      have x2 := cell_on x2' hbw
      have x3 := cell_on x3' hbw
      have hlt' : (j : Int) < (l.length : Int) := by omega
      have HBW := Lib.hid hbw
      by_cases hk : key < (l.getD j noRow).key
      · have hR := t2 hlt hk
        clear tri t1 t2 hne x0' x1' x2' x3' hbw HH
        generalize l.getD j noRow = x at *
        go_wp2
        go_ret
        exact ⟨by rw [hR.out]; rfl, HBW.out.alloc HBW.out.size _⟩
      · have HN : Hid (∀ i, i < j + 1 → (l.getD i noRow).key ≤ key) := fun i hi => by
          by_cases e : i < j
          · exact hne.out i e
          · rw [show i = j by omega]; omega
        clear tri t1 t2 hne x0' x1' x2' x3' hbw HH
        generalize l.getD j noRow = x at *
        have HBA := Lib.hid (HBW.out.alloc HBW.out.size (.cells #[.int .i64 x.key, .int .i64 x.avail, .int .i64 x.mark, .slice px x.out.length (cx + x.out.length)] 80))
        go_wp2
        go_roundw
        case rel => exact ⟨j + 1, by omega, by go_num, HN, HBA.out⟩
        case measure => simp only [intOf]; omega
    · obtain rfl : j = l.length := by omega
      have hR := t1 rfl
      have HBW := Lib.hid hbw
      clear tri t1 t2 hne HH hbw
      go_wp2
      go_ret
      exact ⟨by rw [hR.out]; rfl, HBW.out⟩
end Go.Proofs.YtbgdlokegibkmaaGreat.Ledger

namespace Go.Proofs.YtbgdlokegibkmaaGreat.Ledger
open Go.RowKit
open _root_.Go.Proofs.YtbgdlokegibkmaaGreat.Frame (Rw Tb noRow LeasesAt cell_on)
open _root_.Go.Proofs.YtbgdlokegibkmaaGreat.Codec (own_below own_lower lt_of_heap frozen_of heap_set)
open _root_.Go.Proofs.YtbgdlokegibkmaaGreat.Sat (fit add sub mul fit_lo fit_hi fit_self fit_any sub_any mul_any add2 add_lo add_hi)
theorem mul_two (x : Int) : mul 2 x = add [x, x] := by
  have h0 := fit_lo x
  have h1 := fit_hi x
  unfold mul add
  rw [Sat.sum_two, fit_self (x := 2) (by omega) (by omega)]
  have e : 2 * fit x = fit x + fit x := by omega
  rw [e]
/-- conf.Rate, by the plain rateAt. -/
theorem prate_any (f : Cf) (p : Option Addr) (c : Nat) (key : Int) (w : World) (hz : RatesAt w p f.rates) :
    Calls Tryz.prog 83 #[cfVal f p c, .int .i64 key] w fun e w' => e = .returned (.tuple #[.agg #[.int .i64 (if 0 ≤ rateAt f.rates key then (rateOf f key).1 else 0), .int .i64 (if 0 ≤ rateAt f.rates key then (rateOf f key).2 else 0)], .bool (decide (0 ≤ rateAt f.rates key))]) ∧ Below w.heap.size w w' := by
  by_cases hr : 0 ≤ rateAt f.rates key
  · rw [if_pos hr, if_pos hr, decide_eq_true hr]
    obtain ⟨k, hk, hkl⟩ := rateAt_lt f.rates key hr
    obtain ⟨b, o, e, x0, x1⟩ := leases_some hz hkl
    have hb : 0 ≤ key ∧ key < 524288 ∧ key / 65536 = (k : Int) := by
      unfold rateAt at hk
      split at hk
      · rename_i h; exact ⟨h.1, h.2.1, hk⟩
      · omega
    have e1 : rateOf f key = f.rates.getD k (0, 0) := by unfold rateOf; rw [hk, Int.toNat_natCast]
    rw [e1]
    subst e
    exact Conf.rate_some f.n f.skew f.ttl f.valid f.loss f.hear f.keys f.queue b o f.rates.length c k key _ _ w (by rw [Conf.within_iff]; omega) hb.1 (by omega) hb.2.2 (by omega) x0 x1
  · rw [if_neg hr, if_neg hr, decide_eq_false hr]
    refine Conf.rate_none f.n f.skew f.ttl f.valid f.loss f.hear f.keys f.queue p f.rates.length c key w ?_
    unfold rateAt at hr
    split at hr
    · rename_i h
      exact absurd (by omega) hr
    · rename_i h
      by_cases hk : 0 ≤ key ∧ key < 524288
      · refine .inr ⟨by rw [Conf.within_iff]; omega, hk.1, by omega, ?_⟩
        omega
      · refine .inl ?_
        cases hw : Conf.within key 0 524287 with
        | false => rfl
        | true => rw [Conf.within_iff] at hw; omega
set_option maxRecDepth 100000 in
set_option maxHeartbeats 2000000 in
theorem pidle_core (xk xa xm : Int) (px : Option Addr) (nx cx : Nat) (start now : Int) (n sk tl va lo he ke qu : Int) (pf : Option Addr) (nz cf : Nat) (w : World) (R B : Int) (q D : Bool) (g s2 m2 sf : Int)
    (hrate : ∀ u, Below w.heap.size w u → Calls Tryz.prog 83 #[.agg #[.int .i64 n, .int .i64 sk, .int .i64 tl, .int .i64 va, .int .i64 lo, .int .i64 he, .int .i64 ke, .int .i64 qu, .slice pf nz cf], .int .i64 xk] u fun e u' => e = .returned (.tuple #[.agg #[.int .i64 R, .int .i64 B], .bool q]) ∧ Below u.heap.size u u')
    (hg : s2 = sub xm start) (hm : g = mul R s2) (h2 : m2 = mul 2 sk) (hs : sf = sub now m2) (hD : D = (q && decide (nx = 0) && decide (xa = B) && decide (B ≤ g) && decide (xm ≤ sf))) :
    Calls Tryz.prog 225 #[.agg #[.int .i64 xk, .int .i64 xa, .int .i64 xm, .slice px nx cx], .int .i64 start, .int .i64 now, .agg #[.int .i64 n, .int .i64 sk, .int .i64 tl, .int .i64 va, .int .i64 lo, .int .i64 he, .int .i64 ke, .int .i64 qu, .slice pf nz cf]] w fun e w' => e = .returned (.bool D) ∧ Below w.heap.size w w' := by
  have M0 := Lib.hid (((Mem.start w).box #[.int .i64 xk, .int .i64 xa, .int .i64 xm, .slice px nx cx] 80).box #[.int .i64 n, .int .i64 sk, .int .i64 tl, .int .i64 va, .int .i64 lo, .int .i64 he, .int .i64 ke, .int .i64 qu, .slice pf nz cf] 24)
  simp only [size_alloc] at M0
  have hsub := sub_any xm start
  have hmul := mul_any R s2
  have hmul2 := mul_any 2 sk
  have hsub2 := sub_any now m2
  rw [← hg] at hsub
  rw [← hm] at hmul
  rw [← h2] at hmul2
  rw [← hs] at hsub2
  clear hg hm h2 hs
  have hr1 := hrate _ M0.out.below
  clear hrate
  obtain ⟨r0, r1, r2, r3, -⟩ := box4 (M0.out.boxes 1 _ _ _ rfl)
  obtain ⟨c0, c1, c2, c3, c4, c5, c6, c7, c8⟩ := nine_cells (M0.out.boxes 0 _ _ _ rfl)
  have hcase : (q = false ∧ D = false) ∨ (q = true ∧ (0 : Int) < (nx : Int) ∧ D = false) ∨ (q = true ∧ nx = 0 ∧ (xa != B) = true ∧ D = false) ∨ (q = true ∧ nx = 0 ∧ xa = B ∧ D = (decide (B ≤ g) && decide (xm ≤ sf))) := by
    cases q
    · exact .inl ⟨rfl, by rw [hD]; simp⟩
    · by_cases h1 : nx = 0
      · by_cases h2 : xa = B
        · exact .inr (.inr (.inr ⟨rfl, h1, h2, by rw [hD, decide_eq_true h1, decide_eq_true h2]; rfl⟩))
        · exact .inr (.inr (.inl ⟨rfl, h1, by simpa using h2, by rw [hD, decide_eq_false h2]; simp⟩))
      · exact .inr (.inl ⟨rfl, by omega, by rw [hD, decide_eq_false h1]; simp⟩)
  clear hD
  rcases hcase with ⟨rfl, rfl⟩ | ⟨rfl, h1, rfl⟩ | ⟨rfl, rfl, h1, rfl⟩ | ⟨rfl, rfl, hB, hD⟩
  · go_enter Tryz.func225, Tryz.ntmps225
    go_wp2_with (go_at_call 83; (with_reducible refine hr1.mono ?_); rintro e u1 ⟨rfl, hb⟩; have M1 := Lib.hid ((M0.out.on hb).box #[.int .i64 R, .int .i64 B] 77); clear hb r0 r1 r2 r3 c0 c1 c2 c3 c4 c5 c6 c7 c8 hr1; obtain ⟨z0, z1, -⟩ := box2 (M1.out.boxes 0 _ _ _ rfl); obtain ⟨c0, c1, c2, c3, c4, c5, c6, c7, c8⟩ := nine_cells (M1.out.boxes 1 _ _ _ rfl); obtain ⟨r0, r1, r2, r3, -⟩ := box4 (M1.out.boxes 2 _ _ _ rfl))
    go_ret
    exact ⟨rfl, M1.out.below⟩
  · go_enter Tryz.func225, Tryz.ntmps225
    go_wp2_with (go_at_call 83; (with_reducible refine hr1.mono ?_); rintro e u1 ⟨rfl, hb⟩; have M1 := Lib.hid ((M0.out.on hb).box #[.int .i64 R, .int .i64 B] 77); clear hb r0 r1 r2 r3 c0 c1 c2 c3 c4 c5 c6 c7 c8 hr1; obtain ⟨z0, z1, -⟩ := box2 (M1.out.boxes 0 _ _ _ rfl); obtain ⟨c0, c1, c2, c3, c4, c5, c6, c7, c8⟩ := nine_cells (M1.out.boxes 1 _ _ _ rfl); obtain ⟨r0, r1, r2, r3, -⟩ := box4 (M1.out.boxes 2 _ _ _ rfl))
    go_ret
    exact ⟨rfl, M1.out.below⟩
  · go_enter Tryz.func225, Tryz.ntmps225
    go_wp2_with (go_at_call 83; (with_reducible refine hr1.mono ?_); rintro e u1 ⟨rfl, hb⟩; have M1 := Lib.hid ((M0.out.on hb).box #[.int .i64 R, .int .i64 B] 77); clear hb r0 r1 r2 r3 c0 c1 c2 c3 c4 c5 c6 c7 c8 hr1; obtain ⟨z0, z1, -⟩ := box2 (M1.out.boxes 0 _ _ _ rfl); obtain ⟨c0, c1, c2, c3, c4, c5, c6, c7, c8⟩ := nine_cells (M1.out.boxes 1 _ _ _ rfl); obtain ⟨r0, r1, r2, r3, -⟩ := box4 (M1.out.boxes 2 _ _ _ rfl))
    go_ret
    exact ⟨rfl, M1.out.below⟩
  · have hB' := hB.symm
    clear hB
    subst hB'
    go_enter Tryz.func225, Tryz.ntmps225
    go_wp2_with (go_at_call 83; (with_reducible refine hr1.mono ?_); rintro e u1 ⟨rfl, hb⟩; have M1 := Lib.hid ((M0.out.on hb).box #[.int .i64 R, .int .i64 B] 77); clear hb r0 r1 r2 r3 c0 c1 c2 c3 c4 c5 c6 c7 c8 hr1; obtain ⟨z0, z1, -⟩ := box2 (M1.out.boxes 0 _ _ _ rfl); obtain ⟨c0, c1, c2, c3, c4, c5, c6, c7, c8⟩ := nine_cells (M1.out.boxes 1 _ _ _ rfl); obtain ⟨r0, r1, r2, r3, -⟩ := box4 (M1.out.boxes 2 _ _ _ rfl))
    have MD := Lib.hid M1.out.drew
    go_region_held3 (fun u => u.cell? ⟨u1.heap.size, 0, none⟩ = some (.int .i64 R) ∧ u.cell? ⟨w.heap.size, 2, none⟩ = some (.int .i64 xm) ∧ u.cell? ⟨u1.heap.size, 1, none⟩ = some (.int .i64 B)) (first | assumption | exact ⟨z0, r2, z1⟩) (first
      | (go_at_call 154; (with_reducible refine (hsub _).mono ?_); rintro e u2 ⟨rfl, rfl⟩)
      | (go_at_call 223; (with_reducible refine (hmul _).mono ?_); rintro e u2 ⟨rfl, rfl⟩))
    all_goals
      clear r0 r1 r2 r3 z0 z1 c0 c1 c2 c3 c4 c5 c6 c7 c8 hsub hmul
      obtain ⟨r0, r1, r2, r3, -⟩ := box4 (MD.out.boxes 2 _ _ _ rfl)
      obtain ⟨c0, c1, c2, c3, c4, c5, c6, c7, c8⟩ := nine_cells (MD.out.boxes 1 _ _ _ rfl)
      by_cases k1 : B ≤ g
      · rw [decide_eq_true k1, Bool.true_and] at hD
        have k1' : decide (B ≤ g) = true := by simpa using k1
        go_wp2
        have ME := Lib.hid MD.out.drew
        go_region_held3 (fun u => u.cell? ⟨w.heap.size + 1, 1, none⟩ = some (.int .i64 sk) ∧ u.cell? ⟨w.heap.size, 2, none⟩ = some (.int .i64 xm)) (first | assumption | exact ⟨c1, r2⟩) (first
          | (go_at_call 223; (with_reducible refine (hmul2 _).mono ?_); rintro e u3 ⟨rfl, rfl⟩)
          | (go_at_call 154; (with_reducible refine (hsub2 _).mono ?_); rintro e u3 ⟨rfl, rfl⟩))
        all_goals
          clear k1'
          subst hD
          go_wp2
          go_ret
          exact ⟨rfl, ME.out.below⟩
      · rw [decide_eq_false k1, Bool.false_and] at hD
        subst hD
        have k1' : decide (B ≤ g) = false := by simpa using k1
        go_wp2
        go_quiet (fail)
        go_wp2
        go_ret
        exact ⟨rfl, MD.out.below.trans ((below_drewN _ _).mono MD.out.below.size)⟩
theorem pidle_any (r : Rw) (pr : Option Addr) (cr : Nat) (start now : Int) (f : Cf) (pf : Option Addr) (cf : Nat) (w : World) (hz : RatesAt w pf f.rates) :
    Calls Tryz.prog 225 #[rowVal r pr cr, .int .i64 start, .int .i64 now, cfVal f pf cf] w fun e w' => e = .returned (.bool (idle start r now f)) ∧ Below w.heap.size w w' := by
  refine pidle_core r.key r.avail r.mark pr r.out.length (cr + r.out.length) start now f.n f.skew f.ttl f.valid f.loss f.hear f.keys f.queue pf f.rates.length cf w _ _ _ _ _ _ _ _ (fun u hu => prate_any f pf cf r.key u (hz.below hu)) rfl rfl rfl rfl ?_
  unfold idle
  by_cases h : 0 ≤ rateAt f.rates r.key
  · rw [if_pos h, if_pos h, decide_eq_true h, mul_two]
    show _ = (true && decide (r.out.length = 0) && decide (r.avail = (rateOf f r.key).2) && decide ((rateOf f r.key).2 ≤ mul (rateOf f r.key).1 (sub r.mark start)) && decide (r.mark ≤ sub now (add [f.skew, f.skew])))
    unfold rateOf
    rw [Bool.true_and, Bool.true_and]
    cases decide (r.mark ≤ sub now (add [f.skew, f.skew])) <;> simp
  · rw [decide_eq_false h]
    simp
end Go.Proofs.YtbgdlokegibkmaaGreat.Ledger

namespace Go.Proofs.YtbgdlokegibkmaaGreat.Ledger
open Go.RowKit
open _root_.Go.Proofs.YtbgdlokegibkmaaGreat.Frame (Rw Tb noRow LeasesAt cell_on)
open _root_.Go.Proofs.YtbgdlokegibkmaaGreat.Codec (own_below own_lower lt_of_heap frozen_of heap_set)
open _root_.Go.Proofs.YtbgdlokegibkmaaGreat.Sat (fit add sub mul fit_lo fit_hi fit_self fit_any sub_any mul_any add2 add_lo add_hi)
/-- A row, minted, and where its leases lie. -/
def lookP (start : Int) (m : List Rp) (key now R B : Int) : Rp := (minted (foundP start m key).1 now R B, (foundP start m key).2)
set_option maxRecDepth 100000 in
set_option maxHeartbeats 2000000 in
theorem plook_core (start : Int) (p : Option Addr) (nm c : Nat) (key now R B : Int) (fk fa fm : Int) (px : Option Addr) (nx cx : Nat) (w : World) (q : Bool) (T s1 more room av mk : Int) (_ : -9223372036854775808 ≤ T ∧ T ≤ 9223372036854775807)
    (hfind : ∀ u, Below w.heap.size w u → Calls Tryz.prog 153 #[.agg #[.int .i64 start, .slice p nm (c + nm)], .int .i64 key] u fun e u' => e = .returned (.tuple #[.agg #[.int .i64 fk, .int .i64 fa, .int .i64 fm, .slice px nx (cx + nx)], .bool q]) ∧ Below u.heap.size u u')
    (htot : ∀ u, Below w.heap.size w u → Calls Tryz.prog 224 #[.agg #[.int .i64 fk, .int .i64 fa, .int .i64 fm, .slice px nx (cx + nx)]] u fun e u' => e = .returned (.int .i64 T) ∧ Below u.heap.size u u')
    (h1 : s1 = sub now fm) (h2 : more = mul R s1) (h3 : room = sub B T) (h4 : av = add [fa, min more room]) (h5 : mk = max fm now) :
    Calls Tryz.prog 188 #[.agg #[.int .i64 start, .slice p nm (c + nm)], .int .i64 key, .int .i64 now, .agg #[.int .i64 R, .int .i64 B]] w fun e w' => e = .returned (.agg #[.int .i64 fk, .int .i64 av, .int .i64 mk, .slice px nx (cx + nx)]) ∧ Below w.heap.size w w' := by
  have M0 := Lib.hid ((((Mem.start w).box #[.int .i64 start, .slice p nm (c + nm)] 28).box #[.int .i64 R, .int .i64 B] 77).box #[.int .i64 0, .int .i64 0, .int .i64 0, .slice none 0 0] 80)
  simp only [size_alloc] at M0
  have hsub := sub_any now fm
  have hmul := mul_any R s1
  have hsub2 := sub_any B T
  rw [← h1] at hsub
  rw [← h2] at hmul
  rw [← h3] at hsub2
  have hcase : (¬ room < more ∧ fm < now ∧ av = add [fa, more] ∧ mk = now) ∨ (¬ room < more ∧ ¬ fm < now ∧ av = add [fa, more] ∧ mk = fm) ∨ (room < more ∧ fm < now ∧ av = add [fa, room] ∧ mk = now) ∨ (room < more ∧ ¬ fm < now ∧ av = add [fa, room] ∧ mk = fm) := by
    by_cases k1 : room < more
    · have e1 : min more room = room := by omega
      rw [e1] at h4
      by_cases k2 : fm < now
      · exact .inr (.inr (.inl ⟨k1, k2, h4, by omega⟩))
      · exact .inr (.inr (.inr ⟨k1, k2, h4, by omega⟩))
    · have e1 : min more room = more := by omega
      rw [e1] at h4
      by_cases k2 : fm < now
      · exact .inl ⟨k1, k2, h4, by omega⟩
      · exact .inr (.inl ⟨k1, k2, h4, by omega⟩)
  clear h1 h2 h3 h4 h5
  obtain ⟨t0, t1, -⟩ := box2 (M0.out.boxes 2 _ _ _ rfl)
  have hf1 := hfind _ M0.out.below
  clear hfind
  go_enter Tryz.func188, Tryz.ntmps188
  go_wp2_with (first
    | (go_at_call 153; (with_reducible refine hf1.mono ?_); rintro e u1 ⟨rfl, hb⟩; have hlt := lt_of_heap ((M0.out.on hb).boxes 0 _ _ _ rfl); have M1 := Lib.hid ((M0.out.on hb).box #[.int .i64 fk, .int .i64 fa, .int .i64 fm, .slice px nx (cx + nx)] 80); clear hb t0 t1; obtain ⟨r0, r1, r2, r3, -⟩ := box4 (M1.out.boxes 0 _ _ _ rfl); obtain ⟨z0, z1, -⟩ := box2 (M1.out.boxes 2 _ _ _ rfl)))
  have MD := Lib.hid M1.out.drew
  go_region_held3 (fun u => u.cell? ⟨w.heap.size + 1, 0, none⟩ = some (.int .i64 R) ∧ u.cell? ⟨u1.heap.size, 2, none⟩ = some (.int .i64 fm)) (first | assumption | exact ⟨z0, r2⟩) (first
    | (go_at_call 154; (with_reducible refine (hsub _).mono ?_); rintro e u2 ⟨rfl, rfl⟩)
    | (go_at_call 223; (with_reducible refine (hmul _).mono ?_); rintro e u2 ⟨rfl, rfl⟩))
  all_goals
    clear r0 r1 r2 r3 z0 z1
    obtain ⟨r0, r1, r2, r3, -⟩ := box4 (MD.out.boxes 0 _ _ _ rfl)
    obtain ⟨z0, z1, -⟩ := box2 (MD.out.boxes 2 _ _ _ rfl)
    have ME := Lib.hid MD.out.drew
    have HTT := Lib.hid htot
    clear htot
    go_wp2
    go_region_held3 (fun u => u.cell? ⟨w.heap.size + 1, 1, none⟩ = some (.int .i64 B) ∧ u.cell? ⟨u1.heap.size, 0, none⟩ = some (.int .i64 fk) ∧ u.cell? ⟨u1.heap.size, 1, none⟩ = some (.int .i64 fa) ∧ u.cell? ⟨u1.heap.size, 2, none⟩ = some (.int .i64 fm) ∧ u.cell? ⟨u1.heap.size, 3, none⟩ = some (.slice px nx (cx + nx))) (first | assumption | exact SN.out | exact ⟨z1, r0, r1, r2, r3⟩) (first
      | (go_at_call 224; (with_reducible refine (HTT.out _ ME.out.below).mono ?_); rintro e u3 ⟨rfl, hb⟩; have M2 := Lib.hid (ME.out.on hb); have SN := Lib.hid (And.intro (box2 (M2.out.boxes 2 _ _ _ rfl)).2.1 (And.intro (box4 (M2.out.boxes 0 _ _ _ rfl)).1 (And.intro (box4 (M2.out.boxes 0 _ _ _ rfl)).2.1 (And.intro (box4 (M2.out.boxes 0 _ _ _ rfl)).2.2.1 (box4 (M2.out.boxes 0 _ _ _ rfl)).2.2.2.1)))); clear hb)
      | (go_at_call 154; (with_reducible refine (hsub2 _).mono ?_); rintro e u4 ⟨rfl, rfl⟩))
    all_goals
      clear r0 r1 r2 r3 z0 z1
      obtain ⟨r0, r1, r2, r3, -⟩ := box4 (M2.out.boxes 0 _ _ _ rfl)
      clear HTT
      have hn1 : ¬ (u1.heap.size = w.heap.size + 1 + 1) := by omega
      have hn2 : ¬ (w.heap.size + 1 + 1 = u1.heap.size) := by omega
      have hge : w.heap.size ≤ u1.heap.size := by have := size_alloc w (.cells #[] 0); omega
      clear hlt
      rcases hcase with ⟨k1, k2, hav, rfl⟩ | ⟨k1, k2, hav, rfl⟩ | ⟨k1, k2, hav, rfl⟩ | ⟨k1, k2, hav, rfl⟩
      case' inl => have hadd := add2 fa more
      case' inr.inl => have hadd := add2 fa more
      case' inr.inr.inl => have hadd := add2 fa room
      case' inr.inr.inr => have hadd := add2 fa room
      all_goals
        rw [← hav] at hadd
        clear hav
        go_wp2_with (go_at_call 88; (with_reducible refine (hadd _ _ (by first | rfl | simp)).mono ?_); rintro e u5 ⟨rfl, hu⟩; have M3 := Lib.hid (M2.out.on (u' := u5) (by rw [← hu]; exact (Below.refl _ _).alloc (Nat.le_refl _) _)); clear hu r0 r1 r2 r3; obtain ⟨r0, r1, r2, r3, ff⟩ := box4 (M3.out.boxes 0 _ _ _ rfl); obtain ⟨d0, d1, d2, d3, gg⟩ := box4 (M3.out.boxes 1 _ _ _ rfl); have f1 := ff 1; have f2 := ff 2; have g0 := gg 0; have g1 := gg 1; have g2 := gg 2; have g3 := gg 3; clear ff gg)
        refine bodyPost_ret ?gh rfl ⟨rfl, ?gb⟩
        case gh => simp [results, Tryz.results188, go_sem, d0, d1, d2, d3]
        case gb => repeat' (first
          | with_reducible refine Below.setCell ?_ (by first | omega | (simp; done) | (simp; omega)) _
          | exact M3.out.below)
/-- Look. -/
theorem plook_any (start : Int) (m : List Rp) (p : Option Addr) (c : Nat) (key now R B : Int) (w : World) (hl : m.length ≤ 1000) (h : RowsAt w p (m.map (·.1))) (hm : Lay w p (cellsR m)) (hml : ∀ x ∈ m, LeasesAt w x.2.1 x.1.out ∧ x.1.out.length ≤ 1000) :
    Calls Tryz.prog 188 #[.agg #[.int .i64 start, .slice p m.length (c + m.length)], .int .i64 key, .int .i64 now, .agg #[.int .i64 R, .int .i64 B]] w fun e w' => e = .returned (rpVal (lookP start m key now R B)) ∧ Below w.heap.size w w' := by
  have hf : LeasesAt w (foundP start m key).2.1 (foundP start m key).1.out ∧ (foundP start m key).1.out.length ≤ 1000 := by
    rcases foundP_in start m key with e | e
    · rw [e]; exact ⟨.inl rfl, by simp⟩
    · exact hml _ e
  have hfind := fun u (hb : Below w.heap.size w u) => pfind_any start m p c key u hl (h.below hb) (hm.on hb)
  have htot := fun u (hb : Below w.heap.size w u) => ptotal_any (foundP start m key).1 (foundP start m key).2.1 (foundP start m key).2.2 u (hf.1.below hb) hf.2
  exact plook_core start p m.length c key now R B (foundP start m key).1.key (foundP start m key).1.avail (foundP start m key).1.mark (foundP start m key).2.1 (foundP start m key).1.out.length (foundP start m key).2.2 w (decide (0 ≤ place (m.map (·.1)) key)) (total (foundP start m key).1) _ _ _ _ _
    (by have h1 := add_lo ((foundP start m key).1.avail :: (foundP start m key).1.out.map (·.2)); have h2 := add_hi ((foundP start m key).1.avail :: (foundP start m key).1.out.map (·.2)); unfold total; omega) hfind htot rfl rfl rfl rfl rfl
end Go.Proofs.YtbgdlokegibkmaaGreat.Ledger
