/-
  Ranges of cells, any program: where they lie, copies, cuts, new ones that are filled. No conditions beyond those that each names.
-/
import Derived.Test.YtagedggmfihhjaaFrameWords
import Derived.Deep.MidRow
import Derived.OwnWalk
import Derived.Deep.RegionLaw
namespace Go.Proofs.Ytagedggmfihhjaa.Range
open Go.RowKit
open _root_.Go.Proofs.Ytagedggmfihhjaa.Frame (cell_on)

/-- Cells from an address on. -/
def Lay (w : World) (p : Option Addr) (cs : List Value) : Prop := cs = [] ∨ ∃ b o, p = some ⟨b, o, none⟩ ∧ w.rangeAt b o cs
theorem range_on {w w' : World} {b o : Nat} {cs : List Value} (h : w.rangeAt b o cs) (hb : Below w.heap.size w w') : w'.rangeAt b o cs := fun j v hv => cell_on (h j v hv) hb
theorem Lay.on {w w' : World} {p : Option Addr} {cs : List Value} (h : Lay w p cs) (hb : Below w.heap.size w w') : Lay w' p cs := by
  rcases h with h | ⟨b, o, e, hc⟩
  · exact .inl h
  · exact .inr ⟨b, o, e, range_on hc hb⟩
/-- Parts of a range. -/
theorem range_append {w : World} {b o : Nat} {A B : List Value} : w.rangeAt b o (A ++ B) ↔ w.rangeAt b o A ∧ w.rangeAt b (o + A.length) B := by
  refine ⟨fun h => ⟨fun j v hv => h j v ?_, fun j v hv => ?_⟩, fun ⟨h1, h2⟩ j v hv => ?_⟩
  · rw [List.getElem?_append_left (List.getElem?_eq_some_iff.1 hv).1]; exact hv
  · have := h (A.length + j) v (by rw [List.getElem?_append_right (by omega)]; simpa using hv)
    rwa [← Nat.add_assoc] at this
  · by_cases hj : j < A.length
    · rw [List.getElem?_append_left hj] at hv
      exact h1 j v hv
    · rw [List.getElem?_append_right (by omega)] at hv
      have := h2 (j - A.length) v hv
      rwa [show o + A.length + (j - A.length) = o + j by omega] at this
theorem Lay.left {w : World} {p : Option Addr} {A B : List Value} (h : Lay w p (A ++ B)) : Lay w p A := by
  rcases h with h | ⟨b, o, e, hc⟩
  · exact .inl (List.append_eq_nil_iff.1 h).1
  · exact .inr ⟨b, o, e, (range_append.1 hc).1⟩
theorem Lay.right {w : World} {p q : Option Addr} {A B : List Value} (h : Lay w p (A ++ B)) (hq : B = [] ∨ q = p.map (·.add A.length)) : Lay w q B := by
  rcases hq with hq | rfl
  · exact .inl hq
  · rcases h with h | ⟨b, o, rfl, hc⟩
    · exact .inl (List.append_eq_nil_iff.1 h).2
    · exact .inr ⟨b, o + A.length, by simp [Addr.add_mid], (range_append.1 hc).2⟩
/-- copy, of elements of several cells. -/
theorem run_copy_range (P : Program) (w : World) (dT sT ty elem : TypeId) (b o dLen dCap sLen sCap sz : Nat) (dp sp : Option Addr) (cs : List Value)
    (hu : P.underlying dT = some (.slice elem)) (hs : (P.info? elem).map (·.size) = some sz) (hn : cs.length = Nat.min sLen dLen * sz) (hsrc : Lay w sp cs) (hd : cs = [] ∨ dp = some ⟨b, o, none⟩)
    (ht : w.there b o cs.length) (h1 : ∀ v ∈ cs, v.oneCell' = true) :
    (Builtin.copy_ #[dT, sT] ty #[.slice dp dLen dCap, .slice sp sLen sCap]).run P w = .ok (goInt (Nat.min sLen dLen)) (w.setCells b o cs) := by
  cases hq : P.info? elem with
  | none => simp [hq] at hs
  | some i =>
    have hi : i.size = sz := by simpa [hq] using hs
    by_cases h0 : cs = []
    · subst h0
      have hn0 : Nat.min sLen dLen * sz = 0 := by rw [← hn]; rfl
      have hl : ∀ (x : Addr), (loadCells x 0).run P w = .ok #[] w := fun x => by simpa using run_loadCells_list (P := P) w x [] (by simp)
      cases dp <;> cases sp <;> simp [Builtin.copy_, run_underlying hu, Builtin.lenOf, Builtin.firstCells, sizeOf, typeInfo, hq, hi, hn0, storeCells, hl, World.setCells]
    · rcases hd with hd | rfl
      · exact absurd hd h0
      · rcases hsrc with hd | ⟨sb, so, rfl, hc⟩
        · exact absurd hd h0
        · have hl := run_loadCells_list (P := P) w ⟨sb, so, none⟩ cs (fun j v hv => by rw [Addr.add_mid]; exact hc j v hv)
          have hst := run_storeCells_cells (P := P) b o cs 0 w (fun j hj => by simpa using (ht j hj).1) (fun j hj => by simpa using (ht j hj).2) h1
          rw [hn] at hl
          simp [Builtin.copy_, run_underlying hu, Builtin.lenOf, Builtin.firstCells, sizeOf, typeInfo, hq, hi, hl, hst]
theorem wpList_copy_range {P : Program} {w : World} {ops : Array Oper} {rest : List Oper} {o : Oper} {a : Act} {Q : Exit → Act → World → Prop} (hgd : o.guard = none) (d s : Operand) (dT sT : TypeId)
    (ho : o.op = .call { callee := .builtin .copy, args := #[d, s], argTypes := #[dT, sT] }) (elem : TypeId) (sz : Nat) (hu : P.underlying dT = some (.slice elem)) (hs : (P.info? elem).map (·.size) = some sz)
    (dp sp : Option Addr) (dLen dCap sLen sCap : Nat) (hd : a.eval d = .slice dp dLen dCap) (hsv : a.eval s = .slice sp sLen sCap)
    (b off : Nat) (cs : List Value) (hn : cs.length = Nat.min sLen dLen * sz) (hsrc : Lay w sp cs) (hdp : cs = [] ∨ dp = some ⟨b, off, none⟩)
    (ht : w.there b off cs.length) (h1 : ∀ v ∈ cs, v.oneCell' = true) (h : ∀ w', Hid (w' = w.setCells b off cs) → wpList P ops Q rest (a.put o.dst (goInt (Nat.min sLen dLen))) w') :
    wpList P ops Q (o :: rest) a w := by
  refine wpList_plain hgd fun K hK => ?_
  have hrun := run_copy_range P w dT sT o.type elem b off dLen dCap sLen sCap sz dp sp cs hu hs hn hsrc hdp ht h1
  unfold Oper.wp
  simp [execOp, ho, resolve, invoke, builtin, hd, hsv, hrun, Result.andThen]
  exact hK _ _ (h _ rfl)
theorem step_copy_range {P : Program} {ops : Array Oper} {o : Oper} {a : Act} {w : World} {K : Act → World → Prop} {Q : Exit → Act → World → Prop} {E : Prop} (hgd : o.guard = none) (d s : Operand) (dT sT : TypeId)
    (ho : o.op = .call { callee := .builtin .copy, args := #[d, s], argTypes := #[dT, sT] }) (elem : TypeId) (sz : Nat) (hu : P.underlying dT = some (.slice elem)) (hs : (P.info? elem).map (·.size) = some sz)
    (dp sp : Option Addr) (dLen dCap sLen sCap : Nat) (hd : a.eval d = .slice dp dLen dCap) (hsv : a.eval s = .slice sp sLen sCap)
    (b off : Nat) (cs : List Value) (hn : cs.length = Nat.min sLen dLen * sz) (hsrc : Lay w sp cs) (hdp : cs = [] ∨ dp = some ⟨b, off, none⟩)
    (ht : w.there b off cs.length) (h1 : ∀ v ∈ cs, v.oneCell' = true) (h : ∀ w', Hid (w' = w.setCells b off cs) → K (a.put o.dst (goInt (Nat.min sLen dLen))) w') :
    if Region.wanted o (yielded ops a.tmps) = true then Oper.wp P o a w K Q else E := by
  have hw : Region.wanted o (yielded ops a.tmps) = true := by simp [Region.wanted, hgd]
  rw [if_pos hw]
  have hrun := run_copy_range P w dT sT o.type elem b off dLen dCap sLen sCap sz dp sp cs hu hs hn hsrc hdp ht h1
  unfold Oper.wp
  simp [execOp, ho, resolve, invoke, builtin, hd, hsv, hrun, Result.andThen]
  exact h _ rfl
/-- A store of a value of several cells. -/
theorem run_store_range (P : Program) (w : World) (b o : Nat) (ty : TypeId) (cells : List Value) (ht : w.there b o cells.length) (hi : (P.info? ty).map (·.size) = some cells.length) (h1 : ∀ v ∈ cells, v.oneCell' = true) :
    (Instr.storeAt ty (.pointer (some ⟨b, o, none⟩)) (.agg cells.toArray)).run P w = .ok () (w.setCells b o cells) :=
  run_storeAt_mid w b o ty cells.toArray (by simpa using ht) (by simpa using hi) (all_oneCell_toArray h1)
/-- Cuts. -/
theorem cut_head (P : Program) (t e : TypeId) (sz : Nat) (ht : P.underlying t = some (.slice e)) (hs : (P.info? e).map (·.size) = some sz) (p : Option Addr) (n c i : Nat) (h : i ≤ c) (w : World) :
    (Instr.slice t (.slice p n c) none (some (.int .i64 (i : Int))) none).run P w = .ok (.slice p i c) w := by
  cases hq : P.info? e with
  | none => simp [hq] at hs
  | some j =>
    have hi : j.size = sz := by simpa [hq] using hs
    have h2 : (i : Int) ≤ (c : Int) := by omega
    have e0 : ∀ a : Addr, a.add 0 = a := fun a => by
      obtain ⟨b, o, sp⟩ := a
      unfold Addr.add
      split <;> simp_all
    have h3 : ¬ c < i := by omega
    simp [Instr.slice, run_underlying ht, Instr.sliceBounds, Instr.sliceBound, asIntOf, h3, sizeOf, typeInfo, hq, e0]
theorem cut_tail (P : Program) (t e : TypeId) (sz : Nat) (ht : P.underlying t = some (.slice e)) (hs : (P.info? e).map (·.size) = some sz) (p : Option Addr) (n c k : Nat) (x : Int) (hx : x = (k : Int)) (h : k ≤ n) (hc : n ≤ c) :
    ∃ q, (∀ w, (Instr.slice t (.slice p n c) (some (.int .i64 x)) none none).run P w = .ok (.slice q (n - k) (c - k)) w) ∧ (n - k = 0 ∨ q = p.map (·.add (k * sz))) := by
  subst hx
  cases hq : P.info? e with
  | none => simp [hq] at hs
  | some j =>
    have hi : j.size = sz := by simpa [hq] using hs
    have h2 : (k : Int) ≤ (n : Int) := by omega
    have h3 : ¬ n < k := by omega
    refine ⟨if c = k then p else p.map (·.add (k * sz)), fun w => ?_, ?_⟩
    · simp [Instr.slice, run_underlying ht, Instr.sliceBounds, Instr.sliceBound, asIntOf, h3, sizeOf, typeInfo, hq, hi]
    · by_cases e : c = k
      · left; omega
      · right; rw [if_neg e]
/-- make([]T, n). -/
theorem wpList_make_range {P : Program} {w : World} {ops : Array Oper} {rest : List Oper} {o : Oper} {a : Act} {Q : Exit → Act → World → Prop} (hg : o.guard = none) (l c : Operand) (t : TypeId) (hop : o.op = Op.makeSlice t l c)
    (e : TypeId) (i : TypeInfo) (z : Value) (sz : Nat) (h1 : P.underlying t = some (.slice e)) (h2 : P.info? e = some i) (h3 : i.zero = some z) (h4 : i.size = sz)
    (kl kc : IntKind) (L C : Int) (n : Nat) (hl : a.eval l = .int kl L) (hc : a.eval c = .int kc C) (hL : L = (n : Int)) (hC : C = (n : Int)) (b2 : i.bytes * n ≤ 281474976710656) (b3 : n ≤ 9223372036854775807)
    (hK : ∀ w', Below w.heap.size w w' → w.heap.size < w'.heap.size → w'.there w.heap.size 0 (n * sz) → wpList P ops Q rest (a.put o.dst (.slice (some ⟨w.heap.size, 0, none⟩) n n)) w') :
    wpList P ops Q (o :: rest) a w := by
  refine wpList_plain hg fun K hK' => ?_
  subst hL hC h4
  have hrun := run_make (P := P) w t e i z h1 h2 h3 kl kc n n (by omega) (by omega) (by omega) (by omega)
  simp only [Int.toNat_natCast] at hrun
  unfold Oper.wp
  simp [execOp, hop, hl, hc, hrun, Result.andThen]
  refine hK' _ _ (hK _ ((Below.refl _ _).alloc (Nat.le_refl _) _) (by simp) fun j hj => ?_)
  have hs := heap_alloc_new w (.cells (madeCells z.cells (n * i.size)) e)
  have hm : j < (madeCells z.cells (n * i.size)).size := by rw [size_madeCells]; exact hj
  refine ⟨?_, ?_⟩
  · rw [Nat.zero_add, cell_of_row _ _ _ _ _ (0, 0) hs, Array.getElem?_eq_getElem hm]; rfl
  · exact Codec.frozen_of hs
/-- A new block that is filled from its head on. -/
structure Fill (w0 : World) (g M : Nat) (X : List Value) (u : World) : Prop where
  room : u.there g 0 M
  has : u.rangeAt g 0 X
  below : Below w0.heap.size w0 u
  ge : w0.heap.size ≤ g
theorem Fill.sub {w0 : World} {g M : Nat} {X : List Value} {u : World} (h : Fill w0 g M X u) (o n : Nat) (hn : o + n ≤ M) : u.there g o n := fun j hj => by
  have := h.room (o + j) (by omega)
  rwa [Nat.zero_add] at this
theorem Fill.cell {w0 : World} {g M : Nat} {X : List Value} {u : World} (h : Fill w0 g M X u) {o : Nat} (ho : o < M) : ∃ z, u.cell? ⟨g, o, none⟩ = some z ∧ u.frozen? ⟨g, o, none⟩ = false := by
  obtain ⟨h1, h2⟩ := h.room o ho
  rw [Nat.zero_add] at h1 h2
  obtain ⟨z, hz⟩ := Option.isSome_iff_exists.1 h1
  exact ⟨z, hz, h2⟩
theorem Fill.same {w0 : World} {g M : Nat} {X : List Value} {u u' : World} (h : Fill w0 g M X u) (hb : Below u.heap.size u u') : Fill w0 g M X u' := by
  refine ⟨fun j hj => ?_, range_on h.has hb, h.below.trans (hb.mono h.below.size), h.ge⟩
  obtain ⟨h1, h2⟩ := h.room j hj
  obtain ⟨v, hv⟩ := Option.isSome_iff_exists.1 h1
  have hlt := World.block_lt_of_cell? _ _ hv
  refine ⟨by rw [cell_on hv hb]; rfl, ?_⟩
  rw [← h2]
  exact hb.frozen (p := ⟨g, 0 + j, none⟩) hlt
theorem there_heap {u u' : World} (e : u'.heap = u.heap) {b o n : Nat} (h : u.there b o n) : u'.there b o n := fun j hj => by
  obtain ⟨h1, h2⟩ := h j hj
  refine ⟨?_, ?_⟩
  · rw [← h1]; simp only [World.cell?, e]
  · rw [← h2]; simp only [World.frozen?, e]
theorem lay_heap {u u' : World} (e : u'.heap = u.heap) {p : Option Addr} {cs : List Value} (h : Lay u p cs) : Lay u' p cs := by
  rcases h with h | ⟨b, o, e2, h⟩
  · exact .inl h
  · refine .inr ⟨b, o, e2, fun j v hv => ?_⟩
    rw [← h j v hv]
    simp only [World.cell?, e]
/-- Behind cells that were set. -/
theorem below_setCells {B : Nat} {w0 : World} : ∀ (cs : List Value) (b o : Nat) (w : World), Below B w0 w → B ≤ b → Below B w0 (w.setCells b o cs)
  | [], _, _, _, h, _ => h
  | v :: cs, b, o, _, h, hb => below_setCells cs b (o + 1) _ (h.setCell hb v) hb
theorem size_setCells : ∀ (cs : List Value) (b o : Nat) (w : World), (w.setCells b o cs).heap.size = w.heap.size
  | [], _, _, _ => rfl
  | v :: cs, b, o, w => by rw [World.setCells, size_setCells cs b (o + 1)]; simp [World.setCell]
theorem Fill.step {w0 : World} {g M : Nat} {X : List Value} {u u' : World} {cs : List Value} {o : Nat} (h : Fill w0 g M X u) (e : u' = u.setCells g o cs) (ho : X.length = o) (hM : o + cs.length ≤ M) : Fill w0 g M (X ++ cs) u' := by
  subst e ho
  have ht := h.sub X.length cs.length hM
  refine ⟨World.there_setCells h.room _ _ _, ?_, below_setCells _ _ _ _ h.below h.ge, h.ge⟩
  rw [range_append]
  refine ⟨World.rangeAt_setCells_apart h.has _ _ _ (.inr (.inl (by omega))), ?_⟩
  have := World.rangeAt_setCells_same u g X.length cs ht
  rwa [Nat.zero_add]
end Go.Proofs.Ytagedggmfihhjaa.Range
