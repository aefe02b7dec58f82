/-
  Words for memory while a row, or a token, is read: the reader, a box, a list that the call owns. Any way to read; no conditions beyond those that each names.
-/
import Derived.Test.YtnogfhjeckkckaaFrmBack
import Derived.Test.YtnogfhjeckkckaaFrmClone2
import Derived.Test.YtnogfhjeckkckaaCodecReads
namespace Go.Proofs.Ytnogfhjeckkckaa.Frame
open Go.RowKit Codec

/-- Ways to read leave bytes, and tell small numbers. -/
structure Way.Ok (U : Way) : Prop where
  bytes : ∀ (m : Int) (s : St), IsBytes s.1 → IsBytes (U.upto m s).2.1
  low : ∀ (m : Int) (s : St), IsBytes s.1 → 0 ≤ (U.upto m s).1
  high : ∀ (m : Int) (s : St), 0 ≤ m → (U.upto m s).1 ≤ m
theorem bits_low (s : St) (h : IsBytes s.1) : 0 ≤ (pBits s).1 := by
  unfold pBits
  split
  · simp
  · exact (num_take s.1 h 8 (by omega)).1
theorem rbits_low (s : St) (h : IsBytes s.1) : 0 ≤ (rBits s).1 := by
  unfold rBits
  split
  · simp
  · rename_i hh
    simp only [not_or] at hh
    exact (num_take s.1 h 8 (by omega)).1
theorem pWay_ok : pWay.Ok := by
  refine ⟨fun m s h => pUpto_ok m h, fun m s h => ?_, fun m s hm => ?_⟩
  · show 0 ≤ (pUpto m s).1
    unfold pUpto
    split
    · simp
    · exact bits_low s h
  · show (pUpto m s).1 ≤ m
    unfold pUpto
    split
    · exact hm
    · rename_i h
      simp [over] at h
      omega
theorem rWay_ok : rWay.Ok := by
  refine ⟨fun m s h => rUpto_ok m h, fun m s h => ?_, fun m s hm => ?_⟩
  · show 0 ≤ (rUpto m s).1
    unfold rUpto
    split
    · simp
    · exact rbits_low s h
  · show (rUpto m s).1 ≤ m
    unfold rUpto
    split
    · exact hm
    · rename_i h
      simp [over] at h
      omega

def leaseCells (l : List (Int × Int)) : List Value := l.flatMap fun x => [.int .i64 x.1, .int .i64 x.2]
theorem leaseCells_snoc (l : List (Int × Int)) (x y : Int) : leaseCells (l ++ [(x, y)]) = leaseCells l ++ [.int .i64 x, .int .i64 y] := by simp [leaseCells]
theorem len_leaseCells (l : List (Int × Int)) : (leaseCells l).length = l.length * 2 := by
  induction l with
  | nil => rfl
  | cons x l ih => simp [leaseCells] at ih ⊢; omega
theorem leaseCells_at (l : List (Int × Int)) : ∀ j, j < l.length → (leaseCells l)[j * 2]? = some (.int .i64 (l.getD j (0, 0)).1) ∧ (leaseCells l)[j * 2 + 1]? = some (.int .i64 (l.getD j (0, 0)).2) := by
  induction l with
  | nil => intro j hj; simp at hj
  | cons x l ih =>
    intro j hj
    cases j with
    | zero => simp [leaseCells]
    | succ j =>
      have := ih j (by simpa using hj)
      have e : leaseCells (x :: l) = .int .i64 x.1 :: .int .i64 x.2 :: leaseCells l := by simp [leaseCells]
      rw [e, show (j + 1) * 2 = j * 2 + 1 + 1 by omega, show j * 2 + 1 + 1 + 1 = (j * 2 + 1) + 1 + 1 by omega]
      simp only [List.getElem?_cons_succ, List.getD_cons_succ]
      exact this

section
variable {w w' w'' : World}
/-- Footprints, one behind the other. -/
theorem grown_then {a b c : World} {r : Nat} {row : Option Nat} (h : a.grownBy b (some r)) (k : b.grownBy c row) (hk : ∀ g, row = some g → a.heap.size ≤ g ∨ g = r) : a.grownBy c (some r) :=
  ⟨k.os.trans h.os, k.tape.trans h.tape, k.output.trans h.output, Nat.le_trans h.size k.size, fun g hg hne => (k.block g (Nat.lt_of_lt_of_le hg h.size) (fun e => by
    rcases hk g e.symm with h1 | h1
    · omega
    · exact hne (by rw [h1]))).trans (h.block g hg hne)⟩
theorem grown_alloc {a b : World} {r : Nat} (h : a.grownBy b (some r)) (o : Obj) : a.grownBy (b.alloc o) (some r) :=
  grown_then h (World.grownBy_alloc b o none) (by simp)
theorem grown_set_far {a b : World} {r X o : Nat} {u : Value} (h : a.grownBy b (some r)) (hX : a.heap.size ≤ X) : a.grownBy (b.setCell ⟨X, o, none⟩ u) (some r) :=
  grown_then h (grown_set X o u) (by simp; exact .inl hX)
theorem grown_self (r : Nat) : w.grownBy w (some r) := ⟨rfl, rfl, rfl, Nat.le_refl _, fun _ _ _ => rfl⟩
/-- What an append to an own row leaves. -/
theorem own_stays_other {B size n : Nat} {E T : TypeId} {v : Value} {xs : List Value} (hown : w.ownsRow B E size v n xs) (hg : w.grownBy w' v.ownBlock) (hT : E ≠ T) : Stays T w w' := by
  rcases hown.2 with ⟨rfl, _⟩ | ⟨g, cap, cur, rfl, _, hcur, _⟩
  · intro k cs z hk
    exact (hg.block k (lt_of_heap hk) (by simp [Value.ownBlock])).trans hk
  · exact .grown hcur hT hg
theorem own_off {B size n : Nat} {E : TypeId} {v : Value} {xs : List Value} (hown : w.ownsRow B E size v n xs) {k : Nat} (hk : k < B) : some k ≠ v.ownBlock := fun e => by
  have := (hown.lt k e.symm).1
  omega

/-- While a row is read: the reader, the row's box, its leases. -/
structure RowSt (RT : TypeId) (w wr : World) (b X : Nat) (s : St) (k a m : Int) (v : Value) (out : List (Int × Int)) : Prop where
  rdr : Rdr RT 5 wr b s.1 s.2
  bytes : IsBytes s.1
  grown : w.grownBy wr (some b)
  low : b < w.heap.size
  base : w.heap.size ≤ X
  box : wr.heap[X]? = some (.cells #[.int .i64 k, .int .i64 a, .int .i64 m, v] 52 (0, 0))
  own : wr.ownsRow (X + 1) 49 2 v out.length (leaseCells out)

/-- .. with whatever list. -/
def AnyRow (RT : TypeId) (w wr : World) (b X : Nat) (s : St) (k a m : Int) (out : List (Int × Int)) : Prop := ∃ v, RowSt RT w wr b X s k a m v out
section
variable {RT : TypeId} {wr u : World} {b X : Nat} {s s' : St} {k a m : Int} {v : Value} {out : List (Int × Int)}
theorem own_kept {B size n : Nat} {E : TypeId} {v : Value} {xs : List Value} {row : Nat} (h : w.ownsRow B E size v n xs) (hg : w.grownBy w' (some row)) (hr : row < B) : w'.ownsRow B E size v n xs := by
  refine h.kept hg ?_
  rcases h.2 with ⟨rfl, _⟩ | ⟨g, cap, cur, rfl, hgB, _⟩
  · exact .inl rfl
  · refine .inr ?_
    simp [Value.ownBlock]
    omega
/-- A number is read. -/
theorem RowSt.read (S : RowSt RT w wr b X s k a m v out) (hr : Rdr RT 5 u b s'.1 s'.2) (hy : IsBytes s'.1) (hg : wr.grownBy u (some b)) : RowSt RT w u b X s' k a m v out := by
  have hlow := S.low
  have hbase := S.base
  exact ⟨hr, hy, S.grown.trans hg, hlow, hbase, (hg.block _ (lt_of_heap S.box) (by simp; omega)).trans S.box, own_kept S.own hg (by omega)⟩
theorem RowSt.cells (S : RowSt RT w wr b X s k a m v out) : X < wr.heap.size ∧ wr.cell? ⟨X, 0, none⟩ = some (.int .i64 k) ∧ wr.cell? ⟨X, 1, none⟩ = some (.int .i64 a) ∧ wr.cell? ⟨X, 2, none⟩ = some (.int .i64 m) ∧ wr.cell? ⟨X, 3, none⟩ = some v ∧
    wr.frozen? ⟨X, 0, none⟩ = false ∧ wr.frozen? ⟨X, 1, none⟩ = false ∧ wr.frozen? ⟨X, 2, none⟩ = false ∧ wr.frozen? ⟨X, 3, none⟩ = false :=
  ⟨lt_of_heap S.box, by rw [cell_of_row _ _ 0 _ _ _ S.box]; rfl, by rw [cell_of_row _ _ 1 _ _ _ S.box]; rfl, by rw [cell_of_row _ _ 2 _ _ _ S.box]; rfl, by rw [cell_of_row _ _ 3 _ _ _ S.box]; rfl, frozen_of S.box, frozen_of S.box, frozen_of S.box, frozen_of S.box⟩
theorem RowSt.drew (S : RowSt RT w wr b X s k a m v out) : RowSt RT w wr.drew b X s k a m v out :=
  ⟨S.rdr, S.bytes, ⟨S.grown.os, S.grown.tape, S.grown.output, S.grown.size, S.grown.block⟩, S.low, S.base, S.box, S.own⟩
/-- A cell of the box is set. -/
theorem RowSt.put (S : RowSt RT w wr b X s k a m v out) (o : Nat) (x : Value) (k' a' m' : Int) (hx : (#[.int .i64 k, .int .i64 a, .int .i64 m, v] : Array Value).setIfInBounds o x = #[.int .i64 k', .int .i64 a', .int .i64 m', v]) : RowSt RT w (wr.setCell ⟨X, o, none⟩ x) b X s k' a' m' v out := by
  have hlow := S.low
  have hbase := S.base
  have hg := grown_set (w := wr) X o x
  refine ⟨S.rdr.keep (.grown S.box (by decide) hg) (heap_setCell_other _ _ _ _ (by simp; omega)), S.bytes, grown_set_far S.grown (by omega), hlow, hbase, ?_, own_kept S.own hg (by omega)⟩
  rw [heap_set _ _ _ _ S.box, hx]
/-- A new block, and a cell of it. -/
theorem RowSt.below (S : RowSt RT w wr b X s k a m v out) (hb : Below wr.heap.size wr u) : RowSt RT w u b X s k a m v out :=
  ⟨S.rdr.below hb, S.bytes, ⟨hb.os.trans S.grown.os, hb.tape.trans S.grown.tape, hb.output.trans S.grown.output, Nat.le_trans S.grown.size hb.size, fun g hg hne => (hb.block g (Nat.lt_of_lt_of_le hg S.grown.size)).trans (S.grown.block g hg hne)⟩, S.low, S.base, (hb.block _ (lt_of_heap S.box)).trans S.box, own_below S.own hb⟩
theorem RowSt.aside (S : RowSt RT w wr b X s k a m v out) {Y : Nat} {cs : Array Value} {z : Nat × Nat} {T : TypeId} (o : Nat) (x : Value) (hY : wr.heap[Y]? = some (.cells cs T z)) (hT : T ≠ 5) (hX : X < Y) (hv : v.ownBlock ≠ some Y) : RowSt RT w (wr.setCell ⟨Y, o, none⟩ x) b X s k a m v out := by
  have hlow := S.low
  have hbase := S.base
  have hg := grown_set (w := wr) Y o x
  refine ⟨S.rdr.keep (.grown hY hT hg) (heap_setCell_other _ _ _ _ (by simp; omega)), S.bytes, grown_set_far S.grown (by omega), hlow, hbase, ?_, S.own.kept hg (.inr hv)⟩
  rw [heap_setCell_other _ _ _ _ (by simp; omega)]
  exact S.box
/-- A lease is appended. -/
theorem RowSt.push {w2 w3 : World} {x y : Int} {g cap : Nat} (S : RowSt RT w w2 b X s k a m v out) (o : Obj) (hg : (w2.alloc o).grownBy w3 v.ownBlock) (ho : w3.ownsRow (X + 1) 49 2 (.slice (some ⟨g, 0, none⟩) (out.length + 1) cap) (out.length + 1) (leaseCells out ++ [.int .i64 x, .int .i64 y])) :
    w3.cell? ⟨X, 3, none⟩ = some v ∧ w3.frozen? ⟨X, 3, none⟩ = false ∧ Hid (RowSt RT w (w3.setCell ⟨X, 3, none⟩ (.slice (some ⟨g, 0, none⟩) (out.length + 1) cap)) b X s k a m (.slice (some ⟨g, 0, none⟩) (out.length + 1) cap) (out ++ [(x, y)])) := by
  have hlow := S.low
  have hbase := S.base
  have h0 : Below w2.heap.size w2 (w2.alloc o) := (Below.refl _ _).alloc (Nat.le_refl _) _
  have hown0 := own_below S.own h0
  have hbox : w3.heap[X]? = some (.cells #[.int .i64 k, .int .i64 a, .int .i64 m, v] 52 (0, 0)) :=
    (hg.block _ (Nat.lt_of_lt_of_le (lt_of_heap S.box) h0.size) (own_off hown0 (by omega))).trans ((h0.block _ (lt_of_heap S.box)).trans S.box)
  have hb3 : w3.heap[b]? = w2.heap[b]? := (hg.block _ (Nat.lt_of_lt_of_le S.rdr.lt h0.size) (own_off hown0 (by omega))).trans (h0.block _ S.rdr.lt)
  have st : Stays 5 w2 w3 := (Stays.below h0).trans (own_stays_other hown0 hg (by decide))
  have hg3 : w.grownBy w3 (some b) := grown_then (grown_alloc S.grown o) hg (fun i hi => by
    have := (hown0.lt i hi).1
    omega)
  refine ⟨by rw [cell_of_row _ _ 3 _ _ _ hbox]; rfl, frozen_of hbox, ?_⟩
  refine ⟨(S.rdr.keep st hb3).keep (.grown hbox (by decide) (grown_set _ _ _)) (heap_setCell_other _ _ _ _ (by simp; omega)), S.bytes, grown_set_far hg3 (by omega), hlow, hbase, ?_, ?_⟩
  · rw [heap_set _ _ _ _ hbox]; rfl
  · have := own_kept ho (grown_set (w := w3) X 3 (.slice (some ⟨g, 0, none⟩) (out.length + 1) cap)) (by omega)
    rw [List.length_append, List.length_cons, List.length_nil, leaseCells_snoc]
    exact this
/-- The leases, as they lie. -/
theorem leases_own {B : Nat} (h : w.ownsRow B 49 2 v out.length (leaseCells out)) : ∃ p c, v = .slice p out.length c ∧ LeasesS 0 w p out := by
  obtain ⟨p, c, hv⟩ := own_slice h
  refine ⟨p, c, hv, ?_⟩
  by_cases h0 : out = []
  · exact .inl h0
  · obtain ⟨g, c', hv', hg', hcs, _, hat⟩ := own_at h (List.length_pos_iff.2 h0)
    rw [hv] at hv'
    simp only [Value.slice.injEq] at hv'
    refine .inr ⟨g, 0, hv'.1, .inr hcs, fun j hj => ?_⟩
    have := leaseCells_at out j hj
    rw [Nat.zero_add]
    exact ⟨hat _ _ this.1, hat _ _ this.2⟩
/-- A box of a row that nobody has written. -/
def ZeroRow (w : World) (R : Nat) : Prop := w.heap[R]? = some (.cells #[.int .i64 0, .int .i64 0, .int .i64 0, .slice none 0 0] 52 (0, 0))
theorem ZeroRow.cells {R : Nat} (h : ZeroRow w R) : R < w.heap.size ∧ w.cell? ⟨R, 0, none⟩ = some (.int .i64 0) ∧ w.cell? ⟨R, 1, none⟩ = some (.int .i64 0) ∧ w.cell? ⟨R, 2, none⟩ = some (.int .i64 0) ∧ w.cell? ⟨R, 3, none⟩ = some (.slice none 0 0) ∧
    w.frozen? ⟨R, 0, none⟩ = false ∧ w.frozen? ⟨R, 1, none⟩ = false ∧ w.frozen? ⟨R, 2, none⟩ = false ∧ w.frozen? ⟨R, 3, none⟩ = false := by
  have h' := h
  unfold ZeroRow at h'
  exact ⟨lt_of_heap h', by rw [cell_of_row _ _ 0 _ _ _ h']; rfl, by rw [cell_of_row _ _ 1 _ _ _ h']; rfl, by rw [cell_of_row _ _ 2 _ _ _ h']; rfl, by rw [cell_of_row _ _ 3 _ _ _ h']; rfl, frozen_of h', frozen_of h', frozen_of h', frozen_of h'⟩
theorem RowSt.zero (S : RowSt RT (w.alloc (.cells #[.int .i64 0, .int .i64 0, .int .i64 0, .slice none 0 0] 52)) wr b X s k a m v out) (hb : b < w.heap.size) : ZeroRow wr w.heap.size :=
  (S.grown.block _ (by simp) (by simp; omega)).trans (heap_alloc_new w _)
/-- The row is handed back. -/
theorem RowSt.done {o : Obj} (S : RowSt RT (w.alloc o) wr b X s k a m v out) (hb : b < w.heap.size) (hz : ZeroRow wr w.heap.size) (hg : wr.grownBy u (some w.heap.size)) : ∃ p c, v = .slice p out.length c ∧ LeasesS 0 u p out ∧ Rdr RT 5 u b s.1 s.2 ∧ w.grownBy u (some b) := by
  have hbase := S.base
  simp at hbase
  have st : ∀ T, 52 ≠ T → Stays T wr u := fun T hT => .grown hz hT hg
  obtain ⟨p, c, hv, hl⟩ := leases_own (own_kept S.own hg (by omega))
  exact ⟨p, c, hv, hl, S.rdr.keep (st _ (by decide)) (hg.block _ S.rdr.lt (by simp; omega)), grown_then ((grown_alloc (grown_self b) o).trans S.grown) hg (by simp)⟩
end
end
end Go.Proofs.Ytnogfhjeckkckaa.Frame
