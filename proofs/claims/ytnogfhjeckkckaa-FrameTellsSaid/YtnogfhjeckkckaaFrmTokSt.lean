/-
  Words for memory while a token is read: the reader, the result's box, the token's box, its stamps and its rows. Any way to read; no conditions beyond those that each names.
-/
import Derived.Test.YtnogfhjeckkckaaFrmReadRow
namespace Go.Proofs.Ytnogfhjeckkckaa.Frame
open Go.RowKit Codec

/-- Rows that a call owns, their leases in blocks of leases. -/
def RowsOwn (B : Nat) (w : World) (v : Value) (rows : List Rw) : Prop :=
  ∃ xs, w.ownsRow B 52 4 v rows.length xs ∧ ∀ j, j < rows.length → ∃ p c, xs[j * 4]? = some (.int .i64 (rows.getD j noRow).key) ∧ xs[j * 4 + 1]? = some (.int .i64 (rows.getD j noRow).avail) ∧ xs[j * 4 + 2]? = some (.int .i64 (rows.getD j noRow).mark) ∧ xs[j * 4 + 3]? = some (.slice p (rows.getD j noRow).out.length c) ∧ LeasesS 0 w p (rows.getD j noRow).out
theorem RowsOwn.nil (B : Nat) (w : World) : RowsOwn B w (.slice none 0 0) [] := ⟨[], World.ownsRow_nil _ _ _ _, by intro j hj; simp at hj⟩
theorem Kp.of_stays {T : TypeId} {w w' : World} (h : Stays T w w') : Kp 0 T w w' := ⟨Nat.zero_le _, fun g hg => by omega, h⟩
theorem RowsOwn.keep {B : Nat} {w w' : World} {v : Value} {rows : List Rw} {row : Nat} (h : RowsOwn B w v rows) (hg : w.grownBy w' (some row)) (hr : row < B) (hs : Stays 49 w w') : RowsOwn B w' v rows := by
  obtain ⟨xs, h1, h2⟩ := h
  refine ⟨xs, own_kept h1 hg hr, fun j hj => ?_⟩
  obtain ⟨p, c, e0, e1, e2, e3, e4⟩ := h2 j hj
  exact ⟨p, c, e0, e1, e2, e3, e4.keep (.of_stays hs)⟩
theorem RowsOwn.below {B : Nat} {w w' : World} {v : Value} {rows : List Rw} (h : RowsOwn B w v rows) (hb : Below w.heap.size w w') : RowsOwn B w' v rows := by
  obtain ⟨xs, h1, h2⟩ := h
  refine ⟨xs, own_below h1 hb, fun j hj => ?_⟩
  obtain ⟨p, c, e0, e1, e2, e3, e4⟩ := h2 j hj
  exact ⟨p, c, e0, e1, e2, e3, e4.keep (.of_stays (.below hb))⟩
theorem RowsOwn.rows {B : Nat} {w : World} {v : Value} {rows : List Rw} (h : RowsOwn B w v rows) : ∃ p c, v = .slice p rows.length c ∧ RowsS 0 w p rows := by
  obtain ⟨xs, h1, h2⟩ := h
  obtain ⟨p, c, rfl⟩ := own_slice h1
  refine ⟨p, c, rfl, ?_⟩
  by_cases h0 : rows = []
  · exact .inl h0
  · obtain ⟨g, c', hv, _, hcs, _, hat⟩ := own_at h1 (List.length_pos_iff.2 h0)
    simp only [Value.slice.injEq] at hv
    refine .inr ⟨g, 0, hv.1, .inr hcs, fun j hj => ?_⟩
    obtain ⟨q, d, e0, e1, e2, e3, e4⟩ := h2 j hj
    rw [Nat.zero_add]
    exact ⟨hat _ _ e0, hat _ _ e1, hat _ _ e2, q, d, hat _ _ e3, e4⟩
/-- What an own list of ints is good for. -/
theorem ints_own {B : Nat} {w : World} {v : Value} {l : List Int} (h : w.ownsRow B 3 1 v l.length (ints l)) : ∃ p c, v = .slice p l.length c ∧ IntsS 0 w p l := by
  obtain ⟨p, c, rfl⟩ := own_slice h
  refine ⟨p, c, rfl, ?_⟩
  by_cases h0 : l = []
  · exact .inl h0
  · obtain ⟨g, c', hv, _, hcs, _, hat⟩ := own_at h (List.length_pos_iff.2 h0)
    simp only [Value.slice.injEq] at hv
    refine .inr ⟨g, 0, hv.1, .inr hcs, fun j hj => ?_⟩
    rw [Nat.zero_add]
    exact hat _ _ (by simp [ints, List.getD, hj])

/-- While a token is read. -/
structure TokSt (RT : TypeId) (w wr : World) (b X : Nat) (s : St) (g h start : Int) (v1 v2 : Value) (st : List Int) (rows : List Rw) : Prop where
  rdr : Rdr RT 5 wr b s.1 s.2
  bytes : IsBytes s.1
  grown : w.grownBy wr (some b)
  low : b < w.heap.size
  base : w.heap.size ≤ X
  box : wr.heap[X]? = some (.cells #[.int .i64 g, .int .i64 h, v1, .int .i64 start, v2] 29 (0, 0))
  own1 : wr.ownsRow (X + 1) 3 1 v1 st.length (ints st)
  own2 : RowsOwn (X + 1) wr v2 rows
/-- .. with whatever lists. -/
def AnyTok (RT : TypeId) (w wr : World) (b X : Nat) (s : St) (g h start : Int) (st : List Int) (rows : List Rw) : Prop := ∃ v1 v2, TokSt RT w wr b X s g h start v1 v2 st rows
section
variable {RT : TypeId} {w wr u : World} {b X : Nat} {s s' : St} {g h start : Int} {v1 v2 : Value} {st : List Int} {rows : List Rw}
theorem rdr_stays {w w' : World} {bs : List Int} {f : Bool} (hr : Rdr RT 5 w b bs f) (hRT : RT ≠ 49) (hg : w.grownBy w' (some b)) : Stays 49 w w' := by
  obtain ⟨p, c, k, _⟩ := hr
  exact .grown k hRT hg
theorem TokSt.read (S : TokSt RT w wr b X s g h start v1 v2 st rows) (hRT : RT ≠ 49) (hr : Rdr RT 5 u b s'.1 s'.2) (hy : IsBytes s'.1) (hg : wr.grownBy u (some b)) : TokSt RT w u b X s' g h start v1 v2 st rows := by
  have hlow := S.low
  have hbase := S.base
  exact ⟨hr, hy, S.grown.trans hg, hlow, hbase, (hg.block _ (lt_of_heap S.box) (by simp; omega)).trans S.box, own_kept S.own1 hg (by omega), S.own2.keep hg (by omega) (rdr_stays S.rdr hRT hg)⟩
theorem TokSt.drew (S : TokSt RT w wr b X s g h start v1 v2 st rows) : TokSt RT w wr.drew b X s g h start v1 v2 st rows :=
  ⟨S.rdr, S.bytes, ⟨S.grown.os, S.grown.tape, S.grown.output, S.grown.size, S.grown.block⟩, S.low, S.base, S.box, S.own1, S.own2⟩
theorem TokSt.cells (S : TokSt RT w wr b X s g h start v1 v2 st rows) : X < wr.heap.size ∧ wr.cell? ⟨X, 0, none⟩ = some (.int .i64 g) ∧ wr.cell? ⟨X, 1, none⟩ = some (.int .i64 h) ∧ wr.cell? ⟨X, 2, none⟩ = some v1 ∧ wr.cell? ⟨X, 3, none⟩ = some (.int .i64 start) ∧ wr.cell? ⟨X, 4, none⟩ = some v2 ∧
    (∀ o, wr.frozen? ⟨X, o, none⟩ = false) :=
  ⟨lt_of_heap S.box, by rw [cell_of_row _ _ 0 _ _ _ S.box]; rfl, by rw [cell_of_row _ _ 1 _ _ _ S.box]; rfl, by rw [cell_of_row _ _ 2 _ _ _ S.box]; rfl, by rw [cell_of_row _ _ 3 _ _ _ S.box]; rfl, by rw [cell_of_row _ _ 4 _ _ _ S.box]; rfl, fun _ => frozen_of S.box⟩
theorem TokSt.put (S : TokSt RT w wr b X s g h start v1 v2 st rows) (o : Nat) (x : Value) (g' h' start' : Int) (hx : (#[.int .i64 g, .int .i64 h, v1, .int .i64 start, v2] : Array Value).setIfInBounds o x = #[.int .i64 g', .int .i64 h', v1, .int .i64 start', v2]) : TokSt RT w (wr.setCell ⟨X, o, none⟩ x) b X s g' h' start' v1 v2 st rows := by
  have hlow := S.low
  have hbase := S.base
  have hg := grown_set (w := wr) (X) o x
  refine ⟨S.rdr.keep (.grown S.box (by decide) hg) (heap_setCell_other _ _ _ _ (by simp; omega)), S.bytes, grown_set_far S.grown (by omega), hlow, hbase, ?_, own_kept S.own1 hg (by omega), S.own2.keep hg (by omega) (.grown S.box (by decide) hg)⟩
  rw [heap_set _ _ _ _ S.box, hx]
/-- Behind a number that goes into the box. -/
theorem TokSt.num0 (S : TokSt RT w wr b X s g h start v1 v2 st rows) (hRT : RT ≠ 49) (x : Int) (hr : Rdr RT 5 u b s'.1 s'.2) (hy : IsBytes s'.1) (hg : wr.grownBy u (some b)) :
    u.cell? ⟨X, 0, none⟩ = some (.int .i64 g) ∧ u.frozen? ⟨X, 0, none⟩ = false ∧ TokSt RT w (u.setCell ⟨X, 0, none⟩ (.int .i64 x)) b X s' x h start v1 v2 st rows :=
  have T := S.read hRT hr hy hg
  ⟨T.cells.2.1, T.cells.2.2.2.2.2.2 0, T.put 0 _ x h start rfl⟩
theorem TokSt.num1 (S : TokSt RT w wr b X s g h start v1 v2 st rows) (hRT : RT ≠ 49) (x : Int) (hr : Rdr RT 5 u b s'.1 s'.2) (hy : IsBytes s'.1) (hg : wr.grownBy u (some b)) :
    u.cell? ⟨X, 1, none⟩ = some (.int .i64 h) ∧ u.frozen? ⟨X, 1, none⟩ = false ∧ TokSt RT w (u.setCell ⟨X, 1, none⟩ (.int .i64 x)) b X s' g x start v1 v2 st rows :=
  have T := S.read hRT hr hy hg
  ⟨T.cells.2.2.1, T.cells.2.2.2.2.2.2 1, T.put 1 _ g x start rfl⟩
theorem TokSt.num3 (S : TokSt RT w wr b X s g h start v1 v2 st rows) (hRT : RT ≠ 49) (x : Int) (hr : Rdr RT 5 u b s'.1 s'.2) (hy : IsBytes s'.1) (hg : wr.grownBy u (some b)) :
    u.cell? ⟨X, 3, none⟩ = some (.int .i64 start) ∧ u.frozen? ⟨X, 3, none⟩ = false ∧ TokSt RT w (u.setCell ⟨X, 3, none⟩ (.int .i64 x)) b X s' g h x v1 v2 st rows :=
  have T := S.read hRT hr hy hg
  ⟨T.cells.2.2.2.2.1, T.cells.2.2.2.2.2.2 3, T.put 3 _ g h x rfl⟩

/-- What an append behind a new block leaves: reader, boxes, footprint. -/
theorem TokSt.app {w2 w3 : World} {n size : Nat} {E : TypeId} {v : Value} {xs : List Value} (S : TokSt RT w w2 b X s g h start v1 v2 st rows) (o : Obj) (hown : w2.ownsRow (X + 1) E size v n xs) (hE : E ≠ 5) (hg : (w2.alloc o).grownBy w3 v.ownBlock) :
    Rdr RT 5 w3 b s.1 s.2 ∧ w.grownBy w3 (some b) ∧ w3.heap[X]? = some (.cells #[.int .i64 g, .int .i64 h, v1, .int .i64 start, v2] 29 (0, 0)) := by
  have hlow := S.low
  have hbase := S.base
  have h0 : Below w2.heap.size w2 (w2.alloc o) := (Below.refl _ _).alloc (Nat.le_refl _) _
  have hown0 := own_below hown h0
  have hb3 : w3.heap[b]? = w2.heap[b]? := (hg.block _ (Nat.lt_of_lt_of_le S.rdr.lt h0.size) (own_off hown0 (by omega))).trans (h0.block _ S.rdr.lt)
  refine ⟨S.rdr.keep ((Stays.below h0).trans (own_stays_other hown0 hg hE)) hb3, grown_then (grown_alloc S.grown o) hg (fun i hi => by have := (hown0.lt i hi).1; omega), ?_⟩
  exact (hg.block _ (Nat.lt_of_lt_of_le (lt_of_heap S.box) h0.size) (own_off hown0 (by omega))).trans ((h0.block _ (lt_of_heap S.box)).trans S.box)
/-- Two own rows of different types: an append to the one leaves the other. -/
theorem own_apart {B size size' n n' : Nat} {E E' : TypeId} {v v' : Value} {xs xs' : List Value} (h : w.ownsRow B E size v n xs) (h' : w.ownsRow B E' size' v' n' xs') (hE : E ≠ E') (hg : w.grownBy u v.ownBlock) : u.ownsRow B E' size' v' n' xs' :=
  own_stays h' (own_stays_other h hg hE)
theorem TokSt.pushInt {w2 w3 : World} {x : Int} {q cap : Nat} (S : TokSt RT w w2 b X s g h start v1 v2 st rows) (o : Obj) (hg : (w2.alloc o).grownBy w3 v1.ownBlock) (ho : w3.ownsRow (X + 1) 3 1 (.slice (some ⟨q, 0, none⟩) (st.length + 1) cap) (st.length + 1) (ints st ++ [.int .i64 x])) :
    w3.cell? ⟨X, 2, none⟩ = some v1 ∧ w3.frozen? ⟨X, 2, none⟩ = false ∧ Hid (TokSt RT w (w3.setCell ⟨X, 2, none⟩ (.slice (some ⟨q, 0, none⟩) (st.length + 1) cap)) b X s g h start (.slice (some ⟨q, 0, none⟩) (st.length + 1) cap) v2 (st ++ [x]) rows) := by
  have hlow := S.low
  have hbase := S.base
  obtain ⟨a1, a2, a4⟩ := S.app o S.own1 (by decide) hg
  have h0 : Below w2.heap.size w2 (w2.alloc o) := (Below.refl _ _).alloc (Nat.le_refl _) _
  have hown0 := own_below S.own1 h0
  have hset := grown_set (w := w3) (X) 2 (.slice (some ⟨q, 0, none⟩) (st.length + 1) cap)
  refine ⟨by rw [cell_of_row _ _ 2 _ _ _ a4]; rfl, frozen_of a4, ?_⟩
  refine ⟨a1.keep (.grown a4 (by decide) hset) (heap_setCell_other _ _ _ _ (by simp; omega)), S.bytes, grown_set_far a2 (by omega), hlow, hbase, ?_, ?_, ?_⟩
  · rw [heap_set _ _ _ _ a4]; rfl
  · have := own_kept ho hset (by omega)
    rw [List.length_append, List.length_cons, List.length_nil]
    simpa [ints] using this
  · obtain ⟨xs, e1, e2⟩ := S.own2.below h0
    have e3 : RowsOwn (X + 1) w3 v2 rows := ⟨xs, own_apart hown0 e1 (by decide) hg, fun j hj => by
      obtain ⟨p, c, f0, f1, f2, f3, f4⟩ := e2 j hj
      exact ⟨p, c, f0, f1, f2, f3, f4.keep (.of_stays (own_stays_other hown0 hg (by decide)))⟩⟩
    exact e3.keep hset (by omega) (.grown a4 (by decide) hset)
theorem TokSt.pushRow {w2 w3 : World} {r : Rw} {p : Option Addr} {q cap c : Nat} {xs : List Value} (S : TokSt RT w w2 b X s g h start v1 v2 st rows) (o : Obj) (hl : LeasesS 0 w2 p r.out) (hx : w2.ownsRow (X + 1) 52 4 v2 rows.length xs)
    (hxs : ∀ j, j < rows.length → ∃ p c, xs[j * 4]? = some (.int .i64 (rows.getD j noRow).key) ∧ xs[j * 4 + 1]? = some (.int .i64 (rows.getD j noRow).avail) ∧ xs[j * 4 + 2]? = some (.int .i64 (rows.getD j noRow).mark) ∧ xs[j * 4 + 3]? = some (.slice p (rows.getD j noRow).out.length c) ∧ LeasesS 0 w2 p (rows.getD j noRow).out)
    (hg : (w2.alloc o).grownBy w3 v2.ownBlock) (ho : w3.ownsRow (X + 1) 52 4 (.slice (some ⟨q, 0, none⟩) (rows.length + 1) cap) (rows.length + 1) (xs ++ [.int .i64 r.key, .int .i64 r.avail, .int .i64 r.mark, .slice p r.out.length c])) :
    w3.cell? ⟨X, 4, none⟩ = some v2 ∧ w3.frozen? ⟨X, 4, none⟩ = false ∧ Hid (TokSt RT w (w3.setCell ⟨X, 4, none⟩ (.slice (some ⟨q, 0, none⟩) (rows.length + 1) cap)) b X s g h start v1 (.slice (some ⟨q, 0, none⟩) (rows.length + 1) cap) st (rows ++ [r])) := by
  have hlow := S.low
  have hbase := S.base
  obtain ⟨a1, a2, a4⟩ := S.app o hx (by decide) hg
  have h0 : Below w2.heap.size w2 (w2.alloc o) := (Below.refl _ _).alloc (Nat.le_refl _) _
  have hown0 := own_below hx h0
  have hset := grown_set (w := w3) (X) 4 (.slice (some ⟨q, 0, none⟩) (rows.length + 1) cap)
  have hst : Stays 49 w2 (w3.setCell ⟨X, 4, none⟩ (.slice (some ⟨q, 0, none⟩) (rows.length + 1) cap)) := ((Stays.below h0).trans (own_stays_other hown0 hg (by decide))).trans (.grown a4 (by decide) hset)
  refine ⟨by rw [cell_of_row _ _ 4 _ _ _ a4]; rfl, frozen_of a4, ?_⟩
  refine ⟨a1.keep (.grown a4 (by decide) hset) (heap_setCell_other _ _ _ _ (by simp; omega)), S.bytes, grown_set_far a2 (by omega), hlow, hbase, ?_, ?_, ?_⟩
  · rw [heap_set _ _ _ _ a4]; rfl
  · exact own_kept (own_apart hown0 (own_below S.own1 h0) (by decide) hg) hset (by omega)
  · have hlen : xs.length = rows.length * 4 := hx.1
    refine ⟨xs ++ [.int .i64 r.key, .int .i64 r.avail, .int .i64 r.mark, .slice p r.out.length c], ?_, fun j hj => ?_⟩
    · rw [List.length_append, List.length_cons, List.length_nil]
      exact own_kept ho hset (by omega)
    · by_cases hlt : j < rows.length
      · obtain ⟨p', c', f0, f1, f2, f3, f4⟩ := hxs j hlt
        have e : (rows ++ [r]).getD j noRow = rows.getD j noRow := by simp [List.getD, List.getElem?_append_left hlt]
        rw [e]
        refine ⟨p', c', ?_, ?_, ?_, ?_, f4.keep (.of_stays hst)⟩ <;> (rw [List.getElem?_append_left (by omega)]; assumption)
      · have hjr : j = rows.length := by simp at hj; omega
        subst hjr
        have e : (rows ++ [r]).getD rows.length noRow = r := by simp [List.getD]
        rw [e]
        refine ⟨p, c, ?_, ?_, ?_, ?_, hl.keep (.of_stays hst)⟩
        · rw [List.getElem?_append_right (by omega), hlen, Nat.sub_self]; rfl
        · rw [List.getElem?_append_right (by omega), show rows.length * 4 + 1 - xs.length = 1 by omega]; rfl
        · rw [List.getElem?_append_right (by omega), show rows.length * 4 + 2 - xs.length = 2 by omega]; rfl
        · rw [List.getElem?_append_right (by omega), show rows.length * 4 + 3 - xs.length = 3 by omega]; rfl
/-- A new block elsewhere. -/
theorem TokSt.below (S : TokSt RT w wr b X s g h start v1 v2 st rows) (hb : Below wr.heap.size wr u) : TokSt RT w u b X s g h start v1 v2 st rows :=
  ⟨S.rdr.below hb, S.bytes, ⟨hb.os.trans S.grown.os, hb.tape.trans S.grown.tape, hb.output.trans S.grown.output, Nat.le_trans S.grown.size hb.size, fun g hg hne => (hb.block g (Nat.lt_of_lt_of_le hg S.grown.size)).trans (S.grown.block g hg hne)⟩, S.low, S.base, (hb.block _ (lt_of_heap S.box)).trans S.box, own_below S.own1 hb, S.own2.below hb⟩
/-- A box of a token that nobody has written. -/
def ZeroTok (w : World) (R : Nat) : Prop := w.heap[R]? = some (.cells #[.int .i64 0, .int .i64 0, .slice none 0 0, .int .i64 0, .slice none 0 0] 29 (0, 0))
theorem ZeroTok.cells {R : Nat} (h : ZeroTok w R) : R < w.heap.size ∧ w.cell? ⟨R, 0, none⟩ = some (.int .i64 0) ∧ w.cell? ⟨R, 1, none⟩ = some (.int .i64 0) ∧ w.cell? ⟨R, 2, none⟩ = some (.slice none 0 0) ∧ w.cell? ⟨R, 3, none⟩ = some (.int .i64 0) ∧ w.cell? ⟨R, 4, none⟩ = some (.slice none 0 0) ∧
    (∀ o, w.frozen? ⟨R, o, none⟩ = false) := by
  have h' := h
  unfold ZeroTok at h'
  exact ⟨lt_of_heap h', by rw [cell_of_row _ _ 0 _ _ _ h']; rfl, by rw [cell_of_row _ _ 1 _ _ _ h']; rfl, by rw [cell_of_row _ _ 2 _ _ _ h']; rfl, by rw [cell_of_row _ _ 3 _ _ _ h']; rfl, by rw [cell_of_row _ _ 4 _ _ _ h']; rfl, fun _ => frozen_of h'⟩
theorem TokSt.zero (S : TokSt RT (w.alloc (.cells #[.int .i64 0, .int .i64 0, .slice none 0 0, .int .i64 0, .slice none 0 0] 29)) wr b X s g h start v1 v2 st rows) (hb : b < w.heap.size) : ZeroTok wr w.heap.size :=
  (S.grown.block _ (by simp) (by simp; omega)).trans (heap_alloc_new w _)
/-- The token is handed back. -/
theorem TokSt.done {o : Obj} (S : TokSt RT (w.alloc o) wr b X s g h start v1 v2 st rows) (hb : b < w.heap.size) (hz : ZeroTok wr w.heap.size) (hg : wr.grownBy u (some w.heap.size)) : ∃ ps cs p c, v1 = .slice ps st.length cs ∧ v2 = .slice p rows.length c ∧ IntsS 0 u ps st ∧ RowsS 0 u p rows ∧ Rdr RT 5 u b s.1 s.2 ∧ w.grownBy u (some b) := by
  have hbase := S.base
  simp at hbase
  have st' : ∀ T, 29 ≠ T → Stays T wr u := fun T hT => .grown hz hT hg
  obtain ⟨ps, cs, e1, e2⟩ := ints_own (own_kept S.own1 hg (by omega))
  obtain ⟨p, c, e3, e4⟩ := (S.own2.keep hg (by omega) (st' _ (by decide))).rows
  exact ⟨ps, cs, p, c, e1, e3, e2, e4, S.rdr.keep (st' _ (by decide)) (hg.block _ S.rdr.lt (by simp; omega)), grown_then ((grown_alloc (grown_self b) o).trans S.grown) hg (by simp)⟩
end
theorem TokSt.start {RT : TypeId} {w : World} {b : Nat} {s : St} (h : Rdr RT 5 w b s.1 s.2) (hy : IsBytes s.1) (o : Obj) :
    TokSt RT (w.alloc o) ((w.alloc o).alloc (.cells #[.int .i64 0, .int .i64 0, .slice none 0 0, .int .i64 0, .slice none 0 0] 29)) b (w.heap.size + 1) s 0 0 0 (.slice none 0 0) (.slice none 0 0) [] [] := by
  have h1 : Below w.heap.size w (w.alloc o) := (Below.refl _ _).alloc (Nat.le_refl _) _
  have hs : (w.alloc o).heap.size = w.heap.size + 1 := by simp
  have hr := h.below h1
  refine ⟨hr.below ((Below.refl _ _).alloc (Nat.le_refl _) _), hy, grown_alloc (grown_self b) _, hr.lt, by omega, ?_, World.ownsRow_nil _ _ _ _, .nil _ _⟩
  have := heap_alloc_new (w.alloc o) (.cells #[.int .i64 0, .int .i64 0, .slice none 0 0, .int .i64 0, .slice none 0 0] 29)
  rw [hs] at this
  exact this
end Go.Proofs.Ytnogfhjeckkckaa.Frame
