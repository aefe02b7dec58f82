/-
  Words for memory while a frame is read: the reader, the frame's box, where its token's parts lie. Any way to read; no conditions beyond those that each names.
-/
import Derived.Test.YtnogfhjeckkckaaFrmReadTok
namespace Go.Proofs.Ytnogfhjeckkckaa.Frame
open Go.RowKit Codec

def frameCells (f : Fr) (ps p : Option Addr) (cs c : Nat) : Array Value :=
  #[.int .i64 f.kind, .int .i64 f.src, .int .i64 f.dst, .int .i64 f.gen, .int .i64 f.hop, .int .u64 f.bits, .int .i64 f.token.gen, .int .i64 f.token.hop, .slice ps f.token.stamps.length cs, .int .i64 f.token.table.start, .slice p f.token.table.rows.length c]
/-- While a frame is read. -/
structure FrmSt (RT : TypeId) (w wr : World) (b X : Nat) (s : St) (f : Fr) (ps p : Option Addr) (cs c : Nat) : Prop where
  rdr : Rdr RT 5 wr b s.1 s.2
  bytes : IsBytes s.1
  grown : w.grownBy wr (some b)
  low : b < w.heap.size
  base : w.heap.size ≤ X
  box : wr.heap[X]? = some (.cells (frameCells f ps p cs c) 31 (0, 0))
  stamps : IntsS 0 wr ps f.token.stamps
  rows : RowsS 0 wr p f.token.table.rows
section
variable {RT : TypeId} {w wr u : World} {b X : Nat} {s s' : St} {f : Fr} {ps p : Option Addr} {cs c : Nat}
/-- The reader is none of the types of what lies. -/
def RdT (RT : TypeId) : Prop := RT ≠ 3 ∧ RT ≠ 52 ∧ RT ≠ 49 ∧ RT ≠ 31
theorem FrmSt.read (S : FrmSt RT w wr b X s f ps p cs c) (hRT : RdT RT) (hr : Rdr RT 5 u b s'.1 s'.2) (hy : IsBytes s'.1) (hg : wr.grownBy u (some b)) : FrmSt RT w u b X s' f ps p cs c := by
  have hlow := S.low
  have hbase := S.base
  obtain ⟨q, d, k, _⟩ := S.rdr
  have kp : ∀ T, RT ≠ T → Kp 0 T wr u := fun T hT => .of_stays (.grown k hT hg)
  exact ⟨hr, hy, S.grown.trans hg, hlow, hbase, (hg.block _ (lt_of_heap S.box) (by simp; omega)).trans S.box, S.stamps.keep (kp _ hRT.1), S.rows.keep (kp _ hRT.2.1) (kp _ hRT.2.2.1)⟩
theorem FrmSt.drew (S : FrmSt RT w wr b X s f ps p cs c) : FrmSt RT w wr.drew b X s f ps p cs c :=
  ⟨S.rdr, S.bytes, ⟨S.grown.os, S.grown.tape, S.grown.output, S.grown.size, S.grown.block⟩, S.low, S.base, S.box, S.stamps.keep (.of_stays (fun _ _ _ h => h)), S.rows.keep (.of_stays (fun _ _ _ h => h)) (.of_stays (fun _ _ _ h => h))⟩
theorem grown_below {w wr u : World} {b : Nat} (h : w.grownBy wr (some b)) (hb : Below wr.heap.size wr u) : w.grownBy u (some b) :=
  ⟨hb.os.trans h.os, hb.tape.trans h.tape, hb.output.trans h.output, Nat.le_trans h.size hb.size, fun g hg hne => (hb.block g (Nat.lt_of_lt_of_le hg h.size)).trans (h.block g hg hne)⟩
theorem FrmSt.below (S : FrmSt RT w wr b X s f ps p cs c) (hb : Below wr.heap.size wr u) : FrmSt RT w u b X s f ps p cs c :=
  ⟨S.rdr.below hb, S.bytes, grown_below S.grown hb, S.low, S.base, (hb.block _ (lt_of_heap S.box)).trans S.box, S.stamps.keep (.of_stays (.below hb)), S.rows.keep (.of_stays (.below hb)) (.of_stays (.below hb))⟩
theorem FrmSt.cells (S : FrmSt RT w wr b X s f ps p cs c) : X < wr.heap.size ∧ wr.cell? ⟨X, 0, none⟩ = some (.int .i64 f.kind) ∧ wr.cell? ⟨X, 1, none⟩ = some (.int .i64 f.src) ∧ wr.cell? ⟨X, 2, none⟩ = some (.int .i64 f.dst) ∧ wr.cell? ⟨X, 3, none⟩ = some (.int .i64 f.gen) ∧ wr.cell? ⟨X, 4, none⟩ = some (.int .i64 f.hop) ∧ wr.cell? ⟨X, 5, none⟩ = some (.int .u64 f.bits) ∧
    wr.cell? ⟨X, 6, none⟩ = some (.int .i64 f.token.gen) ∧ wr.cell? ⟨X, 7, none⟩ = some (.int .i64 f.token.hop) ∧ wr.cell? ⟨X, 8, none⟩ = some (.slice ps f.token.stamps.length cs) ∧ wr.cell? ⟨X, 9, none⟩ = some (.int .i64 f.token.table.start) ∧ wr.cell? ⟨X, 10, none⟩ = some (.slice p f.token.table.rows.length c) ∧ (∀ o, wr.frozen? ⟨X, o, none⟩ = false) := by
  refine ⟨lt_of_heap S.box, ?_, ?_, ?_, ?_, ?_, ?_, ?_, ?_, ?_, ?_, ?_, fun _ => frozen_of S.box⟩ <;> (rw [cell_of_row _ _ _ _ _ _ S.box]; rfl)
/-- Cells of the box are set. -/
theorem FrmSt.write (S : FrmSt RT w wr b X s f ps p cs c) (f' : Fr) (ps' p' : Option Addr) (cs' c' : Nat) (hg : wr.grownBy u (some X)) (hbox : u.heap[X]? = some (.cells (frameCells f' ps' p' cs' c') 31 (0, 0))) (h1 : IntsS 0 wr ps' f'.token.stamps) (h2 : RowsS 0 wr p' f'.token.table.rows) : FrmSt RT w u b X s f' ps' p' cs' c' := by
  have hlow := S.low
  have hbase := S.base
  have kp : ∀ T, 31 ≠ T → Kp 0 T wr u := fun T hT => .of_stays (.grown S.box hT hg)
  exact ⟨S.rdr.keep (.grown S.box (by decide) hg) (hg.block _ S.rdr.lt (by simp; omega)), S.bytes, grown_then S.grown hg (by simp; exact .inl hbase), hlow, hbase, hbox, h1.keep (kp _ (by decide)), h2.keep (kp _ (by decide)) (kp _ (by decide))⟩
theorem FrmSt.put (S : FrmSt RT w wr b X s f ps p cs c) (o : Nat) (x : Value) (f' : Fr) (ht : f'.token = f.token) (hx : (frameCells f ps p cs c).setIfInBounds o x = frameCells f' ps p cs c) : FrmSt RT w (wr.setCell ⟨X, o, none⟩ x) b X s f' ps p cs c :=
  S.write f' ps p cs c (grown_set X o x) (by rw [heap_set _ _ _ _ S.box, hx]) (by rw [ht]; exact S.stamps) (by rw [ht]; exact S.rows)
theorem FrmSt.puttok (S : FrmSt RT w wr b X s f ps p cs c) (t : Tk) (ps' p' : Option Addr) (cs' c' : Nat) (h1 : IntsS 0 wr ps' t.stamps) (h2 : RowsS 0 wr p' t.table.rows) :
    FrmSt RT w (((((wr.setCell ⟨X, 6, none⟩ (.int .i64 t.gen)).setCell ⟨X, 7, none⟩ (.int .i64 t.hop)).setCell ⟨X, 8, none⟩ (.slice ps' t.stamps.length cs')).setCell ⟨X, 9, none⟩ (.int .i64 t.table.start)).setCell ⟨X, 10, none⟩ (.slice p' t.table.rows.length c')) b X s { f with token := t } ps' p' cs' c' := by
  refine S.write _ ps' p' cs' c' (((((grown_set X 6 _).trans (grown_set X 7 _)).trans (grown_set X 8 _)).trans (grown_set X 9 _)).trans (grown_set X 10 _)) ?_ h1 h2
  rw [heap_set _ _ _ _ (heap_set _ _ _ _ (heap_set _ _ _ _ (heap_set _ _ _ _ (heap_set _ _ _ _ S.box))))]
  rfl
/-- What is read lies as a frame does. -/
theorem lying_of {w : World} {f : Fr} {ps p : Option Addr} (h1 : IntsS 0 w ps f.token.stamps) (h2 : RowsS 0 w p f.token.table.rows) (h3 : f.token.stamps.length ≤ 64) (h4 : f.token.table.rows.length ≤ 16) (h5 : ∀ r ∈ f.token.table.rows, r.out.length ≤ 64) : Lying w f ps p :=
  ⟨h1.ints, h2.rows, fun r hr => by have := h5 r hr; omega, by omega, by omega⟩
end
theorem pw_t : RdT 95 := ⟨by decide, by decide, by decide, by decide⟩
theorem rw_t : RdT 84 := ⟨by decide, by decide, by decide, by decide⟩
/-- The lists that are read are short. -/
theorem small_row (U : Way) (hU : U.Ok) (s : St) : (rdRow U s).1.out.length ≤ 64 := by
  show (rdLeases U _ _).1.length ≤ 64
  rw [len_rdLeases]
  have := hU.high 64 (rdNum U (rdNum U (rdNum U s).2).2).2 (by omega)
  omega
theorem small_rows (U : Way) (hU : U.Ok) : ∀ (n : Nat) (s : St), ∀ r ∈ (rdRows U n s).1, r.out.length ≤ 64
  | 0, _, r, h => by simp [rdRows] at h
  | n + 1, s, r, h => by
    simp only [rdRows, List.mem_append, List.mem_singleton] at h
    rcases h with h | h
    · exact small_rows U hU n s r h
    · rw [h]; exact small_row U hU _
theorem small_token (U : Way) (hU : U.Ok) (s : St) : (rdToken U s).1.stamps.length ≤ 64 ∧ (rdToken U s).1.table.rows.length ≤ 16 ∧ ∀ r ∈ (rdToken U s).1.table.rows, r.out.length ≤ 64 := by
  obtain ⟨g, h, n, st, t, m, r, _, _, hn, hst, _, hm, hr, e⟩ := token_parts' U s
  rw [e]
  simp only
  have h1 := hU.high 64 h.2 (by omega)
  have h2 := hU.high 16 t.2 (by omega)
  rw [← hn] at h1
  rw [← hm] at h2
  refine ⟨?_, ?_, ?_⟩
  · rw [hst, len_rdInts]; omega
  · rw [hr, len_rdRows]; omega
  · rw [hr]; exact small_rows U hU _ _
theorem small_frame (U : Way) (hU : U.Ok) (s : St) : (rdFrame U s).1.token.stamps.length ≤ 64 ∧ (rdFrame U s).1.token.table.rows.length ≤ 16 ∧ ∀ r ∈ (rdFrame U s).1.token.table.rows, r.out.length ≤ 64 := by
  unfold rdFrame
  simp only
  split
  · exact small_token U hU _
  · split
    · exact ⟨by simp [noTk], by simp [noTk], by intro r h; simp [noTk] at h⟩
    · split
      · exact ⟨by simp [noTk], by simp [noTk], by intro r h; simp [noTk] at h⟩
      · exact ⟨by simp [noTk], by simp [noTk], by intro r h; simp [noTk] at h⟩
theorem kind_in (U : Way) (hU : U.Ok) (s : St) (h : IsBytes s.1) : (Lit.int .i64 (rdFrame U s).1.kind).wf = true := by
  have h1 := hU.low most s h
  have h2 := hU.high most s (by unfold most; omega)
  have e : (rdFrame U s).1.kind = (rdNum U s).1 := by
    unfold rdFrame
    simp only
    split
    · rfl
    · split
      · rfl
      · split <;> rfl
  rw [e]
  have h2' : (rdNum U s).1 ≤ 4611686018427387904 := h2
  have h1' : 0 ≤ (rdNum U s).1 := h1
  exact WalkArith.wf_i64 (by omega)
end Go.Proofs.Ytnogfhjeckkckaa.Frame
