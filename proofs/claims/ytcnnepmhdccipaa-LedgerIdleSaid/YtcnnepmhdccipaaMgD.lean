/-
  Words for memory: tables and rows by value, their boxes; rows, leases and ints that a call owns. No conditions beyond those that each names.
  The document's at, Find, out, Total of any table and row of up to 1000 rows and leases return what the plain functions of LedgerPlain give; of what lay when the call began nothing has turned.
  The document's Total of any row of up to 1000 leases returns what the plain function of LedgerPlain gives; of what lay when the call began nothing has turned.
-/
import Derived.Outline
import Derived.Test.YtcnnepmhdccipaaChecked
import Derived.Test.YtcnnepmhdccipaaMgA
import Derived.Test.YtcnnepmhdccipaaMgB
import Derived.Test.YtcnnepmhdccipaaMgC
namespace Go.Proofs.Ytcnnepmhdccipaa.Ledger
open Go.RowKit
open _root_.Go.Proofs.Ytcnnepmhdccipaa.Frame (Rw Tb noRow LeasesAt cell_on)
open _root_.Go.Proofs.Ytcnnepmhdccipaa.Codec (own_below own_lower lt_of_heap frozen_of heap_set below_new Ints)

/-- Rows, each with its leases: a slice's capacity is its length at least. -/
def RowAt (w : World) (b o : Nat) (r : Rw) : Prop :=
  w.cell? ⟨b, o, none⟩ = some (.int .i64 r.key) ∧ w.cell? ⟨b, o + 1, none⟩ = some (.int .i64 r.avail) ∧ w.cell? ⟨b, o + 2, none⟩ = some (.int .i64 r.mark) ∧
    ∃ p c, w.cell? ⟨b, o + 3, none⟩ = some (.slice p r.out.length (c + r.out.length)) ∧ LeasesAt w p r.out
def RowsAt (w : World) (p : Option Addr) (l : List Rw) : Prop :=
  l = [] ∨ ∃ b o, p = some ⟨b, o, none⟩ ∧ ∀ j, j < l.length → RowAt w b (o + j * 4) (l.getD j noRow)
theorem RowAt.below {w w' : World} {b o : Nat} {r : Rw} (h : RowAt w b o r) (hb : Below w.heap.size w w') : RowAt w' b o r := by
  obtain ⟨h0, h1, h2, p, c, h3, h4⟩ := h
  exact ⟨cell_on h0 hb, cell_on h1 hb, cell_on h2 hb, p, c, cell_on h3 hb, h4.below hb⟩
theorem RowsAt.below {w w' : World} {p : Option Addr} {l : List Rw} (h : RowsAt w p l) (hb : Below w.heap.size w w') : RowsAt w' p l := by
  rcases h with h | ⟨b, o, e, hc⟩
  · exact .inl h
  · exact .inr ⟨b, o, e, fun j hj => (hc j hj).below hb⟩
theorem RowsAt.frame {w : World} {p : Option Addr} {l : List Rw} (h : RowsAt w p l) : Frame.RowsAt w p l := by
  rcases h with h | ⟨b, o, e, hc⟩
  · exact .inl h
  · refine .inr ⟨b, o, e, fun j hj => ?_⟩
    obtain ⟨h0, h1, h2, p, c, h3, h4⟩ := hc j hj
    exact ⟨h0, h1, h2, p, _, h3, h4⟩

def rowVal (r : Rw) (p : Option Addr) (c : Nat) : Value := .agg #[.int .i64 r.key, .int .i64 r.avail, .int .i64 r.mark, .slice p r.out.length (c + r.out.length)]
def tabVal (t : Tb) (p : Option Addr) (c : Nat) : Value := .agg #[.int .i64 t.start, .slice p t.rows.length (c + t.rows.length)]
/-- What tells a row, whose leases lay in W; a table. -/
def TellsRow (W w : World) (r : Rw) (mk : Value → Value) (e : Ending) (w' : World) : Prop := ∃ p c, e = .returned (mk (rowVal r p c)) ∧ LeasesAt W p r.out ∧ Below w.heap.size w w'
def TellsTab (w : World) (t : Tb) (mk : Value → Value) (e : Ending) (w' : World) : Prop := ∃ p c, e = .returned (mk (tabVal t p c)) ∧ RowsAt w' p t.rows ∧ Below w.heap.size w w'

theorem infoI : (Try.prog.info? 3).map (fun i => (i.zero, i.size, i.bytes)) = some (some (.int .i64 0), 1, 8) := by kernel_rfl
theorem infoR : (Try.prog.info? 38).map (fun i => (i.zero, i.size, i.bytes)) = some (some (.agg #[.int .i64 0, .int .i64 0, .int .i64 0, .slice none 0 0]), 4, 48) := by kernel_rfl
theorem infoL : (Try.prog.info? 78).map (fun i => (i.zero, i.size, i.bytes)) = some (some (.agg #[.int .i64 0, .int .i64 0]), 2, 16) := by kernel_rfl

def cellsI (l : List Int) : List Value := l.map (Value.int .i64)
theorem cellsI_one (l : List Int) : ∀ u ∈ cellsI l, u.oneCell' = true := by
  intro u hu
  simp only [cellsI, List.mem_map] at hu
  obtain ⟨x, _, rfl⟩ := hu
  rfl
/-- Ints that a call owns. -/
def OwnI (B : Nat) (w : World) (v : Value) (l : List Int) : Prop := w.ownsRow B 3 1 v l.length (cellsI l)
theorem OwnI.app {B n : Nat} {w : World} {v : Value} {l xs : List Int} (h : w.ownsRow B 3 1 v (l.length + n) (cellsI l ++ cellsI xs)) (hn : xs.length = n) : OwnI B w v (l ++ xs) := by
  unfold OwnI
  rw [List.length_append, hn]
  simpa [cellsI] using h
theorem OwnI.ints {B : Nat} {w : World} {v : Value} {l : List Int} (h : OwnI B w v l) : ∃ p c, v = .slice p l.length c ∧ ∀ k : Nat, k < l.length → ∃ b o, p = some ⟨b, o, none⟩ ∧ w.cell? ⟨b, o + k, none⟩ = some (.int .i64 (l.getD k 0)) := by
  rcases h.2 with ⟨rfl, h0⟩ | ⟨g, cap, cur, rfl, h1, h2, h3, h4, h5, h6⟩
  · exact ⟨none, 0, by rw [h0], fun k hk => by omega⟩
  · refine ⟨_, cap, rfl, fun k hk => ⟨g, 0, rfl, ?_⟩⟩
    have := World.ownsRow.cells (g := g) h rfl k (.int .i64 (l.getD k 0)) (by simp [cellsI, List.getD, hk])
    rwa [Codec.add_at] at this

/-- The cells of rows, whose leases lie at ps. -/
def cellsR (l : List (Rw × (Option Addr × Nat))) : List Value := l.flatMap fun x => [.int .i64 x.1.key, .int .i64 x.1.avail, .int .i64 x.1.mark, .slice x.2.1 x.1.out.length (x.2.2 + x.1.out.length)]
theorem cellsR_snoc (l : List (Rw × (Option Addr × Nat))) (x : Rw × (Option Addr × Nat)) : cellsR (l ++ [x]) = cellsR l ++ [.int .i64 x.1.key, .int .i64 x.1.avail, .int .i64 x.1.mark, .slice x.2.1 x.1.out.length (x.2.2 + x.1.out.length)] := by simp [cellsR]
theorem cellsR_one (l : List (Rw × (Option Addr × Nat))) : ∀ u ∈ cellsR l, u.oneCell' = true := by
  intro u hu
  simp only [cellsR, List.mem_flatMap] at hu
  obtain ⟨s, _, hs⟩ := hu
  simp at hs
  rcases hs with rfl | rfl | rfl | rfl <;> rfl
theorem cellsR_at : ∀ (l : List (Rw × (Option Addr × Nat))) (j : Nat) (hj : j < l.length), (cellsR l)[j * 4]? = some (.int .i64 l[j].1.key) ∧ (cellsR l)[j * 4 + 1]? = some (.int .i64 l[j].1.avail) ∧ (cellsR l)[j * 4 + 2]? = some (.int .i64 l[j].1.mark) ∧ (cellsR l)[j * 4 + 3]? = some (.slice l[j].2.1 l[j].1.out.length (l[j].2.2 + l[j].1.out.length))
  | [], j, hj => by simp at hj
  | x :: l, 0, _ => by simp [cellsR]
  | x :: l, j + 1, hj => by
    have := cellsR_at l j (by simpa using hj)
    have e : cellsR (x :: l) = [.int .i64 x.1.key, .int .i64 x.1.avail, .int .i64 x.1.mark, .slice x.2.1 x.1.out.length (x.2.2 + x.1.out.length)] ++ cellsR l := by simp [cellsR]
    rw [e]
    have s : ∀ n, ([Value.int .i64 x.1.key, .int .i64 x.1.avail, .int .i64 x.1.mark, .slice x.2.1 x.1.out.length (x.2.2 + x.1.out.length)] ++ cellsR l)[4 + n]? = (cellsR l)[n]? := fun n => by
      rw [List.getElem?_append_right (by simp)]; simp
    refine ⟨?_, ?_, ?_, ?_⟩
    · rw [show (j + 1) * 4 = 4 + j * 4 by omega, s]; exact this.1
    · rw [show (j + 1) * 4 + 1 = 4 + (j * 4 + 1) by omega, s]; exact this.2.1
    · rw [show (j + 1) * 4 + 2 = 4 + (j * 4 + 2) by omega, s]; exact this.2.2.1
    · rw [show (j + 1) * 4 + 3 = 4 + (j * 4 + 3) by omega, s]; exact this.2.2.2
/-- Rows that a call owns; their leases lay in W. -/
def OwnR (W : World) (B : Nat) (w : World) (v : Value) (l : List Rw) : Prop := ∃ m : List (Rw × (Option Addr × Nat)), m.map (·.1) = l ∧ w.ownsRow B 38 4 v l.length (cellsR m) ∧ ∀ x ∈ m, LeasesAt W x.2.1 x.1.out
theorem OwnR.none (W : World) (B : Nat) (w : World) : OwnR W B w (.slice Option.none 0 0) [] := ⟨[], rfl, World.ownsRow_nil _ _ _ _, fun x hx => by cases hx⟩
theorem OwnR.rows {W : World} {B : Nat} {w : World} {v : Value} {l : List Rw} (h : OwnR W B w v l) (hW : Below W.heap.size W w) : ∃ p c, v = .slice p l.length (c + l.length) ∧ RowsAt w p l := by
  obtain ⟨m, hm, ho, hl⟩ := h
  subst hm
  have ho' := ho
  rcases ho.2 with ⟨rfl, h0⟩ | ⟨g, cap, cur, rfl, h1, h2, h3⟩
  · exact ⟨Option.none, 0, by rw [h0], .inl (List.eq_nil_of_length_eq_zero h0)⟩
  · refine ⟨_, cap - (m.map (·.1)).length, by rw [Nat.sub_add_cancel h3.1], .inr ⟨g, 0, rfl, fun j hj => ?_⟩⟩
    have hj' : j < m.length := by simpa using hj
    obtain ⟨c0, c1, c2, c3⟩ := cellsR_at m j hj'
    have hc := ho'.cells (g := g) rfl
    have k0 := hc _ _ c0
    have k1 := hc _ _ c1
    have k2 := hc _ _ c2
    have k3 := hc _ _ c3
    rw [Codec.add_at] at k0 k1 k2 k3
    have e : (m.map (·.1)).getD j noRow = m[j].1 := by simp [List.getD, hj']
    rw [e]
    refine ⟨k0, ?_, ?_, m[j].2.1, m[j].2.2, ?_, (hl _ (List.getElem_mem hj')).below hW⟩
    · rw [← Nat.add_assoc] at k1; exact k1
    · rw [← Nat.add_assoc] at k2; exact k2
    · rw [← Nat.add_assoc] at k3; exact k3
theorem OwnR.shape {W : World} {B : Nat} {w : World} {v : Value} {l : List Rw} (h : OwnR W B w v l) : ∃ p c, v = .slice p l.length c := by
  obtain ⟨m, hm, ho, hl⟩ := h
  rcases ho.2 with ⟨rfl, h0⟩ | ⟨g, cap, cur, rfl, h1, h2, h3⟩
  · exact ⟨Option.none, 0, by rw [h0]⟩
  · exact ⟨_, cap, rfl⟩
theorem OwnR.on {W : World} {B : Nat} {w w' : World} {v : Value} {l : List Rw} (h : OwnR W B w v l) (hb : Below w.heap.size w w') : OwnR W B w' v l := by
  obtain ⟨m, hm, ho, hl⟩ := h
  exact ⟨m, hm, own_below ho hb, hl⟩
/-- A block below is turned. -/
theorem OwnR.set {W : World} {B : Nat} {w : World} {v : Value} {l : List Rw} {b o : Nat} {u : Value} (h : OwnR W B w v l) (hb : b < B) : OwnR W B (w.setCell ⟨b, o, Option.none⟩ u) v l := by
  obtain ⟨m, hm, ho, hl⟩ := h
  refine ⟨m, hm, ⟨ho.1, ?_⟩, hl⟩
  rcases ho.2 with h0 | ⟨g, cap, cur, rfl, h1, h2, h3⟩
  · exact .inl h0
  · exact .inr ⟨g, cap, cur, rfl, h1, (Below.heap_setCell _ _ _ _ (by simp; omega)).trans h2, h3⟩
/-- A row is appended. -/
theorem OwnR.app {W : World} {B n : Nat} {w w' : World} {v v' : Value} {l : List Rw} {m : List (Rw × (Option Addr × Nat))} {r : Rw} {p : Option Addr} {c : Nat} (hm : m.map (·.1) = l) (hl : ∀ x ∈ m, LeasesAt W x.2.1 x.1.out) (hr : LeasesAt W p r.out) (_ : w.ownsRow B 38 4 v n (cellsR m)) (hn : n = l.length)
    (ho : w'.ownsRow B 38 4 v' (n + 1) (cellsR m ++ [.int .i64 r.key, .int .i64 r.avail, .int .i64 r.mark, .slice p r.out.length (c + r.out.length)])) : OwnR W B w' v' (l ++ [r]) := by
  refine ⟨m ++ [(r, p, c)], by rw [List.map_append, hm]; rfl, ?_, ?_⟩
  · rw [cellsR_snoc, List.length_append, ← hn]
    exact ho
  · intro x hx
    rcases List.mem_append.1 hx with hx | hx
    · exact hl x hx
    · simp only [List.mem_singleton] at hx
      subst hx
      exact hr

/-- The boxes. -/
theorem tab_cells {w : World} {b : Nat} {t : Tb} {p : Option Addr} {c : Nat} (h : w.heap[b]? = some (.cells #[.int .i64 t.start, .slice p t.rows.length (c + t.rows.length)] 24 (0, 0))) :
    w.cell? ⟨b, 0, Option.none⟩ = some (.int .i64 t.start) ∧ w.cell? ⟨b, 1, Option.none⟩ = some (.slice p t.rows.length (c + t.rows.length)) ∧ ∀ o, w.frozen? ⟨b, o, Option.none⟩ = false :=
  ⟨by rw [cell_of_row w b 0 _ _ (0, 0) h]; rfl, by rw [cell_of_row w b 1 _ _ (0, 0) h]; rfl, fun _ => frozen_of h⟩
theorem row_cells {w : World} {b : Nat} {v1 v2 v3 v4 : Value} (h : w.heap[b]? = some (.cells #[v1, v2, v3, v4] 38 (0, 0))) :
    w.cell? ⟨b, 0, Option.none⟩ = some v1 ∧ w.cell? ⟨b, 1, Option.none⟩ = some v2 ∧ w.cell? ⟨b, 2, Option.none⟩ = some v3 ∧ w.cell? ⟨b, 3, Option.none⟩ = some v4 ∧ ∀ o, w.frozen? ⟨b, o, Option.none⟩ = false :=
  ⟨by rw [cell_of_row w b 0 _ _ (0, 0) h]; rfl, by rw [cell_of_row w b 1 _ _ (0, 0) h]; rfl, by rw [cell_of_row w b 2 _ _ (0, 0) h]; rfl, by rw [cell_of_row w b 3 _ _ (0, 0) h]; rfl, fun _ => frozen_of h⟩
end Go.Proofs.Ytcnnepmhdccipaa.Ledger

namespace Go.Proofs.Ytcnnepmhdccipaa.Ledger
open Go.RowKit
open _root_.Go.Proofs.Ytcnnepmhdccipaa.Frame (Rw Tb noRow LeasesAt cell_on)
open _root_.Go.Proofs.Ytcnnepmhdccipaa.Codec (own_below own_lower lt_of_heap frozen_of heap_set below_new)
open _root_.Go.Proofs.Ytcnnepmhdccipaa.Sat (fit add sub mul radd_any)

theorem rows_some {w : World} {p : Option Addr} {l : List Rw} (h : RowsAt w p l) {j : Nat} (hj : j < l.length) : ∃ b o, p = some ⟨b, o, none⟩ ∧ RowAt w b (o + j * 4) (l.getD j noRow) := by
  rcases h with h | ⟨b, o, e, hc⟩
  · rw [h] at hj; simp at hj
  · exact ⟨b, o, e, hc j hj⟩
theorem leases_some {w : World} {p : Option Addr} {l : List (Int × Int)} (h : LeasesAt w p l) {j : Nat} (hj : j < l.length) : ∃ b o, p = some ⟨b, o, none⟩ ∧ w.cell? ⟨b, o + j * 2, none⟩ = some (.int .i64 (l.getD j (0, 0)).1) ∧ w.cell? ⟨b, o + j * 2 + 1, none⟩ = some (.int .i64 (l.getD j (0, 0)).2) := by
  rcases h with h | ⟨b, o, e, hc⟩
  · rw [h] at hj; simp at hj
  · exact ⟨b, o, e, hc j hj⟩

set_option maxRecDepth 100000 in
theorem at_any (t : Tb) (p : Option Addr) (c : Nat) (key : Int) (w : World) (h : RowsAt w p t.rows) (hl : t.rows.length ≤ 1000) :
    Calls Try.prog 38 #[tabVal t p c, .int .i64 key] w fun e w' => e = .returned (.int .i64 (place t.rows key)) ∧ Below w.heap.size w w' := by
  obtain ⟨start, rows⟩ := t
  have hb := (Below.refl w.heap.size w).alloc (Nat.le_refl _) (.cells #[.int .i64 start, .slice p rows.length (c + rows.length)] 24)
  have hr := h.below hb
  have hc := tab_cells (t := ⟨start, rows⟩) (heap_alloc_new w (.cells #[.int .i64 start, .slice p rows.length (c + rows.length)] 24))
  simp only [tabVal] at *
  have HPL := Lib.hid (show place rows key = spot (fun r => r.key == key) rows from rfl)
  generalize place rows key = R at HPL ⊢
  go_enter Try.func38, Try.ntmps38
  go_wp2
  generalize w.alloc (.cells #[.int .i64 start, .slice p rows.length (c + rows.length)] 24) = w1 at *
  obtain ⟨-, c1, -⟩ := hc
  have HR := Lib.hid hr
  have HB := Lib.hid hb
  clear hr hb h
  go_loop [5] (fun i => ∃ j : Nat, j ≤ rows.length ∧ i = .int .i64 (j : Int) ∧ Hid (∀ i, i < j → (rows.getD i noRow).key ≠ key)) (fun i => rows.length - (intOf i).toNat)
  case atStart => exact ⟨0, by omega, rfl, fun i hi => by omega⟩
  case round =>
    obtain ⟨j, hj, rfl, hne⟩ := hrel
    by_cases hlt : j < rows.length
    · obtain ⟨b, o, rfl, k0, -⟩ := rows_some HR.out hlt
      have hlt' : (j : Int) < (rows.length : Int) := by omega
      by_cases hk : (rows.getD j noRow).key = key
      · have HE := Lib.hid (show R = (j : Int) by rw [HPL.out]; exact spot_at _ noRow rows j hlt (fun i hi => by simpa using hne.out i hi) (by simpa using hk))
        rw [hk] at k0
        clear hne HPL HR hk
        go_wp2
        go_ret
        exact ⟨by rw [HE.out]; rfl, HB.out⟩
      · have HN : Hid (∀ i, i < j + 1 → (rows.getD i noRow).key ≠ key) := fun i hi => by
          by_cases e : i < j
          · exact hne.out i e
          · rw [show i = j by omega]; exact hk
        generalize (rows.getD j noRow).key = y at k0 hk
        clear hne HPL HR
        go_wp2
        go_round
        case rel => exact ⟨j + 1, by omega, by go_num, HN⟩
        case measure => simp only [intOf]; omega
    · obtain rfl : j = rows.length := by omega
      have HE := Lib.hid (show R = -1 by rw [HPL.out]; exact spot_none _ noRow rows (fun i hi => by simpa using hne.out i hi))
      clear hne HPL HR
      go_wp2
      go_ret
      exact ⟨by rw [HE.out]; rfl, HB.out⟩

set_option maxRecDepth 100000 in
theorem out_any (r : Rw) (p : Option Addr) (c : Nat) (node : Int) (w : World) (h : LeasesAt w p r.out) (hl : r.out.length ≤ 1000) :
    Calls Try.prog 46 #[rowVal r p c, .int .i64 node] w fun e w' => e = .returned (.int .i64 (outAt r.out node)) ∧ Below w.heap.size w w' := by
  obtain ⟨key, avail, mark, rows⟩ := r
  have hb := (Below.refl w.heap.size w).alloc (Nat.le_refl _) (.cells #[.int .i64 key, .int .i64 avail, .int .i64 mark, .slice p rows.length (c + rows.length)] 38)
  have hr := h.below hb
  have hc := row_cells (heap_alloc_new w (.cells #[.int .i64 key, .int .i64 avail, .int .i64 mark, .slice p rows.length (c + rows.length)] 38))
  simp only [rowVal] at *
  have HPL := Lib.hid (show outAt rows node = spot (fun x => x.1 == node) rows from rfl)
  generalize outAt rows node = R at HPL ⊢
  go_enter Try.func46, Try.ntmps46
  go_wp2
  generalize w.alloc (.cells #[.int .i64 key, .int .i64 avail, .int .i64 mark, .slice p rows.length (c + rows.length)] 38) = w1 at *
  obtain ⟨-, -, -, c1, -⟩ := hc
  have HR := Lib.hid hr
  have HB := Lib.hid hb
  clear hr hb h
  go_loop [5] (fun i => ∃ j : Nat, j ≤ rows.length ∧ i = .int .i64 (j : Int) ∧ Hid (∀ i, i < j → (rows.getD i (0, 0)).1 ≠ node)) (fun i => rows.length - (intOf i).toNat)
  case atStart => exact ⟨0, by omega, rfl, fun i hi => by omega⟩
  case round =>
    obtain ⟨j, hj, rfl, hne⟩ := hrel
    by_cases hlt : j < rows.length
    · obtain ⟨b, o, rfl, k0, -⟩ := leases_some HR.out hlt
      have hlt' : (j : Int) < (rows.length : Int) := by omega
      by_cases hk : (rows.getD j (0, 0)).1 = node
      · have HE := Lib.hid (show R = (j : Int) by rw [HPL.out]; exact spot_at _ (0, 0) rows j hlt (fun i hi => by simpa using hne.out i hi) (by simpa using hk))
        rw [hk] at k0
        clear hne HPL HR hk
        go_wp2
        go_ret
        exact ⟨by rw [HE.out]; rfl, HB.out⟩
      · have HN : Hid (∀ i, i < j + 1 → (rows.getD i (0, 0)).1 ≠ node) := fun i hi => by
          by_cases e : i < j
          · exact hne.out i e
          · rw [show i = j by omega]; exact hk
        generalize (rows.getD j (0, 0)).1 = y at k0 hk
        clear hne HPL HR
        go_wp2
        go_round
        case rel => exact ⟨j + 1, by omega, by go_num, HN⟩
        case measure => simp only [intOf]; omega
    · obtain rfl : j = rows.length := by omega
      have HE := Lib.hid (show R = -1 by rw [HPL.out]; exact spot_none _ (0, 0) rows (fun i hi => by simpa using hne.out i hi))
      clear hne HPL HR
      go_wp2
      go_ret
      exact ⟨by rw [HE.out]; rfl, HB.out⟩

set_option maxRecDepth 100000 in
theorem find_any (t : Tb) (p : Option Addr) (c : Nat) (key : Int) (W w : World) (h0 : RowsAt W p t.rows) (hW : Below W.heap.size W w) (hl : t.rows.length ≤ 1000) :
    Calls Try.prog 12 #[tabVal t p c, .int .i64 key] w (TellsRow W w (findRow t key) (fun v => .tuple #[v, .bool (findIs t key)])) := by
  obtain ⟨start, rows⟩ := t
  have h := h0.below hW
  have H0 := Lib.hid h0
  have HWW := Lib.hid hW
  clear h0 hW
  have hb0 := (Below.refl w.heap.size w).alloc (Nat.le_refl _) (.cells #[.int .i64 start, .slice p rows.length (c + rows.length)] 24)
  have hat := at_any ⟨start, rows⟩ p c key ((w.alloc (.cells #[.int .i64 start, .slice p rows.length (c + rows.length)] 24)).alloc (.cells #[.int .i64 0, .int .i64 0, .int .i64 0, .slice none 0 0] 38)) (h.below (hb0.alloc hb0.size _)) hl
  have hb : Below w.heap.size w ((w.alloc (.cells #[.int .i64 start, .slice p rows.length (c + rows.length)] 24)).alloc (.cells #[.int .i64 0, .int .i64 0, .int .i64 0, .slice none 0 0] 38)) := hb0.alloc hb0.size _
  have k0 : ((w.alloc (.cells #[.int .i64 start, .slice p rows.length (c + rows.length)] 24)).alloc (.cells #[.int .i64 0, .int .i64 0, .int .i64 0, .slice none 0 0] 38)).heap[w.heap.size]? = some (.cells #[.int .i64 start, .slice p rows.length (c + rows.length)] 24 (0, 0)) := (Below.heap_alloc _ _ _ (by simp)).trans (heap_alloc_new _ _)
  have k1 : ((w.alloc (.cells #[.int .i64 start, .slice p rows.length (c + rows.length)] 24)).alloc (.cells #[.int .i64 0, .int .i64 0, .int .i64 0, .slice none 0 0] 38)).heap[w.heap.size + 1]? = some (.cells #[.int .i64 0, .int .i64 0, .int .i64 0, .slice none 0 0] 38 (0, 0)) := by
    have := heap_alloc_new (w.alloc (.cells #[.int .i64 start, .slice p rows.length (c + rows.length)] 24)) (.cells #[.int .i64 0, .int .i64 0, .int .i64 0, .slice none 0 0] 38)
    rwa [show (w.alloc (.cells #[.int .i64 start, .slice p rows.length (c + rows.length)] 24)).heap.size = w.heap.size + 1 by simp] at this
  simp only [tabVal] at *
  have HF := Lib.hid (show findRow ⟨start, rows⟩ key = if place rows key < 0 then ⟨key, 0, start, []⟩ else rows.getD (place rows key).toNat noRow from rfl)
  have HI := Lib.hid (show findIs ⟨start, rows⟩ key = decide (0 ≤ place rows key) from rfl)
  have hsp := spot_cases (fun r => r.key == key) noRow rows
  have hpe : place rows key = spot (fun r => r.key == key) rows := rfl
  rw [← hpe] at hsp
  generalize place rows key = P at *
  generalize findRow ⟨start, rows⟩ key = F at HF ⊢
  generalize findIs ⟨start, rows⟩ key = I at HI ⊢
  have HB := Lib.hid hb
  have K0 := Lib.hid k0
  have K1 := Lib.hid k1
  have HH := Lib.hid h
  have arm : ∀ u, Below ((w.alloc (.cells #[.int .i64 start, .slice p rows.length (c + rows.length)] 24)).alloc (.cells #[.int .i64 0, .int .i64 0, .int .i64 0, .slice none 0 0] 38)).heap.size ((w.alloc (.cells #[.int .i64 start, .slice p rows.length (c + rows.length)] 24)).alloc (.cells #[.int .i64 0, .int .i64 0, .int .i64 0, .slice none 0 0] 38)) u →
      Below w.heap.size w u ∧ u.heap[w.heap.size]? = some (.cells #[.int .i64 start, .slice p rows.length (c + rows.length)] 24 (0, 0)) ∧ u.heap[w.heap.size + 1]? = some (.cells #[.int .i64 0, .int .i64 0, .int .i64 0, .slice none 0 0] 38 (0, 0)) ∧ RowsAt u p rows := fun u hu =>
    ⟨HB.out.trans (hu.mono HB.out.size), (hu.block _ (lt_of_heap K0.out)).trans K0.out, (hu.block _ (lt_of_heap K1.out)).trans K1.out, (HH.out.below HB.out).below hu⟩
  clear hb0 hb k0 k1 h hpe HB K0 K1
  rcases hsp with ⟨rfl, -⟩ | ⟨j, rfl, hj, -, -⟩
  · have HR := Lib.hid (show F = ⟨key, 0, start, []⟩ by rw [HF.out]; rfl)
    have HRI := Lib.hid (show I = false by rw [HI.out]; rfl)
    clear HF HI
    go_enter Try.func12, Try.ntmps12
    go_wp2_with (go_at_call 38; (with_reducible refine hat.mono ?_); rintro e u ⟨rfl, hbu⟩; obtain ⟨b1, q0, q1, q2⟩ := arm _ hbu; obtain ⟨c0, c1, -⟩ := tab_cells (t := ⟨start, rows⟩) q0; obtain ⟨d0, d1, d2, d3, ff⟩ := row_cells q1; have f0 := ff 0; have f1 := ff 1; have f2 := ff 2; have f3 := ff 3; have B1 := Lib.hid b1; clear hat arm hbu b1 q0 q1 q2 ff)
    refine bodyPost_ret (v := .tuple #[.agg #[.int .i64 key, .int .i64 0, .int .i64 start, .slice none 0 0], .bool false]) (by simp [results, Try.results12, go_sem, d0, d1, d2, d3]) rfl ?_
    rw [HR.out, HRI.out]
    exact ⟨none, 0, rfl, .inl rfl, ((((B1.out.setCell (by simp) _).setCell (by simp) _).setCell (by simp) _).setCell (by simp) _)⟩
  · have HR := Lib.hid (show F = rows.getD j noRow by rw [HF.out, if_neg (by omega)]; simp)
    have HRI := Lib.hid (show I = true by rw [HI.out]; simp)
    have hj' : (j : Int) < (rows.length : Int) := by omega
    obtain ⟨b, o, rfl, r0', r1', r2', pl, cl, r3', hls⟩ := rows_some H0.out hj
    have r0 := cell_on r0' HWW.out
    have r1 := cell_on r1' HWW.out
    have r2 := cell_on r2' HWW.out
    have r3 := cell_on r3' HWW.out
    have HL := Lib.hid hls
    have R0 := Lib.hid (And.intro r0 (And.intro r1 (And.intro r2 r3)))
    clear r0 r1 r2 r3 r0' r1' r2' r3' hls HH
    generalize rows.getD j noRow = z at *
    clear HF HI
    go_enter Try.func12, Try.ntmps12
    go_wp2_with (go_at_call 38; (with_reducible refine hat.mono ?_); rintro e u ⟨rfl, hbu⟩; obtain ⟨b1, q0, q1, q2⟩ := arm _ hbu; obtain ⟨c0, c1, -⟩ := tab_cells (t := ⟨start, rows⟩) q0; obtain ⟨d0, d1, d2, d3, ff⟩ := row_cells q1; have f0 := ff 0; have f1 := ff 1; have f2 := ff 2; have f3 := ff 3; have B1 := Lib.hid b1; have r0 := cell_on R0.out.1 b1; have r1 := cell_on R0.out.2.1 b1; have r2 := cell_on R0.out.2.2.1 b1; have r3 := cell_on R0.out.2.2.2 b1; clear hat arm hbu b1 q0 q1 q2 ff R0)
    have BF := Lib.hid (((((B1.out.setCell (p := ⟨w.heap.size + 1, 0, none⟩) (by simp) (.int .i64 z.key)).setCell (p := ⟨w.heap.size + 1, 1, none⟩) (by simp) (.int .i64 z.avail)).setCell (p := ⟨w.heap.size + 1, 2, none⟩) (by simp) (.int .i64 z.mark)).setCell (p := ⟨w.heap.size + 1, 3, none⟩) (by simp) (.slice pl z.out.length (cl + z.out.length))))
    refine bodyPost_ret (v := .tuple #[.agg #[.int .i64 z.key, .int .i64 z.avail, .int .i64 z.mark, .slice pl z.out.length (cl + z.out.length)], .bool true]) (by simp [results, Try.results12, go_sem, d0, d1, d2, d3]) rfl ?_
    rw [HR.out, HRI.out]
    exact ⟨pl, cl, rfl, HL.out, BF.out⟩
end Go.Proofs.Ytcnnepmhdccipaa.Ledger

namespace Go.Proofs.Ytcnnepmhdccipaa.Ledger
open Go.RowKit
open _root_.Go.Proofs.Ytcnnepmhdccipaa.Frame (Rw Tb noRow LeasesAt cell_on)
open _root_.Go.Proofs.Ytcnnepmhdccipaa.Codec (own_below own_lower lt_of_heap frozen_of heap_set below_new)
open _root_.Go.Proofs.Ytcnnepmhdccipaa.Sat (fit add sub mul radd_any)

/-- The numbers so far. -/
def soFar (r : Rw) (j : Nat) : List Int := r.avail :: (r.out.take j).map (·.2)
theorem soFar_succ (r : Rw) (j : Nat) (h : j < r.out.length) : soFar r (j + 1) = soFar r j ++ [(r.out.getD j (0, 0)).2] := by
  have e : r.out.getD j (0, 0) = r.out[j] := by simp [List.getD, h]
  rw [e, soFar, List.take_succ_eq_append_getElem h]
  simp only [List.map_append, List.map_cons, List.map_nil, List.cons_append, soFar]
theorem soFar_all (r : Rw) : total r = add (soFar r r.out.length) := by simp [soFar, total]
theorem soFar_len (r : Rw) (j : Nat) (h : j ≤ r.out.length) : (soFar r j).length = j + 1 := by simp [soFar]; omega

set_option maxRecDepth 100000 in
set_option maxHeartbeats 1000000 in
theorem total_any (r : Rw) (p : Option Addr) (c : Nat) (w : World) (h : LeasesAt w p r.out) (hl : r.out.length ≤ 1000) :
    Calls Try.prog 20 #[rowVal r p c] w fun e w' => e = .returned (.int .i64 (total r)) ∧ Below w.heap.size w w' := by
  obtain ⟨i0, hi, hz0, hz1, hz2⟩ := info_parts infoI
  have HT := Lib.hid (soFar_all r)
  have HS := fun j => Lib.hid (soFar_succ r j)
  have HL := fun j => Lib.hid (soFar_len r j)
  have h00 : soFar r 0 = [r.avail] := by simp [soFar]
  generalize total r = T at HT ⊢
  generalize soFar r = F at *
  obtain ⟨key, avail, mark, out⟩ := r
  simp only at *
  have hb := (Below.refl w.heap.size w).alloc (Nat.le_refl _) (.cells #[.int .i64 key, .int .i64 avail, .int .i64 mark, .slice p out.length (c + out.length)] 38)
  have hr := h.below hb
  have hbx := heap_alloc_new w (.cells #[.int .i64 key, .int .i64 avail, .int .i64 mark, .slice p out.length (c + out.length)] 38)
  have hO : OwnI (w.alloc (.cells #[.int .i64 key, .int .i64 avail, .int .i64 mark, .slice p out.length (c + out.length)] 38)).heap.size ((w.alloc (.cells #[.int .i64 key, .int .i64 avail, .int .i64 mark, .slice p out.length (c + out.length)] 38)).alloc (.cells #[.int .i64 avail] 3)) (.slice (some ⟨w.heap.size + 1, 0, none⟩) 1 1) (F 0) := by
    rw [h00]
    refine ⟨rfl, .inr ⟨w.heap.size + 1, 1, #[.int .i64 avail], rfl, by simp, ?_, Nat.le_refl _, (by unfold maxLen; omega), rfl, rfl⟩⟩
    have := heap_alloc_new (w.alloc (.cells #[.int .i64 key, .int .i64 avail, .int .i64 mark, .slice p out.length (c + out.length)] 38)) (.cells #[.int .i64 avail] 3)
    rwa [show (w.alloc (.cells #[.int .i64 key, .int .i64 avail, .int .i64 mark, .slice p out.length (c + out.length)] 38)).heap.size = w.heap.size + 1 by simp] at this
  have hb1 := (Below.refl (w.alloc (.cells #[.int .i64 key, .int .i64 avail, .int .i64 mark, .slice p out.length (c + out.length)] 38)).heap.size (w.alloc (.cells #[.int .i64 key, .int .i64 avail, .int .i64 mark, .slice p out.length (c + out.length)] 38))).alloc (Nat.le_refl _) (.cells #[.int .i64 avail] 3)
  simp only [rowVal] at *
  have HH := Lib.hid hr
  have HB := Lib.hid hb
  have HX := Lib.hid hbx
  have HO := Lib.hid hO
  have HB1 := Lib.hid hb1
  clear h hb hr hbx hO hb1 h00
  go_enter Try.func20, Try.ntmps20
  go_wp2
  have hsz : (w.alloc (.cells #[.int .i64 key, .int .i64 avail, .int .i64 mark, .slice p out.length (c + out.length)] 38)).heap.size = w.heap.size + 1 := by simp
  generalize w.alloc (.cells #[.int .i64 key, .int .i64 avail, .int .i64 mark, .slice p out.length (c + out.length)] 38) = w1 at *
  have HZ := Lib.hid hsz
  clear hsz
  go_loopw [3, 4] (fun v i wr => ∃ j : Nat, j ≤ out.length ∧ i = .int .i64 (j : Int) ∧ Hid (OwnI w1.heap.size wr v (F j)) ∧ Below w1.heap.size w1 wr) (fun _ i _ => out.length - (intOf i).toNat)
  case atStart => exact ⟨0, by omega, rfl, HO, HB1.out⟩
  case round =>
    obtain ⟨j, hj, rfl, hown, hbw⟩ := hrel
    obtain ⟨-, -, -, c3, -⟩ := row_cells ((hbw.block _ (lt_of_heap HX.out)).trans HX.out)
    by_cases hlt : j < out.length
    · obtain ⟨b, o, rfl, -, k1⟩ := leases_some (HH.out.below hbw) hlt
      have hlt' : (j : Int) < (out.length : Int) := by omega
      have hlen := (HL j).out (by omega)
      have HSJ := Lib.hid ((HS j).out hlt)
      have HW := Lib.hid hown.out
      unfold OwnI at HW
      have hBr : w1.heap.size ≤ wr.heap.size := hbw.size
      generalize (out.getD j (0, 0)).2 = x at *
      clear hown
      go_wp2_with (at_builtin; refine wpList_append_own _ rfl (.tmp 15) (.tmp 22) 46 rfl w1.heap.size 3 i0 (.int .i64 0) 1 8 Try.underlying46 hi hz0 hz1 hz2 rfl (by decide) _ _ _ rfl (HW.out.alloc _) ⟨wr.heap.size, 0, none⟩ 1 1 [.int .i64 x] rfl rfl ?c1 ?c2 ?c3 ?c4 ?c5 ?_)
      case c1 => intro j u hj; match j, hj with | 0, hj => simp at hj; subst hj; simp [Addr.add]
      case c2 => intro u hu; simp at hu; subst hu; rfl
      case c3 => unfold maxLen; omega
      case c4 => omega
      case c5 => simp; omega
      intro v' w2 ho hg _
      have ho' : OwnI w1.heap.size w2 v' (F (j + 1)) := by
        rw [HSJ.out]
        refine OwnI.app (n := 1) (xs := [x]) ?_ rfl
        rw [hlen]
        exact ho
      have hb2 := (hbw.alloc hBr _).grown hg (by simp; omega) (fun k hk => (HW.out.lt k hk).1)
      have R := Lib.hid ho'
      clear hg ho ho' HW
      go_wp2
      go_roundw
      case rel => exact ⟨j + 1, by omega, by go_num, R, hb2⟩
      case measure => simp [intOf]; omega
    · obtain rfl : j = out.length := by omega
      obtain ⟨pv, cv, rfl, hints⟩ := hown.out.ints
      have hadd := radd_any (F out.length) pv cv wr (by rw [(HL _).out (Nat.le_refl _)]; omega) hints
      rw [← HT.out] at hadd
      generalize (F out.length).length = n at *
      clear hown hints
      go_wp2_with (go_at_call 48; (with_reducible refine hadd.mono ?_); rintro e w' ⟨rfl, rfl⟩; clear hadd)
      go_ret
      exact ⟨rfl, HB.out.trans (hbw.mono HB.out.size)⟩
end Go.Proofs.Ytcnnepmhdccipaa.Ledger
