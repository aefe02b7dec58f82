/-
  The document's SameTable, SameToken and Same: each returns what the plain functions of FramePlain give, of any two; of what lay when the call began nothing has turned.
-/
import Derived.Test.YtkdjhphakopfeaaFrameSameRow
namespace Go.Proofs.Ytkdjhphakopfeaa.Frame
open Go.RowKit Codec

set_option maxRecDepth 100000 in
set_option maxHeartbeats 1000000 in
theorem sametable_no (s s' : Int) (p p' : Option Addr) (n n' c c' : Nat) (w : World) (h : (s == s' && n == n') = false) :
    Calls Try.prog 43 #[.agg #[.int .i64 s, .slice p n c], .agg #[.int .i64 s', .slice p' n' c']] w (Asked w false) := by
  have fin : Below w.heap.size w ((w.alloc (.cells #[.int .i64 s, .slice p n c] 37)).alloc (.cells #[.int .i64 s', .slice p' n' c'] 37)) := ((Below.refl _ _).alloc (Nat.le_refl _) _).alloc (by simp) _
  cases h1 : (s == s') with
  | false =>
    have d1 : (s != s') = true := by simpa using h1
    clear h h1
    go_enter Try.func43, Try.ntmps43
    go_wp2
    go_ret
    exact ⟨rfl, fin⟩
  | true =>
    rw [h1, Bool.true_and] at h
    have d0 : (s != s') = false := by simpa using h1
    have d1 : ((n : Int) != (n' : Int)) = true := by simp at h ⊢; omega
    clear h h1
    go_enter Try.func43, Try.ntmps43
    go_wp2
    go_ret
    exact ⟨rfl, fin⟩

set_option maxRecDepth 100000 in
set_option maxHeartbeats 2000000 in
theorem sametable_yes (s : Int) (p p' : Option Addr) (l l' : List Rw) (c c' : Nat) (w : World) (hn : (l.length : Int) ≤ 9223372036854775807) (hl : l.length = l'.length) (ha : RowsAt w p l) (hb : RowsAt w p' l') (hs : Small l) :
    Calls Try.prog 43 #[.agg #[.int .i64 s, .slice p l.length c], .agg #[.int .i64 s, .slice p' l.length c']] w (Asked w (allTo (fun i => sameRow (l.getD i noRow) (l'.getD i noRow)) l.length)) := by
  have HLN := Lib.hid hl
  clear hl
  generalize hB : allTo (fun i => sameRow (l.getD i noRow) (l'.getD i noRow)) l.length = R
  have HB := Lib.hid hB
  have HA := Lib.hid ha
  have HBB := Lib.hid hb
  have HS := Lib.hid hs
  clear hB ha hb hs
  have d0 : (s != s) = false := by simp
  go_enter Try.func43, Try.ntmps43
  go_wp2
  generalize hw0 : (w.alloc (.cells #[.int .i64 s, .slice p l.length c] 37)).alloc (.cells #[.int .i64 s, .slice p' l.length c'] 37) = w0
  have b0 : Below w.heap.size w w0 := by rw [← hw0]; exact ((Below.refl _ _).alloc (Nat.le_refl _) _).alloc (by simp) _
  have k3 : w0.cell? ⟨w.heap.size, 1, none⟩ = some (.slice p l.length c) := by
    rw [← hw0, cell_of_row _ _ 1 _ _ (0, 0) ((Below.heap_alloc _ _ _ (by simp)).trans (heap_alloc_new w _))]; rfl
  have k4 : w0.cell? ⟨w.heap.size + 1, 1, none⟩ = some (.slice p' l.length c') := by
    have := heap_alloc_new (w.alloc (.cells #[.int .i64 s, .slice p l.length c] 37)) (.cells #[.int .i64 s, .slice p' l.length c'] 37)
    rw [show (w.alloc (.cells #[.int .i64 s, .slice p l.length c] 37)).heap.size = w.heap.size + 1 by simp] at this
    rw [← hw0, cell_of_row _ _ 1 _ _ (0, 0) this]; rfl
  have HK3 := Lib.hid k3
  have HK4 := Lib.hid k4
  clear hw0 k3 k4 d0
  go_loopw [5] (fun i wr => ∃ j : Nat, j ≤ l.length ∧ i = .int .i64 (j : Int) ∧ Hid (∀ q, q < j → sameRow (l.getD q noRow) (l'.getD q noRow) = true) ∧ Below w0.heap.size w0 wr) (fun i _ => l.length - (intOf i).toNat)
  case atStart => exact ⟨0, by omega, rfl, (by intro q hq; omega), Below.refl _ _⟩
  case round =>
    obtain ⟨j, hj, rfl, hok, hbw⟩ := hrel
    have e3 : wr.cell? ⟨w.heap.size, 1, none⟩ = some (.slice p l.length c) := cell_on HK3.out hbw
    have e4 : wr.cell? ⟨w.heap.size + 1, 1, none⟩ = some (.slice p' l.length c') := cell_on HK4.out hbw
    by_cases hlt : j < l.length
    · obtain ⟨g, o, rfl, hc⟩ : ∃ g o, p = some ⟨g, o, none⟩ ∧ ∀ j, j < l.length → RowAt wr g (o + j * 4) (l.getD j noRow) := by
        rcases (HA.out.below b0).below hbw with h | h
        · rw [h] at hlt; simp at hlt
        · exact h
      obtain ⟨g', o', rfl, hc'⟩ : ∃ g o, p' = some ⟨g, o, none⟩ ∧ ∀ j, j < l'.length → RowAt wr g (o + j * 4) (l'.getD j noRow) := by
        rcases (HBB.out.below b0).below hbw with h | h
        · have := HLN.out; rw [h] at this; simp at this; rw [this] at hlt; simp at hlt
        · exact h
      obtain ⟨f0, f1, f2, q3, r3, f3, hle⟩ := hc j hlt
      obtain ⟨f0', f1', f2', q3', r3', f3', hle'⟩ := hc' j (by rw [← HLN.out]; exact hlt)
      have hro := HS.out (l.getD j noRow) (by simp [List.getD, hlt])
      have hrow := fun (u : World) (hu : Below wr.heap.size wr u) => samerow_any (l.getD j noRow) (l'.getD j noRow) q3 q3' r3 r3' u hro (hle.below hu) (hle'.below hu)
      have hlt' : (j : Int) < (l.length : Int) := by omega
      clear hc hc'
      have HJ := Lib.hid (show ∀ bo, sameRow (l.getD j noRow) (l'.getD j noRow) = bo → (bo = false → R = false) ∧ (bo = true → ∀ q, q < j + 1 → sameRow (l.getD q noRow) (l'.getD q noRow) = true) from fun bo hbo =>
        ⟨fun h => by rw [← HB.out]; exact allTo_false hlt (by rw [hbo]; exact h), fun h q hq => by
          rcases Nat.lt_succ_iff_lt_or_eq.1 hq with h1 | h1
          · exact hok.out q h1
          · rw [h1, hbo]; exact h⟩)
      generalize l.getD j noRow = x at f0 f1 f2 f3 hle hro hrow HJ
      generalize l'.getD j noRow = y at f0' f1' f2' f3' hle' hrow HJ
      obtain ⟨x0, x1, x2, x3⟩ := x
      obtain ⟨y0, y1, y2, y3⟩ := y
      simp only at f0 f1 f2 f3 f0' f1' f2' f3' hrow
      clear hle hle' hro
      have HJ2 := Lib.hid (HJ.out _ rfl)
      clear HJ
      generalize sameRow ⟨x0, x1, x2, x3⟩ ⟨y0, y1, y2, y3⟩ = br at hrow HJ2
      go_wp2
      go_region_held3 (fun u => u.cell? ⟨w.heap.size, 1, none⟩ = some (.slice (some ⟨g, o, none⟩) l.length c) ∧ u.cell? ⟨w.heap.size + 1, 1, none⟩ = some (.slice (some ⟨g', o', none⟩) l.length c') ∧ u.cell? ⟨g, o + j * 4, none⟩ = some (.int .i64 x0) ∧ u.cell? ⟨g, o + j * 4 + 1, none⟩ = some (.int .i64 x1) ∧ u.cell? ⟨g, o + j * 4 + 2, none⟩ = some (.int .i64 x2) ∧ u.cell? ⟨g, o + j * 4 + 3, none⟩ = some (.slice q3 x3.length r3) ∧ u.cell? ⟨g', o' + j * 4, none⟩ = some (.int .i64 y0) ∧ u.cell? ⟨g', o' + j * 4 + 1, none⟩ = some (.int .i64 y1) ∧ u.cell? ⟨g', o' + j * 4 + 2, none⟩ = some (.int .i64 y2) ∧ u.cell? ⟨g', o' + j * 4 + 3, none⟩ = some (.slice q3' y3.length r3')) (first | assumption | exact ⟨e3, e4, f0, f1, f2, f3, f0', f1', f2', f3'⟩) (first
        | (go_at_call 57; (with_reducible refine (hrow _ (Below.refl _ _).drew).mono ?_); rintro e u1 ⟨rfl, hb1⟩; have HB1 := Lib.hid (undrew hb1); clear hb1; have s1 : u1.cell? ⟨w.heap.size, 1, none⟩ = some (.slice (some ⟨g, o, none⟩) l.length c) ∧ u1.cell? ⟨w.heap.size + 1, 1, none⟩ = some (.slice (some ⟨g', o', none⟩) l.length c') ∧ u1.cell? ⟨g, o + j * 4, none⟩ = some (.int .i64 x0) ∧ u1.cell? ⟨g, o + j * 4 + 1, none⟩ = some (.int .i64 x1) ∧ u1.cell? ⟨g, o + j * 4 + 2, none⟩ = some (.int .i64 x2) ∧ u1.cell? ⟨g, o + j * 4 + 3, none⟩ = some (.slice q3 x3.length r3) ∧ u1.cell? ⟨g', o' + j * 4, none⟩ = some (.int .i64 y0) ∧ u1.cell? ⟨g', o' + j * 4 + 1, none⟩ = some (.int .i64 y1) ∧ u1.cell? ⟨g', o' + j * 4 + 2, none⟩ = some (.int .i64 y2) ∧ u1.cell? ⟨g', o' + j * 4 + 3, none⟩ = some (.slice q3' y3.length r3') := ⟨cell_on e3 HB1.out, cell_on e4 HB1.out, cell_on f0 HB1.out, cell_on f1 HB1.out, cell_on f2 HB1.out, cell_on f3 HB1.out, cell_on f0' HB1.out, cell_on f1' HB1.out, cell_on f2' HB1.out, cell_on f3' HB1.out⟩))
      have hb2 : Below w0.heap.size w0 u1 := hbw.trans (HB1.out.mono hbw.size)
      clear s1 hrow
      cases br with
      | true =>
        have HK := Lib.hid (HJ2.out.2 rfl)
        clear HJ2
        go_wp2
        go_roundw
        case rel => exact ⟨j + 1, by omega, by go_num, HK, hb2⟩
        case measure => simp [intOf]; omega
      | false =>
        obtain rfl := HJ2.out.1 rfl
        clear HJ2
        go_wp2
        go_ret
        exact ⟨rfl, b0.trans (hb2.mono b0.size)⟩
    · obtain rfl : j = l.length := by omega
      obtain rfl : R = true := by rw [← HB.out]; exact allTo_true hok.out
      go_wp2
      go_ret
      exact ⟨rfl, b0.trans (hbw.mono b0.size)⟩

/-- SameTable, of any two. -/
theorem sametable_any (a b : Tb) (p p' : Option Addr) (c c' : Nat) (w : World) (hn : (a.rows.length : Int) ≤ 9223372036854775807) (ha : RowsAt w p a.rows) (hb : RowsAt w p' b.rows) (hs : Small a.rows) :
    Calls Try.prog 43 #[.agg #[.int .i64 a.start, .slice p a.rows.length c], .agg #[.int .i64 b.start, .slice p' b.rows.length c']] w (Asked w (sameTable a b)) := by
  unfold sameTable
  cases h : (a.start == b.start && a.rows.length == b.rows.length) with
  | false =>
    rw [Bool.false_and]
    exact sametable_no _ _ _ _ _ _ _ _ _ h
  | true =>
    rw [Bool.true_and]
    rw [Bool.and_eq_true] at h
    have e0 : a.start = b.start := by simpa using h.1
    have e1 : a.rows.length = b.rows.length := by simpa using h.2
    rw [← e0, ← e1]
    exact sametable_yes _ _ _ _ _ _ _ _ hn e1 ha hb hs
end Go.Proofs.Ytkdjhphakopfeaa.Frame
