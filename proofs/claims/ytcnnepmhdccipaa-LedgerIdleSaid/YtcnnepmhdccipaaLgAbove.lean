/-
  The program's above, of any rows of up to 1000.
-/
import Derived.Test.YtcnnepmhdccipaaLgWords
namespace Go.Proofs.Ytcnnepmhdccipaa.Ledger
open Go.RowKit
open _root_.Go.Proofs.Ytcnnepmhdccipaa.Frame (Rw Tb noRow LeasesAt cell_on)

/-- Where the first row of a greater key stands; behind the last one: none. -/
def gt (l : List Rw) (key : Int) : Nat := if spot (fun r : Rw => decide (key < r.key)) l < 0 then l.length else (spot (fun r : Rw => decide (key < r.key)) l).toNat
theorem gt_at {l : List Rw} {key : Int} {j : Nat} (hj : j < l.length) (h : ∀ i, i < j → (l.getD i noRow).key ≤ key) (h1 : key < (l.getD j noRow).key) : gt l key = j := by
  have e : spot (fun r : Rw => decide (key < r.key)) l = (j : Int) := spot_at _ noRow l j hj (fun i hi => by have := h i hi; simpa using this) (by simpa using h1)
  unfold gt
  rw [e, if_neg (by omega), Int.toNat_natCast]
theorem gt_none {l : List Rw} {key : Int} (h : ∀ i, i < l.length → (l.getD i noRow).key ≤ key) : gt l key = l.length := by
  have e : spot (fun r : Rw => decide (key < r.key)) l = -1 := spot_none _ noRow l fun i hi => by have := h i hi; simpa using this
  unfold gt
  rw [e, if_pos (by omega)]
set_option maxRecDepth 100000 in
theorem above_any (l : List Rw) (p : Option Addr) (c : Nat) (key : Int) (w : World) (h : RowsAt w p l) (hl : l.length ≤ 1000) :
    Calls Try.prog 68 #[.slice p l.length c, .int .i64 key] w fun e w' => e = .returned (.int .i64 (gt l key : Nat)) ∧ Below w.heap.size w w' := by
  have HH := Lib.hid h
  have tri : Hid (∀ j : Nat, (j ≤ l.length ∧ ∀ i, i < j → (l.getD i noRow).key ≤ key) → (j = l.length → Hid (gt l key = j)) ∧ (j < l.length → key < (l.getD j noRow).key → Hid (gt l key = j))) := fun j ⟨hj, hn⟩ =>
    ⟨fun e => by subst e; exact gt_none hn, fun h1 h2 => gt_at h1 hn h2⟩
  generalize gt l key = R at *
  clear h
  go_enter Try.func68, Try.ntmps68
  go_wp2
  go_loopw [9] (fun i wr => ∃ j : Nat, j ≤ l.length ∧ i = .int .i64 (j : Int) ∧ Hid (∀ i, i < j → (l.getD i noRow).key ≤ key) ∧ Below w.heap.size w wr) (fun i _ => l.length - (intOf i).toNat)
  case atStart => exact ⟨0, by omega, rfl, (fun i hi => by omega), Below.refl _ _⟩
  case round =>
    obtain ⟨j, hj, rfl, hne, hbw⟩ := hrel
    obtain ⟨t1, t2⟩ := tri.out j ⟨hj, hne.out⟩
    by_cases hlt : j < l.length
    · obtain ⟨b, o, rfl, x0', x1', x2', px, cx, x3', -⟩ := rows_some HH.out hlt
      have x0 := cell_on x0' hbw
      have x1 := cell_on x1' hbw
      have x2 := cell_on x2' hbw
      have x3 := cell_on x3' hbw
      have hlt' : (j : Int) < (l.length : Int) := by omega
      have HBW := Lib.hid hbw
      by_cases hk : key < (l.getD j noRow).key
      · have hR := t2 hlt hk
        clear tri t1 t2 hne x0' x1' x2' x3' hbw HH
        generalize l.getD j noRow = x at *
        go_wp2
        go_ret
        exact ⟨by rw [hR.out]; rfl, HBW.out.alloc HBW.out.size _⟩
      · have HN : Hid (∀ i, i < j + 1 → (l.getD i noRow).key ≤ key) := fun i hi => by
          by_cases e : i < j
          · exact hne.out i e
          · rw [show i = j by omega]; omega
        clear tri t1 t2 hne x0' x1' x2' x3' hbw HH
        generalize l.getD j noRow = x at *
        have HBA := Lib.hid (HBW.out.alloc HBW.out.size (.cells #[.int .i64 x.key, .int .i64 x.avail, .int .i64 x.mark, .slice px x.out.length (cx + x.out.length)] 38))
        go_wp2
        go_roundw
        case rel => exact ⟨j + 1, by omega, by go_num, HN, HBA.out⟩
        case measure => simp only [intOf]; omega
    · obtain rfl : j = l.length := by omega
      have hR := t1 rfl
      have HBW := Lib.hid hbw
      clear tri t1 t2 hne HH hbw
      go_wp2
      go_ret
      exact ⟨by rw [hR.out]; rfl, HBW.out⟩
end Go.Proofs.Ytcnnepmhdccipaa.Ledger
