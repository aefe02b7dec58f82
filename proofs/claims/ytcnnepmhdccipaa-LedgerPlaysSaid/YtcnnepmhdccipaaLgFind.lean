/-
  The program's Find, Look, of any rows of up to 1000, with where their leases lie.
-/
import Derived.Test.YtcnnepmhdccipaaLgAt
import Derived.Test.YtcnnepmhdccipaaLgRow
import Derived.Laws.Cover1
namespace Go.Proofs.Ytcnnepmhdccipaa.Ledger
open Go.RowKit
open _root_.Go.Proofs.Ytcnnepmhdccipaa.Frame (Rw Tb noRow LeasesAt cell_on)
open _root_.Go.Proofs.Ytcnnepmhdccipaa.Codec (own_below own_lower lt_of_heap frozen_of heap_set)
open _root_.Go.Proofs.Ytcnnepmhdccipaa.Sat (fit add sub mul fit_lo fit_hi fit_self fit_fit fit_any sub_any mul_any add2 add_lo add_hi)

/-- A row's value. -/
def rpVal (x : Rp) : Value := rowVal x.1 x.2.1 x.2.2
/-- A key's row, and where its leases lie. -/
def foundP (start : Int) (m : List Rp) (key : Int) : Rp := if place (m.map (·.1)) key < 0 then (⟨key, 0, start, []⟩, (none, 0)) else m.getD (place (m.map (·.1)) key).toNat noRp
theorem foundP_row (t : Tb) (m : List Rp) (key : Int) (h : m.map (·.1) = t.rows) : (foundP t.start m key).1 = findRow t key := by
  unfold foundP findRow
  rw [h]
  split
  · rfl
  · rw [← h]
    generalize (place (m.map (·.1)) key).toNat = j
    by_cases hj : j < m.length
    · simp [List.getD, hj]
    · simp [List.getD, hj, noRp]
theorem foundP_in (start : Int) (m : List Rp) (key : Int) : foundP start m key = (⟨key, 0, start, []⟩, (none, 0)) ∨ foundP start m key ∈ m := by
  unfold foundP
  split
  · exact .inl rfl
  · rename_i h
    rcases pat_cases (m.map (·.1)) key with ⟨h1, -⟩ | ⟨j, h1, -, h2, -⟩
    · omega
    · right
      rw [h1, Int.toNat_natCast]
      have h2' : j < m.length := by simpa using h2
      simp [List.getD, h2']
theorem below4 {B : Nat} {w u : World} {g : Nat} (h : Below B w u) (hg : B ≤ g) (v0 v1 v2 v3 : Value) : Below B w ((((u.setCell ⟨g, 0, none⟩ v0).setCell ⟨g, 1, none⟩ v1).setCell ⟨g, 2, none⟩ v2).setCell ⟨g, 3, none⟩ v3) := (((h.setCell hg _).setCell hg _).setCell hg _).setCell hg _
theorem below2 {B : Nat} {w u : World} {g : Nat} (h : Below B w u) (hg : B ≤ g) (v0 v1 : Value) : Below B w ((u.setCell ⟨g, 0, none⟩ v0).setCell ⟨g, 1, none⟩ v1) := (h.setCell hg _).setCell hg _
/-- A row that lies. -/
theorem lay_row {w : World} {p : Option Addr} {m : List Rp} (h : Lay w p (cellsR m)) {j : Nat} (hj : j < m.length) : ∃ b o, p = some ⟨b, o, none⟩ ∧ w.cell? ⟨b, o + j * 4, none⟩ = some (.int .i64 m[j].1.key) ∧ w.cell? ⟨b, o + j * 4 + 1, none⟩ = some (.int .i64 m[j].1.avail) ∧ w.cell? ⟨b, o + j * 4 + 2, none⟩ = some (.int .i64 m[j].1.mark) ∧ w.cell? ⟨b, o + j * 4 + 3, none⟩ = some (.slice m[j].2.1 m[j].1.out.length (m[j].2.2 + m[j].1.out.length)) := by
  rcases h with h | ⟨b, o, e, hc⟩
  · have : (cellsR m).length = 0 := by rw [h]; rfl
    rw [cellsR_len] at this
    omega
  · exact ⟨b, o, e, rows_range hc j hj⟩

set_option maxRecDepth 100000 in
set_option maxHeartbeats 1000000 in
theorem pfind_any (start : Int) (m : List Rp) (p : Option Addr) (c : Nat) (key : Int) (w : World) (hl : m.length ≤ 1000) (h : RowsAt w p (m.map (·.1))) (hm : Lay w p (cellsR m)) :
    Calls Try.prog 11 #[.agg #[.int .i64 start, .slice p m.length (c + m.length)], .int .i64 key] w fun e w' => e = .returned (.tuple #[rpVal (foundP start m key), .bool (decide (0 ≤ place (m.map (·.1)) key))]) ∧ Below w.heap.size w w' := by
  have hat := fun u (hb : Below w.heap.size w u) => pat_any (m.map (·.1)) p (c + m.length) key u (h.below hb) (by simpa using hl)
  have hlen : (m.map (·.1)).length = m.length := by simp
  rw [hlen] at hat
  have M0 := Lib.hid (((Mem.start w).box #[.int .i64 start, .slice p m.length (c + m.length)] 24).box #[.int .i64 0, .int .i64 0, .int .i64 0, .slice none 0 0] 38)
  simp only [size_alloc] at M0
  have HM := Lib.hid (hm.on M0.out.below)
  obtain ⟨t0, t1, -⟩ := box2 (M0.out.boxes 1 _ _ _ rfl)
  obtain ⟨d0, d1, d2, d3, ff⟩ := box4 (M0.out.boxes 0 _ _ _ rfl)
  have f0 := ff 0
  have f1 := ff 1
  have f2 := ff 2
  have f3 := ff 3
  clear ff h hm
  rcases pat_cases (m.map (·.1)) key with ⟨hp, hq, -⟩ | ⟨j, hp, hq, hj, -⟩
  · have hF : foundP start m key = (⟨key, 0, start, []⟩, (none, 0)) := by unfold foundP; rw [hp, if_pos (by omega)]
    rw [hF, hp]
    rw [hq, hlen] at hat
    have hat1 := hat _ M0.out.below
    clear hat hp hq hF
    go_enter Try.func11, Try.ntmps11
    go_wp2_with (go_at_call 37; (with_reducible refine hat1.mono ?_); rintro e u ⟨rfl, rfl⟩)
    refine bodyPost_ret (v := .tuple #[.agg #[.int .i64 key, .int .i64 0, .int .i64 start, .slice none 0 0], .bool false]) (by simp [results, Try.results11, go_sem, d0, d1, d2, d3]) rfl ⟨rfl, ?_⟩
    exact ((Below.refl _ _).alloc (Nat.le_refl _) _).alloc (by simp) _
  · rw [hlen] at hj
    have hF : foundP start m key = m[j] := by unfold foundP; rw [hp, if_neg (by omega), Int.toNat_natCast]; simp [List.getD, hj]
    rw [hF, hp]
    rw [hq] at hat
    obtain ⟨b, o, rfl, x0, x1, x2, x3⟩ := lay_row HM.out hj
    have hj' : (j : Int) < (m.length : Int) := by omega
    have hat1 := hat _ M0.out.below
    generalize m[j] = x at *
    obtain ⟨⟨xk, xa, xm, xo⟩, px, cx⟩ := x
    simp only [rpVal, rowVal] at *
    generalize xo.length = nx at *
    generalize m.length = nm at *
    clear hat hp hq hF HM hlen hl
    go_enter Try.func11, Try.ntmps11
    go_wp2_with (go_at_call 37; (with_reducible refine hat1.mono ?_); rintro e u ⟨rfl, rfl⟩)
    refine bodyPost_ret (v := .tuple #[.agg #[.int .i64 xk, .int .i64 xa, .int .i64 xm, .slice px nx (cx + nx)], .bool true]) (by simp [results, Try.results11, go_sem, d0, d1, d2, d3]) rfl ⟨by simp, ?_⟩
    exact ((Below.refl _ _).alloc (Nat.le_refl _) _).alloc (by simp) _
end Go.Proofs.Ytcnnepmhdccipaa.Ledger
