/-
  Acts of annonalaw15 in a row; its Fits.
-/
import Derived.Test.YtkdjhphakopfeaaRelayStep
namespace Go.Proofs.Ytkdjhphakopfeaa.Relay
open Go.RowKit
open _root_.Go.Proofs.Ytkdjhphakopfeaa.Codec (lt_of_heap frozen_of heap_set below_new Ints)
open _root_.Go.Proofs.Ytkdjhphakopfeaa.Frame (Fr Tk Tb Rw frameOk Lying frameVal fitsTk fits_any)
open _root_.Go.Proofs.Ytkdjhphakopfeaa.Kit (Kept Off cell_on below_drewN)

def zA : Ac := ⟨0, noFr, 0, 0⟩
/-- An act's fourteen cells. -/
def cells14 (a : Ac) (ps p : Option Addr) (cs c : Nat) : Nat → Value
  | 0 => .int .u8 a.kind
  | 1 => .int .i64 a.f.kind
  | 2 => .int .i64 a.f.src
  | 3 => .int .i64 a.f.dst
  | 4 => .int .i64 a.f.gen
  | 5 => .int .i64 a.f.hop
  | 6 => .int .u64 a.f.bits
  | 7 => .int .i64 a.f.token.gen
  | 8 => .int .i64 a.f.token.hop
  | 9 => .slice ps a.f.token.stamps.length cs
  | 10 => .int .i64 a.f.token.table.start
  | 11 => .slice p a.f.token.table.rows.length c
  | 12 => .int .i64 a.gen
  | _ => .int .i64 a.hop
/-- An act at a place. -/
def ActAt (w : World) (b o : Nat) (a : Ac) : Prop := ∃ ps p cs c, (∀ k, k < 14 → w.cell? ⟨b, o + k, none⟩ = some (cells14 a ps p cs c k)) ∧ Lying w a.f ps p
/-- Acts in a row. -/
def ActsAt (w : World) (p : Option Addr) (l : List Ac) : Prop := l = [] ∨ ∃ b o, p = some ⟨b, o, none⟩ ∧ ∀ j, j < l.length → ActAt w b (o + j * 14) (l.getD j zA)
theorem ActsAt.at {w : World} {p : Option Addr} {l : List Ac} (h : ActsAt w p l) {j : Nat} (hj : j < l.length) : ∃ b o, p = some ⟨b, o, none⟩ ∧ ActAt w b (o + j * 14) (l.getD j zA) := by
  rcases h with rfl | ⟨b, o, e, hc⟩
  · cases hj
  · exact ⟨b, o, e, hc j hj⟩
/-- The cells of one, in any later world. -/
theorem at14 {w u : World} {b o : Nat} {a : Ac} {ps p : Option Addr} {cs c : Nat} (h : ∀ k, k < 14 → w.cell? ⟨b, o + k, none⟩ = some (cells14 a ps p cs c k)) (hb : Below w.heap.size w u) :
    u.cell? ⟨b, o, none⟩ = some (.int .u8 a.kind) ∧ u.cell? ⟨b, o + 1, none⟩ = some (.int .i64 a.f.kind) ∧ u.cell? ⟨b, o + 2, none⟩ = some (.int .i64 a.f.src) ∧ u.cell? ⟨b, o + 3, none⟩ = some (.int .i64 a.f.dst) ∧ u.cell? ⟨b, o + 4, none⟩ = some (.int .i64 a.f.gen) ∧ u.cell? ⟨b, o + 5, none⟩ = some (.int .i64 a.f.hop) ∧ u.cell? ⟨b, o + 6, none⟩ = some (.int .u64 a.f.bits) ∧
      u.cell? ⟨b, o + 7, none⟩ = some (.int .i64 a.f.token.gen) ∧ u.cell? ⟨b, o + 8, none⟩ = some (.int .i64 a.f.token.hop) ∧ u.cell? ⟨b, o + 9, none⟩ = some (.slice ps a.f.token.stamps.length cs) ∧ u.cell? ⟨b, o + 10, none⟩ = some (.int .i64 a.f.token.table.start) ∧ u.cell? ⟨b, o + 11, none⟩ = some (.slice p a.f.token.table.rows.length c) ∧ u.cell? ⟨b, o + 12, none⟩ = some (.int .i64 a.gen) ∧ u.cell? ⟨b, o + 13, none⟩ = some (.int .i64 a.hop) :=
  ⟨cell_on (h 0 (by decide)) hb, cell_on (h 1 (by decide)) hb, cell_on (h 2 (by decide)) hb, cell_on (h 3 (by decide)) hb, cell_on (h 4 (by decide)) hb, cell_on (h 5 (by decide)) hb, cell_on (h 6 (by decide)) hb, cell_on (h 7 (by decide)) hb, cell_on (h 8 (by decide)) hb, cell_on (h 9 (by decide)) hb, cell_on (h 10 (by decide)) hb, cell_on (h 11 (by decide)) hb, cell_on (h 12 (by decide)) hb, cell_on (h 13 (by decide)) hb⟩
theorem lying_on {w u : World} {f : Fr} {ps p : Option Addr} (h : Lying w f ps p) (hb : Below w.heap.size w u) : Lying u f ps p := ((lyF_of h).on ⟨hb.size, fun g _ hg => hb.block g hg⟩).now
theorem ActsAt.below {w u : World} {p : Option Addr} {l : List Ac} (h : ActsAt w p l) (hb : Below w.heap.size w u) : ActsAt u p l := by
  rcases h with h | ⟨b, o, e, hc⟩
  · exact .inl h
  · refine .inr ⟨b, o, e, fun j hj => ?_⟩
    obtain ⟨ps, q, cs, c, h14, hly⟩ := hc j hj
    exact ⟨ps, q, cs, c, fun k hk => cell_on (h14 k hk) hb, lying_on hly hb⟩
theorem next_fit {l : List Ac} {j : Nat} (h : ∀ k, k < j → fitsTk (l.getD k zA).f.token = true) (e : fitsTk (l.getD j zA).f.token = true) : ∀ k, k < j + 1 → fitsTk (l.getD k zA).f.token = true := by
  intro k hk
  by_cases hkj : k < j
  · exact h k hkj
  · obtain rfl : k = j := by omega
    exact e
set_option maxRecDepth 100000 in
set_option maxHeartbeats 8000000 in
theorem acts_fit (W : World) (p : Option Addr) (c : Nat) (l : List Ac) (ha : ActsAt W p l) (hl : (l.length : Int) ≤ 9223372036854775807) :
    Calls Try.prog 5 #[.slice p l.length c] W fun e w' => ∃ b, e = .returned (.bool b) ∧ (b = true → l.length ≤ 60 ∧ ∀ j, j < l.length → fitsTk (l.getD j zA).f.token = true) ∧ Below W.heap.size W w' := by
  have HA := Lib.hid ha
  have HB := Lib.hid (Below.refl W.heap.size W)
  clear ha
  go_enter Try.func5, Try.ntmps5
  go_wp2
  go_loopw [3] (fun i wr => ∃ j : Nat, j ≤ l.length ∧ j ≤ 61 ∧ i = .int .i64 (j : Int) ∧ Hid (Below W.heap.size W wr) ∧ Hid (∀ k, k < j → fitsTk (l.getD k zA).f.token = true)) (fun i _ => l.length - (intOf i).toNat)
  case atStart => exact ⟨0, by omega, by omega, rfl, HB, Lib.hid (fun k hk => absurd hk (by omega))⟩
  case round =>
    obtain ⟨j, hj, hj2, rfl, L1, Q1⟩ := hrel
    by_cases hlt : j < l.length
    · have hlt' : (j : Int) < (l.length : Int) := by omega
      by_cases hm : j ≤ 60
      · have hm' : (j : Int) ≤ 60 := by omega
        obtain ⟨b, o, rfl, ps, q, cs, c', h14, hly⟩ := HA.out.at hlt
        have HX := Lib.hid (fun u (hu : Below W.heap.size W u) => at14 h14 hu)
        have HY := Lib.hid (fun u (hu : Below W.heap.size W u) => fits_any (l.getD j zA).f ps q cs c' u (lying_on hly hu))
        have HQ := Lib.hid (fun (e : fitsTk (l.getD j zA).f.token = true) => next_fit Q1.out e)
        obtain ⟨y0, y1, y2, y3, y4, y5, y6, y7, y8, y9, y10, y11, y12, y13⟩ := HX.out _ L1.out
        simp only [frameVal] at HY
        clear h14 hly Q1 HA HX
        generalize l.getD j zA = a at *
        have hw : fitsTk a.f.token = true ∨ fitsTk a.f.token = false := by cases fitsTk a.f.token <;> simp
        have CY := Lib.hid (HY.out _ L1.out)
        clear HY
        rcases hw with hw | hw
        · rw [hw] at CY HQ
          clear hw
          go_wp2_with (go_at_call 14; (with_reducible refine CY.out.mono ?_); rintro e u1 ⟨rfl, hb⟩; have L2 := Lib.hid (L1.out.trans (hb.mono L1.out.size)); clear hb CY)
          go_roundw
          case rel => exact ⟨j + 1, by omega, by omega, by go_num, L2, Lib.hid (HQ.out trivial)⟩
          case measure => simp only [intOf]; omega
        · rw [hw] at CY
          clear hw
          go_wp2_with (go_at_call 14; (with_reducible refine CY.out.mono ?_); rintro e u1 ⟨rfl, hb⟩; have L2 := Lib.hid (L1.out.trans (hb.mono L1.out.size)); clear hb CY)
          go_ret
          exact ⟨false, rfl, fun h => (by cases h), L2.out⟩
      · have hm' : ¬ (j : Int) ≤ 60 := by omega
        have h60 : ¬ (l.length : Int) ≤ 60 := by omega
        go_wp2
        go_ret
        exact .inl ⟨rfl, L1.out⟩
    · have hlt' : ¬ (j : Int) < (l.length : Int) := by omega
      obtain rfl : j = l.length := by omega
      have HW := Lib.hid hj2
      clear HA
      by_cases h60 : (l.length : Int) ≤ 60
      · go_wp2
        go_ret
        exact .inr ⟨rfl, ⟨by omega, fun j hj => Q1.out j hj⟩, L1.out⟩
      · go_wp2
        go_ret
        exact .inl ⟨rfl, L1.out⟩
end Go.Proofs.Ytkdjhphakopfeaa.Relay
