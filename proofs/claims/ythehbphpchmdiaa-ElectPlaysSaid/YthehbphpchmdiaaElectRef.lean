/-
  The document's election: in, majority, wins, Raise, Take, Stand, New.
-/
import Derived.Test.YthehbphpchmdiaaElectPlain
import Derived.Test.YthehbphpchmdiaaConfNums
import Derived.Test.YthehbphpchmdiaaKit
import Derived.Deep.RegionHeld3
import Derived.Deep.QuietTactic
import Derived.BigQuiet
namespace Go.Proofs.Ythehbphpchmdiaa.Elect
open Go.RowKit
open _root_.Go.Proofs.Ythehbphpchmdiaa.Codec (lt_of_heap frozen_of heap_set below_new)
open _root_.Go.Proofs.Ythehbphpchmdiaa.Kit (cell_on lt_heap below_drewN)
open _root_.Go.Proofs.Ythehbphpchmdiaa.Ring (has put okRing)

theorem lay (w : World) (o : Obj) : Below w.heap.size w (w.alloc o) := (Below.refl _ w).alloc (Nat.le_refl _) o
theorem undrewE {w w' : World} (h : Below w.drew.heap.size w.drew w') : Below w.heap.size w w' := ⟨h.os, h.tape, h.output, h.size, h.block⟩
/-- The document's election. -/
def Re (w : World) (v : Nat) (e : El) : Prop := w.heap[v]? = some (.cells #[.int .i64 e.n, .int .i64 e.node, .int .i64 e.promised, .int .i64 e.round, .int .i64 e.ballot, .int .u64 e.bits] 38 (0, 0))
/-- The document's step: its block alone, and new ones. -/
structure RStep (w : World) (v : Nat) (e : El) (w' : World) : Prop where
  re : Re w' v e
  only : ∀ g, g ≠ v → g < w.heap.size → w'.heap[g]? = w.heap[g]?
  below : Below v w w'
section
variable {w w' u : World} {v : Nat} {e e' : El}
theorem Re.lt (h : Re w v e) : v < w.heap.size := lt_of_heap h
theorem Re.below (h : Re w v e) (hb : Below w.heap.size w w') : Re w' v e := (hb.block v h.lt).trans h
theorem Re.cell (h : Re w v e) : w.cell? ⟨v, 0, none⟩ = some (.int .i64 e.n) ∧ w.cell? ⟨v, 1, none⟩ = some (.int .i64 e.node) ∧ w.cell? ⟨v, 2, none⟩ = some (.int .i64 e.promised) ∧ w.cell? ⟨v, 3, none⟩ = some (.int .i64 e.round) ∧ w.cell? ⟨v, 4, none⟩ = some (.int .i64 e.ballot) ∧ w.cell? ⟨v, 5, none⟩ = some (.int .u64 e.bits) ∧ ∀ o, w.frozen? ⟨v, o, none⟩ = false :=
  ⟨by rw [cell_of_row w v 0 _ _ (0, 0) h]; rfl, by rw [cell_of_row w v 1 _ _ (0, 0) h]; rfl, by rw [cell_of_row w v 2 _ _ (0, 0) h]; rfl, by rw [cell_of_row w v 3 _ _ (0, 0) h]; rfl, by rw [cell_of_row w v 4 _ _ (0, 0) h]; rfl, by rw [cell_of_row w v 5 _ _ (0, 0) h]; rfl, fun o => frozen_of h⟩
theorem RStep.same (h : Re w v e) (hb : Below w.heap.size w w') : RStep w v e w' := ⟨h.below hb, fun g _ hg => hb.block g hg, hb.mono (Nat.le_of_lt h.lt)⟩
theorem RStep.trans (h : RStep w v e w') (k : RStep w' v e' u) : RStep w v e' u := ⟨k.re, fun g hn hg => (k.only g hn (Nat.lt_of_lt_of_le hg h.below.size)).trans (h.only g hn hg), h.below.trans k.below⟩
theorem RStep.on (h : RStep w v e w') (hb : Below w'.heap.size w' u) : RStep w v e u := h.trans (RStep.same h.re hb)
/-- A cell of it is written. -/
theorem RStep.set (h : RStep w v e w') {o : Nat} {x : Value} {cs : Array Value} (hc : (#[.int .i64 e.n, .int .i64 e.node, .int .i64 e.promised, .int .i64 e.round, .int .i64 e.ballot, .int .u64 e.bits] : Array Value).set! o x = cs) {e' : El} (he : cs = #[.int .i64 e'.n, .int .i64 e'.node, .int .i64 e'.promised, .int .i64 e'.round, .int .i64 e'.ballot, .int .u64 e'.bits]) : RStep w v e' (w'.setCell ⟨v, o, none⟩ x) := by
  refine ⟨?_, fun g hn hg => (Below.heap_setCell _ _ _ _ hn).trans (h.only g hn hg), h.below.setCell (p := ⟨v, o, none⟩) (Nat.le_refl _) _⟩
  unfold Re
  rw [heap_set v o _ _ h.re, ← he, ← hc]
  simp
end
set_option maxRecDepth 100000 in
theorem rin_any (x : Int) (w : World) : Calls Try.prog 20 #[.int .i64 x] w fun e w' => e = .returned (.bool (in40 x)) ∧ w' = w := by
  have hc : (0 ≤ x ∧ in40 x = decide (x ≤ 1099511627776)) ∨ (¬ 0 ≤ x ∧ in40 x = false) := by
    unfold in40
    by_cases h : 0 ≤ x <;> simp [h]
  rcases hc with ⟨h, e⟩ | ⟨h, e⟩
  · have HE := Lib.hid e
    clear e
    go_enter Try.func20, Try.ntmps20
    go_wp2
    go_ret
    exact ⟨by rw [HE.out]; rfl, rfl⟩
  · have HE := Lib.hid e
    clear e
    go_enter Try.func20, Try.ntmps20
    go_wp2
    go_ret
    exact ⟨by rw [HE.out]; rfl, rfl⟩
set_option maxRecDepth 100000 in
set_option maxHeartbeats 4000000 in
theorem rmajority_any {w : World} {v : Nat} {e : El} (h : Re w v e) (hn : 1 ≤ e.n ∧ e.n ≤ 64) (hb : Set64 e.bits) :
    Calls Try.prog 39 #[.pointer (some ⟨v, 0, none⟩)] w fun x w' => x = .returned (.bool (majority e)) ∧ Below w.heap.size w w' := by
  have HV := Lib.hid h
  have HS := Lib.hid (show ∀ k, cnt e.bits (k + 1) = cnt e.bits k + (if Ring.has e.bits (k : Int) = true then 1 else 0) from fun _ => rfl)
  have HC := Lib.hid (cnt_le e.bits)
  have HH := Lib.hid (fun (i : Int) u => (Ring.refhas_any e.bits i u hb.1))
  have HM := Lib.hid (show majority e = decide (e.n < 2 * (cnt e.bits e.n.toNat : Int)) from rfl)
  have H0 := Lib.hid (show cnt e.bits 0 = 0 from rfl)
  obtain ⟨n0, n1⟩ := hn
  clear h hb
  generalize majority e = R at *
  go_enter Try.func39, Try.ntmps39
  obtain ⟨k0, k1, k2, k3, k4, k5, -⟩ := HV.out.cell
  clear HV
  go_wp2
  go_loop [3, 4] (fun c i => ∃ k : Nat, k ≤ e.n.toNat ∧ i = .int .i64 (k : Int) ∧ c = .int .i64 (cnt e.bits k : Int)) (fun _ i => e.n.toNat - (intOf i).toNat)
  case atStart => exact ⟨0, by omega, rfl, by rw [H0.out]; rfl⟩
  case round =>
    obtain ⟨k, hk, rfl, rfl⟩ := hrel
    have hle := HC.out k
    by_cases hlt : k < e.n.toNat
    · have hlt' : (k : Int) < e.n := by omega
      have hst := HS.out k
      have hh := HH.out (k : Int)
      generalize Ring.has e.bits (k : Int) = b at *
      generalize cnt e.bits k = q at *
      cases b
      · have HST := Lib.hid (show cnt e.bits (k + 1) = q by rw [hst]; simp)
        clear hst HS HC HH HM H0
        go_wp2_with (first | (go_at_call 38; (with_reducible refine (hh _).mono ?_); rintro x w1 ⟨rfl, rfl⟩))
        go_round
        case rel => exact ⟨k + 1, by omega, by go_num, by rw [HST.out]⟩
        case measure => simp only [intOf]; omega
      · have HST := Lib.hid (show cnt e.bits (k + 1) = q + 1 by rw [hst]; simp)
        clear hst HS HC HH HM H0
        go_wp2_with (first | (go_at_call 38; (with_reducible refine (hh _).mono ?_); rintro x w1 ⟨rfl, rfl⟩))
        go_round
        case rel => exact ⟨k + 1, by omega, by go_num, by rw [HST.out]; go_num⟩
        case measure => simp only [intOf]; omega
    · have hlt' : ¬ (k : Int) < e.n := by omega
      obtain rfl : k = e.n.toNat := by omega
      have HM2 := HM.out
      generalize cnt e.bits e.n.toNat = q at *
      clear HS HC HH HM H0
      by_cases hq : e.n < 2 * (q : Int)
      · obtain rfl : R = true := by rw [HM2]; simpa using hq
        clear HM2
        go_wp2
        go_ret
        exact ⟨rfl, Below.refl _ _⟩
      · obtain rfl : R = false := by rw [HM2]; simpa using hq
        clear HM2
        go_wp2
        go_ret
        exact ⟨rfl, Below.refl _ _⟩
set_option maxRecDepth 100000 in
theorem rwins_any {w : World} {v : Nat} {e : El} (h : Re w v e) (hn : 1 ≤ e.n ∧ e.n ≤ 64) (hb : Set64 e.bits) :
    Calls Try.prog 33 #[.pointer (some ⟨v, 0, none⟩)] w fun x w' => x = .returned (.bool (majority e)) ∧ RStep w v (wins e) w' := by
  have HM := Lib.hid (rmajority_any h hn hb)
  have HS := Lib.hid (fun u (hu : Below w.heap.size w u) => RStep.same h hu)
  unfold wins
  cases hm : majority e
  · rw [hm] at HM
    simp only [Bool.false_eq_true, if_false]
    clear hm h hn hb
    go_enter Try.func33, Try.ntmps33
    go_wp2_with (go_at_call 39; (with_reducible refine HM.out.mono ?_); rintro x w1 ⟨rfl, hb⟩; have HB := Lib.hid hb; clear hb HM)
    go_ret
    exact ⟨rfl, HS.out _ HB.out⟩
  · rw [hm] at HM
    simp only [if_true]
    clear hm hn hb
    have HC := Lib.hid (fun u (hu : Below w.heap.size w u) => (h.below hu).cell)
    have HW := Lib.hid (fun u (hu : Below w.heap.size w u) => (RStep.same h hu).set (o := 4) (x := .int .i64 0) rfl (e' := ⟨e.n, e.node, e.promised, e.round, 0, e.bits⟩) rfl)
    clear h
    go_enter Try.func33, Try.ntmps33
    go_wp2_with (go_at_call 39; (with_reducible refine HM.out.mono ?_); rintro x w1 ⟨rfl, hb⟩; have HB := Lib.hid hb; obtain ⟨k0, k1, k2, k3, k4, k5, f0⟩ := HC.out _ hb; clear hb HM)
    go_ret
    exact ⟨rfl, HW.out _ HB.out⟩
set_option maxRecDepth 100000 in
theorem rraise_any {w : World} {v : Nat} {e : El} (h : Re w v e) (gen : Int) :
    Calls Try.prog 23 #[.pointer (some ⟨v, 0, none⟩), .int .i64 gen] w fun x w' => x = .returned (.bool (raise e gen).2) ∧ RStep w v (raise e gen).1 w' := by
  have HI := Lib.hid (fun u => rin_any gen u)
  have HS := Lib.hid (RStep.same h (Below.refl _ _))
  obtain ⟨k0, k1, k2, k3, k4, k5, f0⟩ := h.cell
  by_cases h1 : gen ≤ e.promised
  · have HR := Lib.hid (show raise e gen = (e, false) by unfold raise; rw [if_pos (.inl h1)])
    clear h
    go_enter Try.func23, Try.ntmps23
    go_wp2
    go_ret
    exact ⟨by rw [HR.out]; rfl, by rw [HR.out]; exact HS.out⟩
  · cases hi : in40 gen
    · have HR := Lib.hid (show raise e gen = (e, false) by unfold raise; rw [if_pos (.inr hi)])
      rw [hi] at HI
      clear h hi
      go_enter Try.func23, Try.ntmps23
      go_wp2_with (go_at_call 20; (with_reducible refine (HI.out _).mono ?_); rintro x w1 ⟨rfl, rfl⟩)
      go_ret
      exact ⟨by rw [HR.out]; rfl, by rw [HR.out]; exact HS.out⟩
    · have HR := Lib.hid (show raise e gen = (⟨e.n, e.node, gen, e.round, 0, e.bits⟩, true) by unfold raise; rw [if_neg (by rw [hi]; simp; omega)])
      have HW := Lib.hid (((RStep.same h (Below.refl _ _)).set (o := 2) (x := .int .i64 gen) rfl (e' := ⟨e.n, e.node, gen, e.round, e.ballot, e.bits⟩) rfl).set (o := 4) (x := .int .i64 0) rfl (e' := ⟨e.n, e.node, gen, e.round, 0, e.bits⟩) rfl)
      rw [hi] at HI
      clear h hi
      go_enter Try.func23, Try.ntmps23
      go_wp2_with (go_at_call 20; (with_reducible refine (HI.out _).mono ?_); rintro x w1 ⟨rfl, rfl⟩)
      go_ret
      exact ⟨by rw [HR.out]; rfl, by rw [HR.out]; exact HW.out⟩
end Go.Proofs.Ythehbphpchmdiaa.Elect
