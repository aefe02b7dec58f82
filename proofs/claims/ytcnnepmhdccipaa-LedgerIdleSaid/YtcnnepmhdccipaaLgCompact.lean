/-
  slices.Compact at []int, of numbers that rise: the slice itself; nothing lies otherwise behind it.
-/
import Derived.Test.YtcnnepmhdccipaaLgWords
namespace Go.Proofs.Ytcnnepmhdccipaa.Ledger
open Go.RowKit

set_option maxRecDepth 100000 in
set_option maxHeartbeats 1000000 in
theorem compact_any (zs : List Int) (p : Option Addr) (c : Nat) (w : World) (hl : zs.length ≤ 1000) (hc : ∀ k, k < zs.length → ∃ b o, p = some ⟨b, o, none⟩ ∧ w.cell? ⟨b, o + k, none⟩ = some (.int .i64 (zs.getD k 0))) (hu : ∀ k, k + 1 < zs.length → zs.getD k 0 < zs.getD (k + 1) 0) :
    Calls Try.prog 45 #[.slice p zs.length c] w fun e w' => e = .returned (.slice p zs.length c) ∧ Below w.heap.size w w' := by
  have HC := Lib.hid hc
  have HU := Lib.hid hu
  clear hc hu
  generalize hn : zs.length = n at *
  by_cases h2 : (n : Int) < 2
  · go_enter Try.func45, Try.ntmps45
    go_wp2
    go_ret
    exact ⟨rfl, Below.refl _ _⟩
  · go_enter Try.func45, Try.ntmps45
    go_wp2
    go_loopw [3] (fun v wr => ∃ j : Nat, j + 1 ≤ n ∧ v = .int .i64 ((j : Int) + 1) ∧ Below w.heap.size w wr) (fun v _ => n - (intOf v).toNat)
    case atStart => exact ⟨0, by omega, rfl, Below.refl _ _⟩
    case round =>
      obtain ⟨j, hj, rfl, hbw⟩ := hrel
      by_cases hlt : j + 1 < n
      · obtain ⟨b, o, rfl, x1'⟩ := HC.out (j + 1) (by omega)
        obtain ⟨b', o', e, x0'⟩ := HC.out j (by omega)
        simp only [Option.some.injEq, Addr.mk.injEq, and_true] at e
        obtain ⟨rfl, rfl⟩ := e
        have x1 := Frame.cell_on x1' hbw
        have x0 := Frame.cell_on x0' hbw
        have hne := HU.out j hlt
        generalize zs.getD j 0 = y0 at *
        generalize zs.getD (j + 1) 0 = y1 at *
        have hlt' : (j : Int) + 1 < (n : Int) := by omega
        have hlt2 : (j : Int) < (n : Int) := by omega
        have e1 : IntKind.i64.wrap ((j : Int) + 1 - 1) = (j : Int) := by rw [Int.add_sub_cancel]; exact IntWalk.i64_in _ (by omega)
        have e2 : ((j : Int) + 1).toNat = j + 1 := by omega
        have g1 : (y1 == y0) = false := by simp; omega
        have HBW := Lib.hid hbw
        clear hbw x0' x1'
        go_wp2
        go_quiet (fail)
        go_wp2
        go_roundw
        case rel => exact ⟨j + 1, by omega, by simp, HBW.out.trans ((below_drewN _ _).mono HBW.out.size)⟩
        case measure => simp only [intOf]; omega
      · have hge : ¬ ((j : Int) + 1 < (n : Int)) := by omega
        have HBW := Lib.hid hbw
        clear hbw
        go_wp2
        go_ret
        exact ⟨rfl, HBW.out⟩
end Go.Proofs.Ytcnnepmhdccipaa.Ledger
