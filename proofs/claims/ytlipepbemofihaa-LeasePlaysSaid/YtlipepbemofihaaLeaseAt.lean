/-
  The document's at, of any wallet of up to 1000 leases; of what lay when the call began nothing has turned.
-/
import Derived.Test.YtlipepbemofihaaLeaseWords
namespace Go.Proofs.Ytlipepbemofihaa.Lease
open Go.RowKit
open _root_.Go.Proofs.Ytlipepbemofihaa.Codec (lt_of_heap frozen_of heap_set below_new)
open _root_.Go.Proofs.Ytlipepbemofihaa.Ledger (spot spot_at spot_none)

set_option maxRecDepth 100000 in
theorem rat_any {B v : Nat} {l : List Lz} {w : World} (h : Wl B w v l) (hl : l.length ≤ 1000) (key : Int) :
    Calls Try.prog 27 #[.pointer (some ⟨v, 0, none⟩), .int .i64 key] w fun e w' => e = .returned (.int .i64 (place l key)) ∧ Below w.heap.size w w' := by
  obtain ⟨p, c, c1, hr⟩ := h.cell
  have HPL := Lib.hid (show place l key = spot (fun x => x.key == key) l from rfl)
  generalize place l key = R at HPL ⊢
  have HR := Lib.hid hr
  have HB := Lib.hid (Below.refl w.heap.size w)
  clear hr h
  go_enter Try.func27, Try.ntmps27
  go_wp2
  go_loop [5] (fun i => ∃ j : Nat, j ≤ l.length ∧ i = .int .i64 (j : Int) ∧ Hid (∀ i, i < j → (l.getD i z).key ≠ key)) (fun i => l.length - (intOf i).toNat)
  case atStart => exact ⟨0, by omega, rfl, fun i hi => by omega⟩
  case round =>
    obtain ⟨j, hj, rfl, hne⟩ := hrel
    by_cases hlt : j < l.length
    · obtain ⟨b, o, rfl, k0, -⟩ := lies_at HR.out hlt
      have hlt' : (j : Int) < (l.length : Int) := by omega
      by_cases hk : (l.getD j z).key = key
      · have HE := Lib.hid (show R = (j : Int) by rw [HPL.out]; exact spot_at _ z l j hlt (fun i hi => by simpa using hne.out i hi) (by simpa using hk))
        rw [hk] at k0
        clear hne HPL HR hk
        go_wp2
        go_ret
        exact ⟨by rw [HE.out]; rfl, HB.out⟩
      · have HN : Hid (∀ i, i < j + 1 → (l.getD i z).key ≠ key) := fun i hi => by
          by_cases e : i < j
          · exact hne.out i e
          · rw [show i = j by omega]; exact hk
        generalize (l.getD j z).key = y at k0 hk
        clear hne HPL HR
        go_wp2
        go_round
        case rel => exact ⟨j + 1, by omega, by go_num, HN⟩
        case measure => simp only [intOf]; omega
    · have HE := Lib.hid (show R = -1 by rw [HPL.out]; exact spot_none _ z l (fun i hi => by simpa using hne.out i (by omega)))
      have hlt' : ¬ (j : Int) < (l.length : Int) := by omega
      clear hne HPL HR
      go_wp2
      go_ret
      exact ⟨by rw [HE.out]; rfl, HB.out⟩
end Go.Proofs.Ytlipepbemofihaa.Lease
