/-
  slices.Sort of numbers that a call owns, and that rise: they stay as they are.
-/
import Derived.Test.YtcnnepmhdccipaaLgHeld
import Derived.Test.YtcnnepmhdccipaaShelf
import Derived.Sort.OwnSortedInts
import Derived.Lib.OwnBridge
namespace Go.Proofs.Ytcnnepmhdccipaa.Ledger
open Go.RowKit Go.Sort

theorem sort_keys (zs : List Int) (hz : zs.Pairwise (· < ·)) (hl : zs.length ≤ 1000) (u0 u : World) (v : Value) (hown : OwnI u0.heap.size u v zs) (hb : Below u0.heap.size u0 u) :
    Calls Try.prog 44 #[v] u fun e u' => e = .returned (.tuple #[]) ∧ (∃ p' c', v = .slice p' zs.length c' ∧ ∀ k, k < zs.length → ∃ b o, p' = some ⟨b, o, none⟩ ∧ u'.cell? ⟨b, o + k, none⟩ = some (.int .i64 (zs.getD k 0))) ∧ Below u0.heap.size u0 u' := by
  by_cases h0 : zs.length = 0
  · obtain ⟨p, c, rfl, -⟩ := hown.ints
    rw [h0]
    refine (Try.slices_Sort_int_none p c u).mono ?_
    rintro e u' ⟨rfl, rfl⟩
    exact ⟨rfl, ⟨p, c, rfl, fun k hk => by omega⟩, hb⟩
  · have hs := srt_self hz
    have hl2 : (Ring.srt zs).length = zs.length := by rw [hs]
    have hown' : u.ownsRow u0.heap.size 3 1 v zs.length (zs.map (Value.int .i64)) := hown
    have hne : v ≠ .slice none 0 0 := by
      rintro rfl
      rcases hown.2 with ⟨-, h1⟩ | ⟨g, cap, cur, h1, -⟩
      · exact h0 h1
      · simp at h1
    obtain ⟨g', cap', rfl, hbase, hlt, _, _, _, hH⟩ := Lib.holds_of_ownsRow (enc := Value.int .i64) hown' hne
    rcases hown'.2 with ⟨h1, _⟩ | ⟨g2, cap2, cur, hv, hbase', hblk, h1, h2, h3, h4⟩
    · cases h1
    cases hv
    refine (Try.slices_Sort_int g' 0 cap' zs u hH hlt (by omega)).mono ?_
    rintro e u' ⟨rfl, n, os, rfl⟩
    refine ⟨rfl, ⟨_, _, rfl, ?_⟩, hb.grown (grownBy_sortedI _) hb.size (fun j hj => by cases hj; exact hbase)⟩
    have hso := ownsRow_sortedI (n := n) (os := os) (ts := Ring.srt zs) hl2 hbase hblk h1 h2 h3
    rw [← hl2] at hso
    obtain ⟨g3, cap3, e3, _, _, _, _, _, hH2⟩ := Lib.holds_of_ownsRow (enc := Value.int .i64) hso (by simp)
    cases e3
    intro j hj
    refine ⟨g', 0, rfl, ?_⟩
    have k := (hH2 j (by simpa [hl2] using hj)).1
    have hj2 : j < (Ring.srt zs).length := by rw [hl2]; exact hj
    rw [show grow (putRow (Value.int .i64) (Sort.ahead u n) g' 0 (zs.mergeSort fun x y => decide (x ≤ y)).toArray) os = grow (putRow (Value.int .i64) (Sort.ahead u n) g' 0 (Ring.srt zs).toArray) os from rfl, k]
    simp only [hs]
    simp [hj]
end Go.Proofs.Ytcnnepmhdccipaa.Ledger
