/-
  ring.Nth of a slice whose cells are ints returns the m-th greatest of them, and true, or 0 and false, if there is none; of what lay when the call began nothing has turned; any ints, any m, any slice of at most 1000.
-/
import Derived.Sort.OwnSortedInts
import Derived.Lib.OwnBridge
import Derived.Test.YtbgdlokegibkmaaGreatMmAa
import Derived.Test.YtbgdlokegibkmaaGreatShelf
namespace Go.Proofs.YtbgdlokegibkmaaGreat.Ring
open Go.RowKit Go.Sort
theorem sort_own (B g cap : Nat) (zs : List Int) (w w0 : World) (hown : w.ownsRow B 3 1 (.slice (some ⟨g, 0, none⟩) zs.length cap) zs.length (zs.map (Value.int .i64))) (hl : zs.length ≤ 1000) (hb : Below B w0 w) (hB : B ≤ w.heap.size) :
    Calls Tryz.prog 148 #[.slice (some ⟨g, 0, none⟩) zs.length cap] w fun e w' => e = .returned (.tuple #[]) ∧ (∀ j, j < zs.length → w'.cell? ⟨g, j, none⟩ = some (.int .i64 ((srt zs).getD j 0))) ∧ Below B w0 w' := by
  have hl2 : (srt zs).length = zs.length := List.length_mergeSort zs
  obtain ⟨g', cap', e, hbase, hlt, _, _, _, hH⟩ := Lib.holds_of_ownsRow (enc := Value.int .i64) hown (by simp)
  cases e
  rcases hown.2 with ⟨h0, _⟩ | ⟨g', cap', cur, hv, hbase', hblk, h1, h2, h3, h4⟩
  · cases h0
  cases hv
  refine (Tryz.slices_Sort_int g 0 cap zs w hH hlt (by omega)).mono ?_
  rintro e w' ⟨rfl, n, os, rfl⟩
  refine ⟨rfl, ?_, hb.grown (grownBy_sortedI _) hB (fun j hj => by cases hj; exact hbase)⟩
  have hs := ownsRow_sortedI (n := n) (os := os) (ts := srt zs) hl2 hbase hblk h1 h2 h3
  rw [← hl2] at hs
  obtain ⟨g2, cap2, e2, _, _, _, _, _, hH2⟩ := Lib.holds_of_ownsRow (enc := Value.int .i64) hs (by simp)
  cases e2
  intro j hj
  have k := (hH2 j (by simpa [hl2] using hj)).1
  rw [Nat.zero_add] at k
  have hj2 : j < (srt zs).length := by rw [hl2]; exact hj
  rw [show grow (putRow (Value.int .i64) (Sort.ahead w n) g 0 (zs.mergeSort fun x y => decide (x ≤ y)).toArray) os = grow (putRow (Value.int .i64) (Sort.ahead w n) g 0 (srt zs).toArray) os from rfl, k]
  simp [getElem!_pos, hj2]
theorem nth_out (p : Option Addr) (n c : Nat) (m : Int) (w : World) (h : ¬ (1 ≤ m ∧ m ≤ (n : Int))) :
    Calls Tryz.prog 145 #[.slice p n c, .int .i64 m] w fun e w' => e = .returned (.tuple #[.int .i64 0, .bool false]) ∧ w = w' := by
  by_cases h1 : m < 1
  · go_enter Tryz.func145, Tryz.ntmps145
    go_wp2
    go_ret2
    exact ⟨rfl, rfl⟩
  · have h2 : (n : Int) < m := by omega
    clear h
    go_enter Tryz.func145, Tryz.ntmps145
    go_wp2
    go_ret2
    exact ⟨rfl, rfl⟩
set_option maxRecDepth 100000 in
set_option maxHeartbeats 1000000 in
theorem nth_in (b off c : Nat) (zs : List Int) (m : Int) (w : World) (hl : zs.length ≤ 1000) (h1 : 1 ≤ m) (h2 : m ≤ (zs.length : Int))
    (hc : ∀ j, j < zs.length → w.cell? ⟨b, off + j, none⟩ = some (.int .i64 (zs.getD j 0))) :
    Calls Tryz.prog 145 #[.slice (some ⟨b, off, none⟩) zs.length c, .int .i64 m] w fun e w' => e = .returned (.tuple #[.int .i64 (nth zs m), .bool true]) ∧ Below w.heap.size w w' := by
  have hclone := Tryz.slices_Clone_int b off zs.length c zs w (Nat.le_refl _) (by omega) hc
  have HC := Lib.hid hc; clear hc
  rw [List.take_length] at hclone
  have hn : nth zs m = (srt zs).getD (zs.length - m.toNat) 0 := by unfold nth; rw [if_pos ⟨h1, h2⟩]
  have HN := Lib.hid hn; clear hn
  go_enter Tryz.func145, Tryz.ntmps145
  go_wp2_with (first
    | (go_at_call 97; refine hclone.mono ?_; rintro e w1 ⟨v1, rfl, hown1, hnn1, hb1⟩
       obtain ⟨g, cap, rfl, _, _, _, _, _, _⟩ := Lib.holds_of_ownsRow (enc := Value.int .i64) hown1 hnn1
       have hsort := sort_own w.heap.size g cap zs w1 w hown1 hl hb1 hb1.size
       clear hown1 hnn1 hclone)
    | (go_at_call 148; refine hsort.mono ?_; rintro e w2 ⟨rfl, hcell, hb2⟩
       have hcl := hcell ((zs.length : Int) - m).toNat (by omega)
       clear hcell hsort))
  go_ret2
  refine ⟨?_, hb2⟩
  have e : ((zs.length : Int) - m).toNat = zs.length - m.toNat := by omega
  rw [HN.out, ← e]
  simp [List.getD]
end Go.Proofs.YtbgdlokegibkmaaGreat.Ring
