/-
  slices.Sort of numbers that a call owns; slices.Sorted of the estimates' keys; the program's Keys; Way13 of Pm.
-/
import Derived.Sort.OwnSortedInts
import Derived.Lib.OwnBridge
import Derived.Test.YtbgdlokegibkmaaGreatMmBj
import Derived.Test.YtbgdlokegibkmaaGreatShelf
namespace Go.Proofs.YtbgdlokegibkmaaGreat.Demand
open Go.RowKit Go.Maps Go.Shelf Go.Sort
open _root_.Go.Proofs.YtbgdlokegibkmaaGreat.Codec (lt_of_heap frozen_of heap_set own_below)
open _root_.Go.Proofs.YtbgdlokegibkmaaGreat.Kit (Lies ints cell_on lt_heap)
/-! The walk. -/
theorem cells_ints (zs : List Int) : Kit.cells ints zs = zs.map (Value.int .i64) := by
  induction zs with
  | nil => rfl
  | cons x zs ih => rw [Kit.cells_cons, ih]; rfl
theorem own_ints {B : Nat} {u : World} {v : Value} {zs : List Int} : Kit.Own ints 3 B u v zs ↔ u.ownsRow B 3 1 v zs.length (zs.map (Value.int .i64)) := by
  unfold Kit.Own
  rw [cells_ints]
  exact Iff.rfl
theorem sort_ints {B : Nat} {u : World} {v : Value} {zs : List Int} (ho : Kit.Own ints 3 B u v zs) (hB : B ≤ u.heap.size) (hl : zs.length ≤ 1000) :
    Calls Tryz.prog 148 #[v] u fun e u' => e = .returned (.tuple #[]) ∧ Kit.Own ints 3 B u' v (zs.mergeSort fun x y => decide (x ≤ y)) ∧ Below B u u' := by
  have hl2 : (zs.mergeSort fun x y => decide (x ≤ y)).length = zs.length := List.length_mergeSort _
  have hown' := own_ints.1 ho
  rcases hown'.2 with ⟨rfl, h0⟩ | ⟨g, cap, cur, rfl, hbase, hblk, h1, h2, h3, h4⟩
  · have hz := List.eq_nil_of_length_eq_zero h0
    subst hz
    refine (Tryz.slices_Sort_int_none none 0 u).mono ?_
    rintro e u' ⟨rfl, rfl⟩
    exact ⟨rfl, by simpa using ho, Below.refl _ _⟩
  · obtain ⟨g', cap', e, _, hlt, _, _, _, hH⟩ := Lib.holds_of_ownsRow (enc := Value.int .i64) hown' (by simp)
    cases e
    refine (Tryz.slices_Sort_int g 0 cap zs u hH hlt (by omega)).mono ?_
    rintro e u' ⟨rfl, n, os, rfl⟩
    refine ⟨rfl, own_ints.2 ?_, (Below.refl B u).grown (grownBy_sortedI _) hB (fun j hj => by cases hj; exact hbase)⟩
    have := ownsRow_sortedI (n := n) (os := os) hl2 hbase hblk h1 h2 h3
    rw [hl2]
    exact this
theorem nil_of {T : TypeId} {B : Nat} {w : World} {p : Option Addr} {n c : Nat} {l : List Int} (h : Kit.Own ints T B w (.slice p n c) l) : p = none → c = 0 := by
  rintro rfl
  rcases h.2 with ⟨e, -⟩ | ⟨g, cap, cur, e, -⟩
  · simp only [Value.slice.injEq] at e
    exact e.2.2
  · simp at e
theorem sorted_is {xs L : List Int} (hr : L.Pairwise (· < ·)) (hp : xs.Perm L) : (xs.mergeSort fun x y => decide (x ≤ y)) = L := by
  have hp2 := (List.mergeSort_perm xs (fun x y => decide (x ≤ y))).trans hp
  have hs : (xs.mergeSort fun x y => decide (x ≤ y)).Pairwise (· ≤ ·) := by
    have := List.pairwise_mergeSort (le := fun x y : Int => decide (x ≤ y)) (fun a b c h1 h2 => by simp at *; omega) (fun a b => by simp; omega) xs
    exact this.imp fun h => by simpa using h
  exact List.Perm.eq_of_pairwise (le := fun a b : Int => a ≤ b) (fun a b _ _ hab hba => by omega) hs (hr.imp fun {a b} h => by omega) hp2
set_option maxRecDepth 100000 in
theorem sorted_any {L : List Nt} (hlen : (keys L).length ≤ 1000) (Bm : Nat) (w0 w : World) (hb0 : Below w0.heap.size w0 w)
    (hseq : SeqStopsK Fence.wide 5 Tryz.prog 227 #[.pointer (some ⟨Bm, 0, none⟩)] (fun x : Int => #[.int .i64 x]) KeepsWalks (fun xs => xs.Perm (keys L)) (fun _ => True) (keys L).length w0) :
    Calls Tryz.prog 197 #[.func (.func 227) #[] #[.pointer (some ⟨Bm, 0, none⟩)]] w fun e w' =>
      ∃ p c, e = .returned (.slice p (keys L).length c) ∧ (Lies ints w' p (keys L) ∧ (p = none → c = 0)) ∧ Below w.heap.size w w' := by
  have ha := collect_any hlen Bm w0 w hb0 hseq
  have hs := Lib.hid (fun (u : World) (v : Value) (xs : List Int) (hb : Below w.heap.size w u) (ho : Kit.Own ints 3 w.heap.size u v xs) (hp : xs.Perm (keys L)) => (sort_ints ho hb.size (by rw [hp.length_eq]; exact hlen)))
  have HR := Lib.hid (fun (xs : List Int) (hp : xs.Perm (keys L)) => sorted_is (keys_rise L) hp)
  clear hseq hlen
  generalize keys L = R at *
  go_enter Tryz.func197, Tryz.ntmps197
  go_wp2_with (first
    | (go_at_call 226; refine ha.mono ?_; clear ha; rintro e u ⟨v, xs, rfl, hp, ho, hb⟩)
    | (go_at_call 148; refine (hs.out _ _ _ hb ho hp).mono ?_; clear hs; rintro e u2 ⟨rfl, ho2, hb2⟩; rw [HR.out _ hp] at ho2; obtain ⟨p, c, rfl, hl⟩ := Kit.Own.lies ho2; have hni := nil_of ho2))
  go_ret
  exact ⟨p, c, rfl, ⟨hl, hni⟩, hb.trans hb2⟩
set_option maxRecDepth 100000 in
set_option maxHeartbeats 1000000 in
theorem pkeys_any {B q : Nat} {w : World} {l : List Nt} (h : Pm B w q l) (hlen : l.length ≤ 800) :
    Calls Tryz.prog 160 #[.pointer (some ⟨q, 0, none⟩)] w fun e w' => ∃ p c, e = .returned (.slice p (keys l).length c) ∧ (Lies ints w' p (keys l) ∧ (p = none → c = 0)) ∧ Below w.heap.size w w' := by
  obtain ⟨m, hc, -, hm⟩ := h.cell
  have hv := callsIn_wide.1 (keys_call 5 m w)
  have hb1 := lay w (.cells #[.map m] 198)
  have hz := (MapKept.heap_alloc w (.cells #[.map m] 198)).1
  have hs := sorted_any (L := l) (by have := keys_len l; omega) w.heap.size _ _ (Below.refl _ _) (keys_stops 5 (by decide) (hm.below hb1) (by rw [cell_of_row _ _ 0 _ _ (0, 0) hz]; rfl) (by simp))
  generalize keys l = R at *
  clear hz hlen h hm
  go_enter Tryz.func160, Tryz.ntmps160
  go_wp2_with (first
    | (go_at_call 198; refine hv.mono ?_; clear hv; rintro e u ⟨rfl, rfl⟩)
    | (go_at_call 197; refine hs.mono ?_; clear hs; rintro e u2 ⟨p, c, rfl, hl, hb2⟩))
  go_ret
  exact ⟨p, c, rfl, hl, hb1.trans (hb2.mono hb1.size)⟩
end Go.Proofs.YtbgdlokegibkmaaGreat.Demand
