/-
  The document's Note, of any estimates of up to 900 notes.
-/
import Derived.Test.YtghbcknbkkhhpaaDemandOf
namespace Go.Proofs.Ytghbcknbkkhhpaa.Demand
open Go.RowKit
open _root_.Go.Proofs.Ytghbcknbkkhhpaa.Codec (lt_of_heap frozen_of heap_set below_new)
open _root_.Go.Proofs.Ytghbcknbkkhhpaa.Kit (Enc Lies Own At Kept Laid cell_on lt_heap take_snoc below_drewN box5 ints)

set_option maxRecDepth 100000 in
set_option maxHeartbeats 4000000 in
theorem rnote_any {B v : Nat} {l : List Nt} {w : World} (h : Dm B w v l) (hB : B ≤ w.heap.size) (hl : l.length ≤ 900) (key spent : Int) :
    Calls Try.prog 8 #[.pointer (some ⟨v, 0, none⟩), .int .i64 key, .int .i64 spent] w fun e w' => e = .returned (.int .i64 (of (l ++ [⟨key, spent⟩]) key)) ∧ Step B w v (l ++ [⟨key, spent⟩]) w' := by
  have HV := Lib.hid h
  have HBB := Lib.hid hB
  obtain ⟨p, c, c1, lx, cn⟩ := h.cell
  have hv := h.lt
  have LX := Lib.hid (lx.below ((Below.refl _ _).alloc (Nat.le_refl _) (.cells #[] 32)))
  have CN := Lib.hid cn
  have HA := Lib.hid ((Below.refl w.heap.size w).alloc (Nat.le_refl _) (.cells #[] 32))
  have OM := Lib.hid (Kit.own_made (E := note) (T := 32) w w.heap.size (Nat.le_refl _))
  have HO := Lib.hid (fun u (hs : Dm B u v (l ++ [⟨key, spent⟩])) => rof_any hs (by simp; omega) key)
  clear lx cn h
  go_enter Try.func8, Try.ntmps8
  go_wp2_with (first
    | (at_builtin; refine Kit.pushes laidN rfl _ _ rfl w _ _ rfl [] 0 rfl OM.out HA.out (Below.refl _ _) l l.length c p rfl rfl LX.out CN.out (by omega) ?_; intro p4 c4 w4 R4 B4; have R5 := Lib.hid (show Own note 32 w.heap.size w4 (.slice p4 l.length c4) l from by (have := R4.out; rw [Nat.zero_add] at this; exact this)); have B5 := Lib.hid B4; clear R4 B4 OM LX CN c1)
    | (at_builtin; refine Kit.push laidN rfl _ _ rfl w w4 (.slice p4 l.length c4) rfl l l.length rfl R5.out B5.out ((Below.refl _ _).alloc (Nat.le_refl _) _) w4.heap.size ⟨key, spent⟩ rfl (heap_alloc_new _ _) (by omega) ?_; intro p6 c6 w6 R6 B6; obtain ⟨f0, ⟨u0, k0⟩, D⟩ := HV.out.store HBB.out B6 R6.out)
    | (go_at_call 10; (with_reducible refine (HO.out _ D.out.dm).mono ?_); rintro e w7 ⟨rfl, hb⟩))
  go_ret
  exact ⟨rfl, D.out.on hb (Nat.le_trans HBB.out D.out.kept.size)⟩
end Go.Proofs.Ytghbcknbkkhhpaa.Demand
