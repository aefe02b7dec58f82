/-
  The document's Keys, of any estimates of up to 900 notes.
  slices.Grow of a slice that is none, and slices.Concat of two rows of numbers: a row of their own.
-/
import Derived.Lib.MinMax
import Derived.Lib.AppendZerosOnto
import Derived.Lib.Hide
import Derived.Lib.Walk
import Derived.Lib.SliceRun
import Derived.WalkKit
import Derived.Test.YtbgdlokegibkmaaGreatMmAb
namespace Go.Proofs.YtbgdlokegibkmaaGreat.Demand2
open _root_.Go.Proofs.YtbgdlokegibkmaaGreat.Demand
variable {ov : Nat}
open Go.RowKit
open _root_.Go.Proofs.YtbgdlokegibkmaaGreat.Codec (lt_of_heap frozen_of heap_set)
open _root_.Go.Proofs.YtbgdlokegibkmaaGreat.Kit (Enc Lies Own At Kept Laid cell_on lt_heap take_snoc below_drewN box5 ints)
theorem at1 {w : World} {b o : Nat} {x : Int} (h : At ints w b o x) : w.cell? ⟨b, o, none⟩ = some (.int .i64 x) := h 0 _ rfl
end Go.Proofs.YtbgdlokegibkmaaGreat.Demand2

namespace Go.Proofs.YtbgdlokegibkmaaGreat.Edge
open Go.RowKit
open _root_.Go.Proofs.YtbgdlokegibkmaaGreat.Kit (Enc Lies At Kept Laid Off cell_on lt_heap take_snoc below_drewN own_keep box5 ints)
theorem laidN : Laid Tryz.prog ints 3 25 := ⟨Tryz.underlying25, .int .i64 0, 8, by kernel_rfl, rfl, by decide⟩
set_option maxRecDepth 100000 in
set_option maxHeartbeats 2000000 in
theorem grow_some (n : Nat) (h0 : 0 < n) (hn : n ≤ 1000) (w : World) :
    Calls Tryz.prog 196 #[.slice none 0 0, .int .i64 (n : Int)] w fun e w' => ∃ v, e = .returned v ∧ Kit.Own ints 3 w.heap.size w' v [] ∧ Below w.heap.size w w' := by
  obtain ⟨i0, hi, hz0, hz1, hz2⟩ : ∃ i0, (Tryz.prog).info? 3 = some i0 ∧ i0.zero = some (.int .i64 0) ∧ i0.size = 1 ∧ i0.bytes = 8 := by
    obtain ⟨zv, byt, hi0, -, -⟩ := laidN.info
    have h8 : ((Tryz.prog).info? 3).map (fun i => (i.zero, i.size, i.bytes)) = some (some (.int .i64 0), 1, 8) := by kernel_rfl
    obtain ⟨i0, hi, a, b, c⟩ := info_parts h8
    exact ⟨i0, hi, a, b, c⟩
  have hold : (Builtin.firstCells i0.size 0 (.slice none 0 0)).run Tryz.prog w.drew = .ok (([] : List Value).toArray) w.drew := run_firstCells_none w.drew i0.size 0 0 0
  have hrz : ∀ ty, (Builtin.append_ #[25, 3] ty #[.slice none 0 0, .int .i64 (n : Int)]).run Tryz.prog w =
      .ok (.slice (some ⟨w.heap.size, 0, none⟩) n (grownCap w n 0 3)) (w.drew.alloc (.cells (([] : List Value).toArray ++ Builtin.zeroCells (Value.int .i64 0).cells n ++ Builtin.zeroCells (Value.int .i64 0).cells (grownCap w n 0 3 - n)) 3)) := fun ty => by
    have h := Lib.run_append_grow_zeros w 25 3 ty 3 i0 (.int .i64 0) .i64 .i64 Tryz.underlying25 Tryz.underlying3 hi hz0 none 0 0 [] hold n h0 (by omega) (by omega) (by omega) (by rw [hz2]; omega)
      (growslice_fits (by omega) (by rw [hz2]; omega))
    simpa using h
  have hge := grownCap_ge w n 0 3
  have hle := grownCap_le_maxLen w n 0 3 (by unfold maxLen; omega)
  generalize grownCap w n 0 3 = G at *
  have HO := Lib.hid (show Kit.Own ints 3 w.heap.size (w.drew.alloc (.cells (([] : List Value).toArray ++ Builtin.zeroCells (Value.int .i64 0).cells n ++ Builtin.zeroCells (Value.int .i64 0).cells (G - n)) 3)) (.slice (some ⟨w.heap.size, 0, none⟩) 0 G) [] from
    ⟨by simp [Kit.cells], .inr ⟨w.heap.size, G, _, rfl, Nat.le_refl _, heap_alloc_new w.drew _, Nat.zero_le _, hle, by
      simp only [Array.size_append, size_zeroCells, List.size_toArray, List.length_nil, show (Value.int .i64 0).cells.size = 1 from rfl, show ints.n = 1 from rfl]
      omega, by simp [Kit.cells]⟩⟩)
  have HB := Lib.hid (show Below w.heap.size w (w.drew.alloc (.cells (([] : List Value).toArray ++ Builtin.zeroCells (Value.int .i64 0).cells n ++ Builtin.zeroCells (Value.int .i64 0).cells (G - n)) 3)) from ((Below.refl w.heap.size w).drew).alloc (Nat.le_refl _) _)
  generalize w.drew.alloc (.cells (([] : List Value).toArray ++ Builtin.zeroCells (Value.int .i64 0).cells n ++ Builtin.zeroCells (Value.int .i64 0).cells (G - n)) 3) = w1 at *
  have hG : G ≤ 9223372036854775807 := by unfold maxLen at hle; omega
  have h1 : ¬ ((n : Int) < 0) := by omega
  have h4 : (n : Int) > 0 := by omega
  clear hold hi hz0 hz1 hz2 hle
  go_enter Tryz.func196, Tryz.ntmps196
  go_wp2_with (at_builtin; refine Lib.wpList_append_run _ rfl _ _ _ _ rfl _ _ rfl rfl _ _ (hrz _) ?_)
  go_ret
  exact ⟨_, rfl, HO.out, HB.out⟩
theorem grow_none (w : World) :
    Calls Tryz.prog 196 #[.slice none 0 0, .int .i64 0] w fun e w' => ∃ v, e = .returned v ∧ Kit.Own ints 3 w.heap.size w' v [] ∧ Below w.heap.size w w' := by
  go_enter Tryz.func196, Tryz.ntmps196
  go_wp2
  go_ret
  exact ⟨_, rfl, Kit.Own.none _ _ _ _, Below.refl _ _⟩
theorem grow_any (n : Nat) (hn : n ≤ 1000) (w : World) :
    Calls Tryz.prog 196 #[.slice none 0 0, .int .i64 (n : Int)] w fun e w' => ∃ v, e = .returned v ∧ Kit.Own ints 3 w.heap.size w' v [] ∧ Below w.heap.size w w' := by
  by_cases h : n = 0
  · subst h; exact grow_none w
  · exact grow_some n (by omega) hn w
set_option maxRecDepth 100000 in
set_option maxHeartbeats 4000000 in
theorem concat_any {la lb : List Int} {pa pb : Option Addr} {ca cb g : Nat} {w : World} (h0 : w.cell? ⟨g, 0, none⟩ = some (.slice pa la.length ca)) (h1 : w.cell? ⟨g, 1, none⟩ = some (.slice pb lb.length cb))
    (ha : Lies ints w pa la) (hb : Lies ints w pb lb) (na : pa = none → ca = 0) (nb : pb = none → cb = 0) (la' : la.length ≤ 300) (lb' : lb.length ≤ 700) :
    Calls Tryz.prog 158 #[.slice (some ⟨g, 0, none⟩) 2 2] w fun e w' => ∃ v, e = .returned v ∧ Kit.Own ints 3 w.heap.size w' v (la ++ lb) ∧ Below w.heap.size w w' := by
  have HG := Lib.hid (fun u => grow_any (la.length + lb.length) (by omega) u)
  have HA := Lib.hid ha
  have HB := Lib.hid hb
  have NA := Lib.hid na
  have NB := Lib.hid nb
  have H0 := Lib.hid (fun u (hu : Below w.heap.size w u) => cell_on h0 hu)
  have H1 := Lib.hid (fun u (hu : Below w.heap.size w u) => cell_on h1 hu)
  have hs : ¬ ((la.length : Int) < 0) := by omega
  have hs2 : ¬ ((la.length : Int) + (lb.length : Int) < 0) := by omega
  simp only [Int.natCast_add] at HG
  clear ha hb na nb
  go_enter Tryz.func158, Tryz.ntmps158
  go_wp2
  refine wp_loop_rounds 3 ?_
  rw [rounds_succ]
  go_wp2
  rw [rounds_succ]
  go_wp2
  rw [rounds_succ]
  go_wp2_with (go_at_call 196; (with_reducible refine (HG.out _).mono ?_); rintro e1 w1 ⟨v1, rfl, ho, hb⟩; have HO1 := Lib.hid ho; have HB1 := Lib.hid hb; clear ho hb HG)
  have x0 := H0.out _ HB1.out
  have x1 := H1.out _ HB1.out
  have HA1 := Lib.hid (HA.out.below HB1.out)
  have HB1' := Lib.hid (HB.out.below HB1.out)
  clear h0 h1
  refine wp_loop_rounds 3 ?_
  rw [rounds_succ]
  go_wp2_with (at_builtin; refine Kit.pushes laidN rfl _ _ rfl w w1 v1 rfl [] 0 rfl HO1.out HB1.out (Below.refl _ _) la la.length ca pa rfl rfl HA1.out NA.out (by omega) ?_; intro p2 c2 w2 R2 B2)
  have x1' := H1.out _ B2
  have HB2' := Lib.hid (HB.out.below B2)
  have HBW := Lib.hid B2
  rw [Nat.zero_add, List.nil_append] at R2
  clear x0 x1 HA1 HO1 HB1'
  rw [rounds_succ]
  go_wp2_with (at_builtin; refine Kit.pushes laidN rfl _ _ rfl w w2 _ rfl la la.length rfl R2.out HBW.out (Below.refl _ _) lb lb.length cb pb rfl rfl HB2'.out NB.out (by omega) ?_; intro p3 c3 w3 R3 B3)
  rw [rounds_succ]
  go_wp2
  go_ret
  exact ⟨_, rfl, R3.out, B3⟩
end Go.Proofs.YtbgdlokegibkmaaGreat.Edge
