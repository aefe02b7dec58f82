/-
  What is asked of the program's estimates, whatever their blocks are: a predicate on memory, and what each call tells and leaves (Way13); the live question.
-/
import Derived.Test.YtghbcknbkkhhpaaDemandWords
import Derived.Deep.RegionHeld3
import Derived.IntWalk
namespace Go.Proofs.Ytghbcknbkkhhpaa.Demand
open Go.RowKit
open _root_.Go.Proofs.Ytghbcknbkkhhpaa.Codec (lt_of_heap frozen_of heap_set below_new own_below)
open _root_.Go.Proofs.Ytghbcknbkkhhpaa.Kit (Enc Lies Own At Kept Laid Off cell_on lt_heap take_snoc below_drewN ints)

/-- The document's blocks. -/
abbrev mine : List TypeId := [29, 32]
theorem Dm.off {w w' : World} {B v : Nat} {l : List Nt} (h : Dm B w v l) (ho : Off mine w w') : Dm B w' v l := by
  obtain ⟨h0, y, h1, h2⟩ := h
  exact ⟨h0, y, ho.block v _ _ _ h1 (by simp [mine]), Own.off h2 ho (by simp [mine])⟩
abbrev Pw := Nat → World → Nat → List Nt → Prop
/-- The program's estimates move. -/
structure Moved (PW : Pw) (B : Nat) (w : World) (q : Nat) (l : List Nt) (w' : World) : Prop where
  pw : PW B w' q l
  off : Off mine w w'
  below : Below B w w'
structure Way13 (PW : Pw) : Prop where
  below : ∀ {B w q l w'}, PW B w q l → Below w.heap.size w w' → PW B w' q l
  kept : ∀ {B w q l w'}, PW B w q l → Kept [29] w w' → Below B w w' → PW B w' q l
  new : ∀ w, Calls Try.prog 6 #[] w fun e w' => ∃ q, e = .returned (.pointer (some ⟨q, 0, none⟩)) ∧ PW w.heap.size w' q [] ∧ Below w.heap.size w w'
  note : ∀ {B w q l}, PW B w q l → B ≤ w.heap.size → l.length ≤ 200 → ∀ key spent, Num key → Num spent → Calls Try.prog 7 #[.pointer (some ⟨q, 0, none⟩), .int .i64 key, .int .i64 spent] w fun e w' => e = .returned (.int .i64 (of (l ++ [⟨key, spent⟩]) key)) ∧ Moved PW B w q (l ++ [⟨key, spent⟩]) w'
  of : ∀ {B w q l}, PW B w q l → l.length ≤ 200 → ∀ key, Num key → Calls Try.prog 9 #[.pointer (some ⟨q, 0, none⟩), .int .i64 key] w fun e w' => e = .returned (.int .i64 (of l key)) ∧ Below w.heap.size w w'
  want : ∀ {B w q l}, PW B w q l → l.length ≤ 200 → ∀ key queued most, Num key → Num queued → Num most → Calls Try.prog 11 #[.pointer (some ⟨q, 0, none⟩), .int .i64 key, .int .i64 queued, .int .i64 most] w fun e w' => e = .returned (.int .i64 (want (Demand.of l key) queued most)) ∧ Below w.heap.size w w'
  keys : ∀ {B w q l}, PW B w q l → l.length ≤ 200 → Calls Try.prog 14 #[.pointer (some ⟨q, 0, none⟩)] w fun e w' => ∃ p c, e = .returned (.slice p (keys l).length c) ∧ Lies ints w' p (keys l) ∧ Below w.heap.size w w'
  nnote : ∀ key spent w, Calls Try.prog 7 #[.pointer none, .int .i64 key, .int .i64 spent] w fun e w' => e = .returned (.int .i64 0) ∧ Below w.heap.size w w'
  nof : ∀ key w, Calls Try.prog 9 #[.pointer none, .int .i64 key] w fun e w' => e = .returned (.int .i64 0) ∧ Below w.heap.size w w'
  nwant : ∀ key queued most w, Num queued → Num most → Calls Try.prog 11 #[.pointer none, .int .i64 key, .int .i64 queued, .int .i64 most] w fun e w' => e = .returned (.int .i64 (Demand.want 0 queued most)) ∧ Below w.heap.size w w'
  nkeys : ∀ w, Calls Try.prog 14 #[.pointer none] w fun e w' => ∃ p c, e = .returned (.slice p 0 c) ∧ Below w.heap.size w w'

theorem lay (w : World) (o : Obj) : Below w.heap.size w (w.alloc o) := (Below.refl _ w).alloc (Nat.le_refl _) o
theorem num_small {x : Int} (h : -100 ≤ x ∧ x ≤ 100) : Num x := by unfold Num; omega
def n1 : List Nt := [] ++ [⟨3, 9⟩]
def n2 : List Nt := n1 ++ [⟨3, 2⟩]
theorem al1 : Demand.of ([] ++ [⟨3, 9⟩]) 3 = 9 := by decide
theorem al2 : Demand.of (n1 ++ [⟨3, 2⟩]) 3 = 4 := by decide
theorem al3 : Demand.of n2 3 = 4 := by decide
theorem al4 : Demand.want (Demand.of n2 3) 5 7 = 7 := by decide
theorem al5 : Demand.keys n2 = [3] := by decide
set_option maxRecDepth 100000 in
set_option maxHeartbeats 4000000 in
theorem alive_way {PW : Pw} (P : Way13 PW) (w : World) : Calls Try.prog 5 #[] w fun e w' => e = .returned (.bool true) ∧ Below w.heap.size w w' := by
  have n : ∀ x : Int, -100 ≤ x ∧ x ≤ 100 → Num x := fun x h => num_small h
  have c0 := P.new w
  have c1 := fun q u (h : PW w.heap.size u q []) (hb : w.heap.size ≤ u.heap.size) => P.note h hb (by simp) 3 9 (n _ (by omega)) (n _ (by omega))
  have c2 := fun q u (h : PW w.heap.size u q n1) (hb : w.heap.size ≤ u.heap.size) => P.note h hb (by simp [n1]) 3 2 (n _ (by omega)) (n _ (by omega))
  have c3 := fun q u (h : PW w.heap.size u q n2) => P.of h (by simp [n2, n1]) 3 (n _ (by omega))
  have c4 := fun q u (h : PW w.heap.size u q n2) => P.want h (by simp [n2, n1]) 3 5 7 (n _ (by omega)) (n _ (by omega)) (n _ (by omega))
  have c5 := fun q u (h : PW w.heap.size u q n2) => P.keys h (by simp [n2, n1])
  have PB := Lib.hid (fun (u u' : World) (q : Nat) (l : List Nt) (h : PW w.heap.size u q l) (hb : Below u.heap.size u u') => P.below h hb)
  rw [al1] at c1
  rw [al2] at c2
  rw [al4] at c4
  rw [al3] at c3
  simp only [al5, List.length_cons, List.length_nil, Nat.zero_add] at c5
  clear P n
  go_enter Try.func5, Try.ntmps5
  go_wp2_with (first
    | (go_at_call 6; (with_reducible refine c0.mono ?_); rintro e u0 ⟨q, rfl, h0, hb⟩; have H0 := Lib.hid h0; have B0 := Lib.hid hb; clear h0 hb c0)
    | (go_at_call 7; (with_reducible refine (c1 _ _ H0.out B0.out.size).mono ?_); rintro e u1 ⟨rfl, hm⟩; have H1 := Lib.hid hm.pw; have B1 := Lib.hid (B0.out.trans hm.below); clear hm c1)
    | (go_at_call 7; (with_reducible refine (c2 _ _ H1.out B1.out.size).mono ?_); rintro e u2 ⟨rfl, hm⟩; have H2 := Lib.hid hm.pw; have B2 := Lib.hid (B1.out.trans hm.below); clear hm c2)
    | (go_at_call 9; (with_reducible refine (c3 _ _ H2.out).mono ?_); rintro e u3 ⟨rfl, hb⟩; have H3 := Lib.hid (PB.out _ _ _ _ H2.out hb); have B3 := Lib.hid (B2.out.trans (hb.mono B2.out.size)); clear hb c3)
    | (go_at_call 11; (with_reducible refine (c4 _ _ H3.out).mono ?_); rintro e u4 ⟨rfl, hb⟩; have H4 := Lib.hid (PB.out _ _ _ _ H3.out hb); have B4 := Lib.hid (B3.out.trans (hb.mono B3.out.size)); clear hb c4)
    | (go_at_call 14; (with_reducible refine (c5 _ _ H4.out).mono ?_); rintro e u5 ⟨p5, d5, rfl, -, hb⟩; have B5 := Lib.hid (B4.out.trans (hb.mono B4.out.size)); clear hb c5))
  go_ret
  exact ⟨rfl, B5.out⟩
end Go.Proofs.Ytghbcknbkkhhpaa.Demand
