/-
  What is asked of the program's wallet, whatever its blocks are: a predicate on memory, and what each call tells and leaves (Way11); the live question.
-/
import Derived.Test.YtlipepbemofihaaLeasePut
import Derived.Test.YtlipepbemofihaaLeaseSpend
import Derived.Test.YtlipepbemofihaaLeaseDrop
import Derived.Test.YtlipepbemofihaaLeaseSame
import Derived.Deep.RegionHeld3
namespace Go.Proofs.Ytlipepbemofihaa.Lease
open Go.RowKit
open _root_.Go.Proofs.Ytlipepbemofihaa.Codec (lt_of_heap frozen_of heap_set below_new own_below)

/-- What a step of the program leaves alone: the document's blocks. -/
structure Off (w w' : World) : Prop where
  size : w.heap.size ≤ w'.heap.size
  block : ∀ (g : Nat) (cs : Array Value) (t : TypeId) (z : Nat × Nat), w.heap[g]? = some (Obj.cells cs t z) → t ∈ [29, 52] → w'.heap[g]? = some (Obj.cells cs t z)
theorem Off.wl {w w' : World} {B v : Nat} {l : List Lz} (ho : Off w w') (h : Wl B w v l) : Wl B w' v l := by
  obtain ⟨h0, y, h1, h2, h3⟩ := h
  refine ⟨h0, y, ho.block v _ _ _ h1 (by simp), h2, ?_⟩
  rcases h3 with h3 | ⟨g, cap, cur, rfl, k1, k2, k3⟩
  · exact .inl h3
  · exact .inr ⟨g, cap, cur, rfl, k1, ho.block g _ _ _ k2 (by simp), k3⟩

abbrev Pw := Nat → World → Nat → List Lz → Prop
/-- The program's wallet moves. -/
structure Moved (PW : Pw) (B : Nat) (w : World) (q : Nat) (l : List Lz) (w' : World) : Prop where
  pw : PW B w' q l
  off : Off w w'
  below : Below B w w'
structure Way11 (PW : Pw) : Prop where
  below : ∀ {B w q l w'}, PW B w q l → Below w.heap.size w w' → PW B w' q l
  kept : ∀ {B w q l w'}, PW B w q l → Kept [29] w w' → Below B w w' → PW B w' q l
  new : ∀ w, Calls Try.prog 6 #[] w fun e w' => ∃ q, e = .returned (.pointer (some ⟨q, 0, none⟩)) ∧ PW w.heap.size w' q [] ∧ Below w.heap.size w w'
  put : ∀ {B w q l}, PW B w q l → B ≤ w.heap.size → Good l → l.length ≤ 100 → ∀ x, Nums x → Calls Try.prog 15 #[.pointer (some ⟨q, 0, none⟩), val x] w fun e w' => e = .returned (.int .i64 (put l x).2) ∧ Moved PW B w q (put l x).1 w'
  spend : ∀ {B w q l}, PW B w q l → B ≤ w.heap.size → Good l → l.length ≤ 100 → ∀ key cost now, Num key → Num cost → Num now → Calls Try.prog 14 #[.pointer (some ⟨q, 0, none⟩), .int .i64 key, .int .i64 cost, .int .i64 now] w fun e w' => e = .returned (.tuple #[.int .i64 (spend l key cost now).2.1, .bool (spend l key cost now).2.2]) ∧ Moved PW B w q (spend l key cost now).1 w'
  left : ∀ {B w q l}, PW B w q l → Good l → l.length ≤ 100 → ∀ key now, Num key → Num now → Calls Try.prog 12 #[.pointer (some ⟨q, 0, none⟩), .int .i64 key, .int .i64 now] w fun e w' => e = .returned (.int .i64 (left l key now)) ∧ Below w.heap.size w w'
  close : ∀ {B w q l}, PW B w q l → B ≤ w.heap.size → Good l → l.length ≤ 100 → ∀ key gen, Num key → Num gen → Calls Try.prog 17 #[.pointer (some ⟨q, 0, none⟩), .int .i64 key, .int .i64 gen] w fun e w' => e = .returned (.int .i64 (close l key gen).2) ∧ Moved PW B w q (close l key gen).1 w'
  drop : ∀ {B w q l}, PW B w q l → B ≤ w.heap.size → Good l → l.length ≤ 100 → ∀ gen, Num gen → Calls Try.prog 16 #[.pointer (some ⟨q, 0, none⟩), .int .i64 gen] w fun e w' => e = .returned (.int .i64 (drop l gen).2) ∧ Moved PW B w q (drop l gen).1 w'
  all : ∀ {B w q l}, PW B w q l → Good l → l.length ≤ 100 → Calls Try.prog 11 #[.pointer (some ⟨q, 0, none⟩)] w fun e w' => ∃ p c, e = .returned (.slice p l.length c) ∧ Lies w' p l ∧ Below w.heap.size w w'
  nput : ∀ x w, Calls Try.prog 15 #[.pointer none, val x] w fun e w' => e = .returned (.int .i64 1) ∧ Below w.heap.size w w'
  nspend : ∀ key cost now w, Calls Try.prog 14 #[.pointer none, .int .i64 key, .int .i64 cost, .int .i64 now] w fun e w' => e = .returned (.tuple #[.int .i64 0, .bool false]) ∧ Below w.heap.size w w'
  nleft : ∀ key now w, Calls Try.prog 12 #[.pointer none, .int .i64 key, .int .i64 now] w fun e w' => e = .returned (.int .i64 0) ∧ Below w.heap.size w w'
  nclose : ∀ key gen w, Calls Try.prog 17 #[.pointer none, .int .i64 key, .int .i64 gen] w fun e w' => e = .returned (.int .i64 (-1)) ∧ Below w.heap.size w w'
  ndrop : ∀ gen w, Calls Try.prog 16 #[.pointer none, .int .i64 gen] w fun e w' => e = .returned (.int .i64 0) ∧ Below w.heap.size w w'
  nall : ∀ w, Calls Try.prog 11 #[.pointer none] w fun e w' => ∃ p c, e = .returned (.slice p 0 c) ∧ Below w.heap.size w w'

def x1 : Lz := ⟨3, 7, 5, 0, 20⟩
def x2 : Lz := ⟨3, 7, 5, 4, 20⟩
theorem al1 : put [] x1 = ([x1], 0) := rfl
theorem al2 : spend [x1] 3 4 19 = ([x2], 7, true) := rfl
theorem al3 : spend [x2] 3 2 19 = ([x2], 0, false) := rfl
theorem al4 : spend [x2] 3 1 20 = ([x2], 0, false) := rfl
theorem al5 : left [x2] 3 0 = 1 := rfl
theorem al6 : close [x2] 3 7 = ([], 4) := rfl
theorem al7 : close [] 3 7 = ([], -1) := rfl
theorem num_small {x : Int} (h : -100 ≤ x ∧ x ≤ 100) : Num x := by unfold Num; omega
theorem nums_x1 : Nums x1 := ⟨num_small (by decide), num_small (by decide), num_small (by decide), num_small (by decide), num_small (by decide)⟩
theorem good_x1 : Good [x1] := good_put good_nil nums_x1
theorem good_x2 : Good [x2] := good_spend good_x1 3 4 19

set_option maxRecDepth 100000 in
set_option maxHeartbeats 4000000 in
theorem alive_way {PW : Pw} (P : Way11 PW) (w : World) : Calls Try.prog 5 #[] w fun e w' => e = .returned (.bool true) ∧ Below w.heap.size w w' := by
  have n : ∀ x : Int, -100 ≤ x ∧ x ≤ 100 → Num x := fun x h => num_small h
  have c0 := P.new w
  have c1 := fun q u (h : PW w.heap.size u q []) (hb : w.heap.size ≤ u.heap.size) => P.put h hb good_nil (by simp) x1 nums_x1
  have c2 := fun q u (h : PW w.heap.size u q [x1]) (hb : w.heap.size ≤ u.heap.size) => P.spend h hb good_x1 (by simp) 3 4 19 (n _ (by omega)) (n _ (by omega)) (n _ (by omega))
  have c3 := fun q u (h : PW w.heap.size u q [x2]) (hb : w.heap.size ≤ u.heap.size) => P.spend h hb good_x2 (by simp) 3 2 19 (n _ (by omega)) (n _ (by omega)) (n _ (by omega))
  have c4 := fun q u (h : PW w.heap.size u q [x2]) (hb : w.heap.size ≤ u.heap.size) => P.spend h hb good_x2 (by simp) 3 1 20 (n _ (by omega)) (n _ (by omega)) (n _ (by omega))
  have c5 := fun q u (h : PW w.heap.size u q [x2]) => P.left h good_x2 (by simp) 3 0 (n _ (by omega)) (n _ (by omega))
  have c6 := fun q u (h : PW w.heap.size u q [x2]) (hb : w.heap.size ≤ u.heap.size) => P.close h hb good_x2 (by simp) 3 7 (n _ (by omega)) (n _ (by omega))
  have c7 := fun q u (h : PW w.heap.size u q []) (hb : w.heap.size ≤ u.heap.size) => P.close h hb good_nil (by simp) 3 7 (n _ (by omega)) (n _ (by omega))
  have PB := Lib.hid (fun (u u' : World) (q : Nat) (l : List Lz) (h : PW w.heap.size u q l) (hb : Below u.heap.size u u') => P.below h hb)
  simp only [al1, al2, al3, al4, al5, al6, al7] at c1 c2 c3 c4 c5 c6 c7
  simp only [val, x1] at c1
  clear P n
  go_enter Try.func5, Try.ntmps5
  go_wp2_with (first
    | (go_at_call 6; (with_reducible refine c0.mono ?_); rintro e u0 ⟨q, rfl, h0, hb⟩; have H0 := Lib.hid h0; have B0 := Lib.hid hb; clear h0 hb c0)
    | (go_at_call 15; (with_reducible refine (c1 _ _ H0.out B0.out.size).mono ?_); rintro e u1 ⟨rfl, hm⟩; have H1 := Lib.hid hm.pw; have B1 := Lib.hid (B0.out.trans hm.below); clear hm c1)
    | (go_at_call 14; (with_reducible refine (c2 _ _ H1.out B1.out.size).mono ?_); rintro e u2 ⟨rfl, hm⟩; have H2 := Lib.hid hm.pw; have B2 := Lib.hid (B1.out.trans hm.below); clear hm c2)
    | (go_at_call 14; (with_reducible refine (c3 _ _ H2.out B2.out.size).mono ?_); rintro e u3 ⟨rfl, hm⟩; have H3 := Lib.hid hm.pw; have B3 := Lib.hid (B2.out.trans hm.below); clear hm c3)
    | (go_at_call 14; (with_reducible refine (c4 _ _ H3.out B3.out.size).mono ?_); rintro e u4 ⟨rfl, hm⟩; have H4 := Lib.hid hm.pw; have B4 := Lib.hid (B3.out.trans hm.below); clear hm c4)
    | (go_at_call 12; (with_reducible refine (c5 _ _ H4.out).mono ?_); rintro e u5 ⟨rfl, hb⟩; have H5 := Lib.hid (PB.out _ _ _ _ H4.out hb); have B5 := Lib.hid (B4.out.trans (hb.mono B4.out.size)); clear hb c5)
    | (go_at_call 17; (with_reducible refine (c6 _ _ H5.out B5.out.size).mono ?_); rintro e u6 ⟨rfl, hm⟩; have H6 := Lib.hid hm.pw; have B6 := Lib.hid (B5.out.trans hm.below); clear hm c6)
    | (go_at_call 17; (with_reducible refine (c7 _ _ H6.out B6.out.size).mono ?_); rintro e u7 ⟨rfl, hm⟩; have B7 := Lib.hid (B6.out.trans hm.below); clear hm c7))
  go_ret
  exact ⟨rfl, B7.out⟩
end Go.Proofs.Ytlipepbemofihaa.Lease
