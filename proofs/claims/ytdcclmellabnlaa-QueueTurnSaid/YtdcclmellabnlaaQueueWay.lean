/-
  What is asked of the program's queue, whatever its blocks are: a predicate on memory, and what each call tells and leaves (Way12); the live question.
-/
import Derived.Test.YtdcclmellabnlaaQueuePut
import Derived.Test.YtdcclmellabnlaaQueueTake
import Derived.Test.YtdcclmellabnlaaQueueExpire
import Derived.Test.YtdcclmellabnlaaQueueKeys
import Derived.Test.YtdcclmellabnlaaQueueSame
import Derived.Deep.RegionHeld3
namespace Go.Proofs.Ytdcclmellabnlaa.Queue
open Go.RowKit
open _root_.Go.Proofs.Ytdcclmellabnlaa.Codec (lt_of_heap frozen_of heap_set below_new own_below)
open _root_.Go.Proofs.Ytdcclmellabnlaa.Kit (Enc Lies Own At Kept Laid Off cell_on lt_heap take_snoc below_drewN box5 ints)

/-- The document's blocks. -/
abbrev mine : List TypeId := [32, 49]
theorem Qu.off {w w' : World} {B v : Nat} {room : Int} {l : List It} (h : Qu B w v room l) (ho : Off mine w w') : Qu B w' v room l := by
  obtain ⟨h0, y, h1, h2⟩ := h
  exact ⟨h0, y, ho.block v _ _ _ h1 (by simp [mine]), Own.off h2 ho (by simp [mine])⟩
/-- The first one of a list. -/
def head : List It → It × Bool
  | [] => (z, false)
  | x :: _ => (x, true)
/-- Of: blocks that are none of the queue's, where these begin, the world, the queue's address, its room, its items. -/
abbrev Pw := (Nat → Prop) → Nat → World → Nat → Int → List It → Prop
/-- The program's queue moves. -/
structure Moved (PW : Pw) (F : Nat → Prop) (B : Nat) (w : World) (q : Nat) (room : Int) (l : List It) (w' : World) : Prop where
  pw : PW F B w' q room l
  off : Off mine w w'
  below : Below B w w'
  rest : ∀ g, F g → g < w.heap.size → w'.heap[g]? = w.heap[g]?
structure Way12 (PW : Pw) : Prop where
  below : ∀ {F B w q room l w'}, PW F B w q room l → Below w.heap.size w w' → PW F B w' q room l
  kept : ∀ {F B w q room l w'}, PW F B w q room l → Kept [32] w w' → Below B w w' → PW F B w' q room l
  sub : ∀ {F G B w q room l}, PW F B w q room l → (∀ g, G g → F g) → PW G B w q room l
  grow : ∀ {F B w q room l w'}, PW F B w q room l → Below w.heap.size w w' → PW (fun g => F g ∨ w.heap.size ≤ g ∧ g < w'.heap.size) B w' q room l
  new : ∀ room w, 0 ≤ room → room ≤ 16 → Calls Try.prog 6 #[.int .i64 room] w fun e w' => ∃ q, e = .returned (.tuple #[.pointer (some ⟨q, 0, none⟩), .int .i64 0]) ∧ PW (fun g => g < w.heap.size) w.heap.size w' q room [] ∧ Below w.heap.size w w'
  newno : ∀ room w, (room < 0 ∨ 16 < room) → Calls Try.prog 6 #[.int .i64 room] w fun e w' => e = .returned (.tuple #[.pointer none, .int .i64 1]) ∧ Below w.heap.size w w'
  put : ∀ {F B w q room l}, PW F B w q room l → B ≤ w.heap.size → Good room l → l.length ≤ 16 → ∀ x, Nums x → Calls Try.prog 21 #[.pointer (some ⟨q, 0, none⟩), val x] w fun e w' => e = .returned (.int .i64 (put room l x).2) ∧ Moved PW F B w q room (put room l x).1 w'
  take : ∀ {F B w q room l}, PW F B w q room l → B ≤ w.heap.size → Good room l → l.length ≤ 16 → ∀ id, Num id → Calls Try.prog 20 #[.pointer (some ⟨q, 0, none⟩), .int .i64 id] w fun e w' => e = .returned (.tuple #[val (take l id).2.1, .bool (take l id).2.2]) ∧ Moved PW F B w q room (take l id).1 w'
  expire : ∀ {F B w q room l}, PW F B w q room l → B ≤ w.heap.size → Good room l → l.length ≤ 16 → ∀ now, Num now → Calls Try.prog 22 #[.pointer (some ⟨q, 0, none⟩), .int .i64 now] w fun e w' => ∃ p c, e = .returned (.slice p (expire l now).2.length c) ∧ Lies item w' p (expire l now).2 ∧ Moved PW F B w q room (expire l now).1 w'
  first : ∀ {F B w q room l}, PW F B w q room l → Good room l → l.length ≤ 16 → ∀ key, Num key → Calls Try.prog 17 #[.pointer (some ⟨q, 0, none⟩), .int .i64 key] w fun e w' => e = .returned (.tuple #[val (head (of l key)).1, .bool (head (of l key)).2]) ∧ Below w.heap.size w w'
  of : ∀ {F B w q room l}, PW F B w q room l → Good room l → l.length ≤ 16 → ∀ key, Num key → Calls Try.prog 12 #[.pointer (some ⟨q, 0, none⟩), .int .i64 key] w fun e w' => ∃ p c, e = .returned (.slice p (of l key).length c) ∧ Lies item w' p (of l key) ∧ Below w.heap.size w w'
  keys : ∀ {F B w q room l}, PW F B w q room l → Good room l → l.length ≤ 16 → Calls Try.prog 15 #[.pointer (some ⟨q, 0, none⟩)] w fun e w' => ∃ p c, e = .returned (.slice p (keys l).length c) ∧ Lies ints w' p (keys l) ∧ Below w.heap.size w w'
  sum : ∀ {F B w q room l}, PW F B w q room l → Good room l → l.length ≤ 16 → ∀ key, Num key → Calls Try.prog 18 #[.pointer (some ⟨q, 0, none⟩), .int .i64 key] w fun e w' => e = .returned (.int .i64 (sum l key)) ∧ Below w.heap.size w w'
  all : ∀ {F B w q room l}, PW F B w q room l → Good room l → l.length ≤ 16 → Calls Try.prog 11 #[.pointer (some ⟨q, 0, none⟩)] w fun e w' => ∃ p c, e = .returned (.slice p l.length c) ∧ Lies item w' p l ∧ Below w.heap.size w w'
  nput : ∀ x w, Calls Try.prog 21 #[.pointer none, val x] w fun e w' => e = .returned (.int .i64 1) ∧ Below w.heap.size w w'
  ntake : ∀ id w, Calls Try.prog 20 #[.pointer none, .int .i64 id] w fun e w' => e = .returned (.tuple #[val z, .bool false]) ∧ Below w.heap.size w w'
  nexpire : ∀ now w, Calls Try.prog 22 #[.pointer none, .int .i64 now] w fun e w' => ∃ p c, e = .returned (.slice p 0 c) ∧ Below w.heap.size w w'
  nfirst : ∀ key w, Calls Try.prog 17 #[.pointer none, .int .i64 key] w fun e w' => e = .returned (.tuple #[val z, .bool false]) ∧ Below w.heap.size w w'
  nof : ∀ key w, Calls Try.prog 12 #[.pointer none, .int .i64 key] w fun e w' => ∃ p c, e = .returned (.slice p 0 c) ∧ Below w.heap.size w w'
  nkeys : ∀ w, Calls Try.prog 15 #[.pointer none] w fun e w' => ∃ p c, e = .returned (.slice p 0 c) ∧ Below w.heap.size w w'
  nsum : ∀ key w, Calls Try.prog 18 #[.pointer none, .int .i64 key] w fun e w' => e = .returned (.int .i64 0) ∧ Below w.heap.size w w'
  nall : ∀ w, Calls Try.prog 11 #[.pointer none] w fun e w' => ∃ p c, e = .returned (.slice p 0 c) ∧ Below w.heap.size w w'

theorem lay (w : World) (o : Obj) : Below w.heap.size w (w.alloc o) := (Below.refl _ _).alloc (Nat.le_refl _) o
def x1 : It := ⟨1, 5, 3, 2, 9⟩
def x2 : It := ⟨2, 5, 4, 0, 7⟩
def x3 : It := ⟨3, 5, 4, 0, 7⟩
theorem al1 : put 2 [] x1 = ([x1], 0) := rfl
theorem al2 : put 2 [x1] x2 = ([x1, x2], 0) := rfl
theorem al3 : put 2 [x1, x2] x3 = ([x1, x2], 3) := rfl
theorem al4 : head (of [x1, x2] 5) = (x2, true) := rfl
theorem al5 : sum [x1, x2] 5 = 7 := rfl
theorem al6 : expire [x1, x2] 7 = ([x1], [x2]) := rfl
theorem num_small {x : Int} (h : -100 ≤ x ∧ x ≤ 100) : Num x := by unfold Num; omega
theorem nums_x1 : Nums x1 := ⟨num_small (by decide), num_small (by decide), num_small (by decide), num_small (by decide), num_small (by decide)⟩
theorem nums_x2 : Nums x2 := ⟨num_small (by decide), num_small (by decide), num_small (by decide), num_small (by decide), num_small (by decide)⟩
theorem nums_x3 : Nums x3 := ⟨num_small (by decide), num_small (by decide), num_small (by decide), num_small (by decide), num_small (by decide)⟩
theorem good_0 : Good 2 [] := good_nil (by decide)
theorem good_1 : Good 2 [x1] := good_put good_0 nums_x1
theorem good_2 : Good 2 [x1, x2] := good_put good_1 nums_x2
theorem good_3 : Good 2 [x1] := good_expire good_2 7
set_option maxRecDepth 100000 in
set_option maxHeartbeats 4000000 in
theorem alive_way {PW : Pw} (P : Way12 PW) (w : World) : Calls Try.prog 5 #[] w fun e w' => e = .returned (.bool true) ∧ Below w.heap.size w w' := by
  have n : ∀ x : Int, -100 ≤ x ∧ x ≤ 100 → Num x := fun x h => num_small h
  have c0 := P.new 2 w (by decide) (by decide)
  have c1 := fun F q u (h : PW F w.heap.size u q 2 []) (hb : w.heap.size ≤ u.heap.size) => P.put h hb good_0 (by simp) x1 nums_x1
  have c2 := fun F q u (h : PW F w.heap.size u q 2 [x1]) (hb : w.heap.size ≤ u.heap.size) => P.put h hb good_1 (by simp) x2 nums_x2
  have c3 := fun F q u (h : PW F w.heap.size u q 2 [x1, x2]) (hb : w.heap.size ≤ u.heap.size) => P.put h hb good_2 (by simp) x3 nums_x3
  have c4 := fun F q u (h : PW F w.heap.size u q 2 [x1, x2]) => P.first h good_2 (by simp) 5 (n _ (by omega))
  have c5 := fun F q u (h : PW F w.heap.size u q 2 [x1, x2]) => P.sum h good_2 (by simp) 5 (n _ (by omega))
  have c6 := fun F q u (h : PW F w.heap.size u q 2 [x1, x2]) (hb : w.heap.size ≤ u.heap.size) => P.expire h hb good_2 (by simp) 7 (n _ (by omega))
  have c7 := fun F q u (h : PW F w.heap.size u q 2 [x1]) => P.all h good_3 (by simp)
  have PB := Lib.hid (fun (u u' : World) (q : Nat) (l : List It) (F : Nat → Prop) (h : PW F w.heap.size u q 2 l) (hb : Below u.heap.size u u') => P.below h hb)
  simp only [al1, al2, al3, al4, al5, al6, List.length_cons, List.length_nil, Nat.zero_add] at c1 c2 c3 c4 c5 c6 c7
  simp only [val, x1] at c1
  simp only [val, x2] at c2
  simp only [val, x3] at c3
  simp only [val, x2] at c4
  have HP := Lib.hid P
  clear P n
  go_enter Try.func5, Try.ntmps5
  go_wp2_with (first
    | (go_at_call 6; (with_reducible refine c0.mono ?_); rintro e u0 ⟨q, rfl, h0, hb⟩; have H0 := Lib.hid h0; have B0 := Lib.hid hb; clear h0 hb c0)
    | (go_at_call 21; (with_reducible refine (c1 _ _ _ H0.out B0.out.size).mono ?_); rintro e u1 ⟨rfl, hm⟩; have H1 := Lib.hid hm.pw; have B1 := Lib.hid (B0.out.trans hm.below); clear hm c1)
    | (go_at_call 21; (with_reducible refine (c2 _ _ _ H1.out B1.out.size).mono ?_); rintro e u2 ⟨rfl, hm⟩; have H2 := Lib.hid hm.pw; have B2 := Lib.hid (B1.out.trans hm.below); clear hm c2)
    | (go_at_call 21; (with_reducible refine (c3 _ _ _ H2.out B2.out.size).mono ?_); rintro e u3 ⟨rfl, hm⟩; have H3 := Lib.hid hm.pw; have B3 := Lib.hid (B2.out.trans hm.below); clear hm c3)
    | (go_at_call 17; (with_reducible refine (c4 _ _ _ H3.out).mono ?_); rintro e u4 ⟨rfl, hb⟩; have H4 := Lib.hid (PB.out _ _ _ _ _ H3.out hb); have B4 := Lib.hid (B3.out.trans (hb.mono B3.out.size)); clear hb c4; have H5 := Lib.hid (HP.out.sub (G := fun g => g = u4.heap.size) (HP.out.grow H4.out (lay u4 (.cells #[.int .i64 2, .int .i64 5, .int .i64 4, .int .i64 0, .int .i64 7] 35))) (fun g hg => .inr (by subst hg; simp))); have BX := Lib.hid (fun (u : World) (hu : Below (u4.alloc (.cells #[.int .i64 2, .int .i64 5, .int .i64 4, .int .i64 0, .int .i64 7] 35)).heap.size (u4.alloc (.cells #[.int .i64 2, .int .i64 5, .int .i64 4, .int .i64 0, .int .i64 7] 35)) u) => cell_on (box5 (heap_alloc_new u4 (.cells #[.int .i64 2, .int .i64 5, .int .i64 4, .int .i64 0, .int .i64 7] 35))).1 hu); have B5 := Lib.hid (B4.out.trans ((lay u4 (.cells #[.int .i64 2, .int .i64 5, .int .i64 4, .int .i64 0, .int .i64 7] 35)).mono B4.out.size)))
    | (go_at_call 18; (with_reducible refine (c5 _ _ _ H5.out).mono ?_); rintro e u6 ⟨rfl, hb⟩; have H6 := Lib.hid (PB.out _ _ _ _ _ H5.out hb); have B6 := Lib.hid (B5.out.trans (hb.mono B5.out.size)); have A6 := Lib.hid hb; clear hb c5)
    | (go_at_call 22; (with_reducible refine (c6 _ _ _ H6.out B6.out.size).mono ?_); rintro e u7 ⟨p7, d7, rfl, hl, hm⟩; have H7 := Lib.hid hm.pw; have B7 := Lib.hid (B6.out.trans hm.below); have x7 := cell_of_row u7 u4.heap.size 0 _ _ (0, 0) ((hm.rest u4.heap.size rfl (Nat.lt_of_lt_of_le (by simp) A6.out.size)).trans ((A6.out.block _ (by simp)).trans (heap_alloc_new u4 (.cells #[.int .i64 2, .int .i64 5, .int .i64 4, .int .i64 0, .int .i64 7] 35)))); simp only [List.getElem?_toArray, List.getElem?_cons_zero] at x7; obtain ⟨bl, ol, rfl, hat⟩ := lies_at hl (show 0 < 1 by omega); have y7 := (at5 hat).1; rw [Nat.zero_mul, Nat.add_zero] at y7; simp only [x2, List.getD_cons_zero] at y7; clear hm hl hat c6)
    | (go_at_call 11; (with_reducible refine (c7 _ _ _ H7.out).mono ?_); rintro e u8 ⟨p8, d8, rfl, -, hb⟩; have B8 := Lib.hid (B7.out.trans (hb.mono B7.out.size)); clear hb c7))
  go_ret
  exact ⟨rfl, B8.out⟩
end Go.Proofs.Ytdcclmellabnlaa.Queue
