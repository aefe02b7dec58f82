/-
  What is asked of the program's view, whatever its blocks are: a predicate on memory, and what each call tells and leaves (Way16); the live question.
-/
import Derived.Test.YtgbenfdffhcjiaaViewWords
import Derived.Deep.RegionHeld3
import Derived.IntWalk
namespace Go.Proofs.Ytgbenfdffhcjiaa.View
open Go.RowKit
open _root_.Go.Proofs.Ytgbenfdffhcjiaa.Codec (lt_of_heap frozen_of heap_set below_new)
open _root_.Go.Proofs.Ytgbenfdffhcjiaa.Kit (Enc Lies Own At Kept Laid Off cell_on lt_heap take_snoc below_drewN ints)

/-- What is none of F's blocks, and none of the document's views, stays. -/
structure Spare (F : Nat → Prop) (w w' : World) : Prop where
  size : w.heap.size ≤ w'.heap.size
  obj : ∀ (g : Nat) (o : Obj), w.heap[g]? = some o → ¬ F g → (∀ cs t z, o = Obj.cells cs t z → t ∉ [38]) → w'.heap[g]? = some o
theorem Spare.of_kept {F : Nat → Prop} {w w' : World} (h : Kept [38] w w') : Spare F w w' := ⟨h.size, fun g o e _ ht => h.obj g o e ht⟩
theorem Spare.of_below {F : Nat → Prop} {w w' : World} (h : Below w.heap.size w w') : Spare F w w' := .of_kept (Kept.of_below h)
/-- A cell of a block of F's is written. -/
theorem Spare.set {F : Nat → Prop} {w : World} {b o : Nat} (hb : F b) (v : Value) : Spare F w (w.setCell ⟨b, o, none⟩ v) :=
  ⟨by simp, fun g x e hF _ => (Below.heap_setCell w ⟨b, o, none⟩ v g (by rintro rfl; exact hF hb)).trans e⟩
abbrev Pw := (Nat → Prop) → Nat → World → Nat → Vw → Prop
/-- The program's view moves; the blocks of F stay, and the document's. -/
structure Moved (PW : Pw) (F : Nat → Prop) (B : Nat) (w : World) (q : Nat) (V : Vw) (w' : World) : Prop where
  pw : PW F B w' q V
  off : Off [38] w w'
  below : Below B w w'
  rest : Stays F w w'
structure Way16 (PW : Pw) : Prop where
  turned : ∀ {F G B w q V w'}, PW F B w q V → Spare F w w' → (∀ g, G g → F g ∨ w.heap.size ≤ g) → PW G B w' q V
  new : ∀ n node span now w, okNew n node = true → Num span → Num now → Calls Try.prog 6 #[.int .i64 n, .int .i64 node, .int .i64 span, .int .i64 now] w fun e w' => ∃ q, e = .returned (.tuple #[.pointer (some ⟨q, 0, none⟩), .int .i64 0]) ∧ PW (fun g => g < w.heap.size) w.heap.size w' q (start n node span now) ∧ Below w.heap.size w w'
  bad : ∀ n node span now w, okNew n node = false → Num n → Num node → Calls Try.prog 6 #[.int .i64 n, .int .i64 node, .int .i64 span, .int .i64 now] w fun e w' => e = .returned (.tuple #[.pointer none, .int .i64 1]) ∧ Below w.heap.size w w'
  hear : ∀ {F B w q V}, PW F B w q V → B ≤ w.heap.size → ∀ i x, Num i → Num x → Calls Try.prog 8 #[.pointer (some ⟨q, 0, none⟩), .int .i64 i, .int .i64 x] w fun e w' => e = .returned (.tuple #[]) ∧ Moved PW F B w q (hear V i x) w'
  live : ∀ {F B w q V}, PW F B w q V → ∀ now, Num now → Calls Try.prog 12 #[.pointer (some ⟨q, 0, none⟩), .int .i64 now] w fun e w' => e = .returned (.int .u64 (live V now)) ∧ Below w.heap.size w w'
  next : ∀ {F B w q V}, PW F B w q V → ∀ now, Num now → Calls Try.prog 14 #[.pointer (some ⟨q, 0, none⟩), .int .i64 now] w fun e w' => e = .returned (.int .i64 (next V now)) ∧ Below w.heap.size w w'
  heard : ∀ {F B w q V}, PW F B w q V → Calls Try.prog 11 #[.pointer (some ⟨q, 0, none⟩)] w fun e w' => ∃ p c, e = .returned (.slice p V.l.length c) ∧ Lies ints w' p V.l ∧ Below w.heap.size w w'
  nhear : ∀ i x w, Calls Try.prog 8 #[.pointer none, .int .i64 i, .int .i64 x] w fun e w' => e = .returned (.tuple #[]) ∧ Below w.heap.size w w'
  nlive : ∀ now w, Calls Try.prog 12 #[.pointer none, .int .i64 now] w fun e w' => e = .returned (.int .u64 0) ∧ Below w.heap.size w w'
  nnext : ∀ now w, Calls Try.prog 14 #[.pointer none, .int .i64 now] w fun e w' => e = .returned (.int .i64 (-1)) ∧ Below w.heap.size w w'
  nheard : ∀ w, Calls Try.prog 11 #[.pointer none] w fun e w' => ∃ p c, e = .returned (.slice p 0 c) ∧ Below w.heap.size w w'
section
variable {PW : Pw} {F : Nat → Prop} {B q : Nat} {w w' u : World} {V V' : Vw}
theorem Way16.below (P : Way16 PW) (h : PW F B w q V) (hb : Below w.heap.size w w') : PW F B w' q V := P.turned h (.of_below hb) fun _ hg => .inl hg
theorem Moved.on (P : Way16 PW) (h : Moved PW F B w q V w') (hB : B ≤ w'.heap.size) (hb : Below w'.heap.size w' u) : Moved PW F B w q V u :=
  ⟨P.below h.pw hb, h.off.trans (Off.of_below hb), h.below.trans (hb.mono hB), h.rest.trans (Stays.below hb)⟩
/-- A view of the program's, while it is used alone. -/
structure Al (PW : Pw) (w : World) (q : Nat) (V : Vw) (u : World) : Prop where
  pw : PW (fun g => g < w.heap.size) w.heap.size u q V
  below : Below w.heap.size w u
theorem Al.on (P : Way16 PW) (h : Al PW w q V u) (hb : Below u.heap.size u w') : Al PW w q V w' := ⟨P.below h.pw hb, h.below.trans (hb.mono h.below.size)⟩
theorem Al.moved (h : Al PW w q V u) (hm : Moved PW (fun g => g < w.heap.size) w.heap.size u q V' w') : Al PW w q V' w' := ⟨hm.pw, h.below.trans hm.below⟩
end
def v0 : Vw := start 4 1 10 5
def v1 : Vw := hear v0 3 9
theorem av1 : live v1 14 = 15 := by decide +kernel
theorem av2 : live v1 15 = 10 := by decide +kernel
theorem av3 : next v1 15 = 3 := by decide +kernel
theorem av4 : next v1 19 = 1 := by decide +kernel
theorem av5 : v1.l.length = 4 := by decide +kernel
theorem num_small {x : Int} (h : -100 ≤ x ∧ x ≤ 100) : Num x := by unfold Num; omega
set_option maxRecDepth 100000 in
set_option maxHeartbeats 4000000 in
theorem alive_way {PW : Pw} (P : Way16 PW) (w : World) : Calls Try.prog 5 #[] w fun e w' => e = .returned (.bool true) ∧ Below w.heap.size w w' := by
  have c0 := (P.new 4 1 10 5 w (by decide) (num_small (by omega)) (num_small (by omega))).mono (R' := fun e w' => ∃ q, e = .returned (.tuple #[.pointer (some ⟨q, 0, none⟩), .int .i64 0]) ∧ Al PW w q v0 w') fun e w' ⟨q, he, h1, h2⟩ => ⟨q, he, h1, h2⟩
  have c1 := Lib.hid (fun q u (h : Al PW w q v0 u) => (P.hear h.pw h.below.size 3 9 (num_small (by omega)) (num_small (by omega))).mono (R' := fun e w' => e = .returned (.tuple #[]) ∧ Al PW w q v1 w') fun e w' ⟨he, hm⟩ => ⟨he, h.moved hm⟩)
  have c2 := Lib.hid (fun q u (h : Al PW w q v1 u) => (P.live h.pw 14 (num_small (by omega))).mono (R' := fun e w' => e = .returned (.int .u64 15) ∧ Al PW w q v1 w') fun e w' ⟨he, hb⟩ => ⟨by rw [he, av1], h.on P hb⟩)
  have c3 := Lib.hid (fun q u (h : Al PW w q v1 u) => (P.live h.pw 15 (num_small (by omega))).mono (R' := fun e w' => e = .returned (.int .u64 10) ∧ Al PW w q v1 w') fun e w' ⟨he, hb⟩ => ⟨by rw [he, av2], h.on P hb⟩)
  have c5 := Lib.hid (fun q u (h : Al PW w q v1 u) => (P.next h.pw 15 (num_small (by omega))).mono (R' := fun e w' => e = .returned (.int .i64 3) ∧ Al PW w q v1 w') fun e w' ⟨he, hb⟩ => ⟨by rw [he, av3], h.on P hb⟩)
  have c6 := Lib.hid (fun q u (h : Al PW w q v1 u) => (P.next h.pw 19 (num_small (by omega))).mono (R' := fun e w' => e = .returned (.int .i64 1) ∧ Al PW w q v1 w') fun e w' ⟨he, hb⟩ => ⟨by rw [he, av4], h.on P hb⟩)
  have c4 := Lib.hid (fun q u (h : Al PW w q v1 u) => (P.heard h.pw).mono (R' := fun e w' => ∃ p c, e = .returned (.slice p 4 c) ∧ Al PW w q v1 w') fun e w' ⟨p, c, he, _, hb⟩ => ⟨p, c, he, h.on P hb⟩)
  clear P
  go_enter Try.func5, Try.ntmps5
  go_wp2_with (first
    | (go_at_call 6; (with_reducible refine c0.mono ?_); rintro e u0 ⟨q, rfl, h0⟩; have H0 := Lib.hid h0; clear h0 c0)
    | (go_at_call 8; (with_reducible refine (c1.out _ _ H0.out).mono ?_); rintro e u1 ⟨rfl, h1⟩; have H1 := Lib.hid h1; clear h1 c1 H0)
    | (go_at_call 12; (with_reducible refine (c2.out _ _ H1.out).mono ?_); rintro e u2 ⟨rfl, h1⟩; have H2 := Lib.hid h1; clear h1 c2 H1)
    | (go_at_call 12; (with_reducible refine (c3.out _ _ H2.out).mono ?_); rintro e u3 ⟨rfl, h1⟩; have H3 := Lib.hid h1; clear h1 c3 H2)
    | (go_at_call 14; (with_reducible refine (c5.out _ _ H3.out).mono ?_); rintro e u4 ⟨rfl, h1⟩; have H4 := Lib.hid h1; clear h1 c5 H3)
    | (go_at_call 14; (with_reducible refine (c6.out _ _ H4.out).mono ?_); rintro e u5 ⟨rfl, h1⟩; have H5 := Lib.hid h1; clear h1 c6 H4)
    | (go_at_call 11; (with_reducible refine (c4.out _ _ H5.out).mono ?_); rintro e u6 ⟨p, c, rfl, h1⟩; have H6 := Lib.hid h1; clear h1 c4 H5))
  go_ret
  exact ⟨rfl, H6.out.below⟩
end Go.Proofs.Ytgbenfdffhcjiaa.View
