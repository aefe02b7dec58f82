/-
  The live question of annonalaw15.
-/
import Derived.Test.YtkdjhphakopfeaaRelayStep
namespace Go.Proofs.Ytkdjhphakopfeaa.Relay
open Go.RowKit
open _root_.Go.Proofs.Ytkdjhphakopfeaa.Codec (lt_of_heap frozen_of heap_set below_new Ints)
open _root_.Go.Proofs.Ytkdjhphakopfeaa.Frame (Fr Tk Tb Rw frameOk Lying frameVal fitsTk)
open _root_.Go.Proofs.Ytkdjhphakopfeaa.Kit (Kept Off cell_on)

def fA : Fr := ⟨0, 1, 2, 0, 0, 0, ⟨7, 3, [4], ⟨0, []⟩⟩⟩
def kA (h : Int) : Fr := ⟨1, 2, 1, 7, h, 0, ⟨0, 0, [], ⟨0, []⟩⟩⟩
def s1 : Rl := ⟨some fA, 0⟩
def s2 : Rl := ⟨some fA, 1⟩
def s3 : Rl := ⟨none, 1⟩
theorem h1 : hold r0 fA = (s1, 0) := rfl
theorem h2 : hold s1 fA = (s1, 5) := rfl
theorem h3 : sends s1 = s2 ∧ heldF s1 = fA ∧ isHeld s1 = true := ⟨rfl, rfl, rfl⟩
theorem h4 : acks s2 (kA 2) = false ∧ ack s2 (kA 2) = s2 := ⟨rfl, rfl⟩
theorem h5 : acks s2 (kA 3) = true ∧ ack s2 (kA 3) = s3 := ⟨rfl, rfl⟩
theorem h6 : sends s3 = s3 ∧ heldF s3 = noFr ∧ isHeld s3 = false := ⟨rfl, rfl, rfl⟩
theorem ly_alive {F : Nat → Prop} {u : World} {b : Nat} {T : TypeId} (hF : F b) (h : u.heap[b]? = some (.cells #[.int .i64 4] T (0, 0))) : LyF F u fA (some ⟨b, 0, none⟩) none := by
  intro u' hs
  have h' := (hs.same b hF (lt_of_heap h)).trans h
  refine ⟨.inr ⟨b, 0, rfl, fun j hj => ?_⟩, .inl rfl, fun r hr => (by cases hr), (by decide), (by decide)⟩
  have hj' : j < 1 := hj
  obtain rfl : j = 0 := by omega
  rw [cell_of_row u' b 0 _ _ (0, 0) h']
  rfl
theorem ly_ack (u : World) (h : Int) (ps p : Option Addr) : Lying u (kA h) ps p := ⟨.inl rfl, .inl rfl, fun r hr => (by cases hr), by simp [kA], by simp [kA]⟩
/-- A relay under way. -/
structure Al (PW : Pw) (F : Nat → Prop) (w : World) (q : Nat) (s : Rl) (u : World) : Prop where
  pw : PW F w.heap.size u q s
  below : Below w.heap.size w u
section
variable {PW : Pw} {F : Nat → Prop} {w u u' : World} {q : Nat} {s s' : Rl}
theorem Al.on (P : Way15 PW) (h : Al PW F w q s u) (hb : Below u.heap.size u u') : Al PW F w q s u' := ⟨P.below h.pw hb, h.below.trans (hb.mono h.below.size)⟩
theorem Al.own (h : Al PW F w q s u) (hm : Moved PW F w.heap.size u q s' u') : Al PW F w q s' u' := ⟨hm.pw, h.below.trans hm.below⟩
theorem Al.start (P : Way15 PW) (h : PW (fun g => g < w.heap.size) w.heap.size u q r0) (hb : Below w.heap.size w u) (o : Obj) :
    ∃ G, Al PW G w q r0 ((u.alloc (.cells #[.int .i64 4] 3)).alloc o) ∧ LyF G ((u.alloc (.cells #[.int .i64 4] 3)).alloc o) fA (some ⟨u.heap.size, 0, none⟩) none := by
  have b1 := lay u (.cells #[.int .i64 4] 3)
  have b2 := lay (u.alloc (.cells #[.int .i64 4] 3)) o
  have k := heap_alloc_new u (.cells #[.int .i64 4] 3)
  have b3 := b1.trans (b2.mono b1.size)
  have k3 := (b2.block _ (lt_of_heap k)).trans k
  exact ⟨_, ⟨P.grow h b3, hb.trans (b3.mono hb.size)⟩, ly_alive (.inr ⟨Nat.le_refl _, lt_of_heap k3⟩) k3⟩
end
set_option maxRecDepth 100000 in
set_option maxHeartbeats 8000000 in
theorem alive_way {PW : Pw} (P : Way15 PW) (w : World) : Calls Try.prog 6 #[] w fun e w' => e = .returned (.bool true) ∧ Below w.heap.size w w' := by
  have c0 := P.new w
  have c1 := Lib.hid (fun F q u ps p cs c (h : Al PW F w q r0 u) (hl : LyF F u fA ps p) => P.hold h.pw h.below.size fA ps p cs c (by decide) (by decide) hl)
  have c2 := Lib.hid (fun F q u ps p cs c (h : Al PW F w q s1 u) (hl : LyF F u fA ps p) => P.hold h.pw h.below.size fA ps p cs c (by decide) (by decide) hl)
  have c3 := Lib.hid (fun F q u (h : Al PW F w q s1 u) => P.held h.pw h.below.size (by decide))
  have c4 := Lib.hid (fun F q u (h : Al PW F w q s2 u) => P.ack h.pw h.below.size (kA 2) none none 0 0 (by decide) (by decide) (ly_ack u 2 none none))
  have c5 := Lib.hid (fun F q u (h : Al PW F w q s2 u) => P.ack h.pw h.below.size (kA 3) none none 0 0 (by decide) (by decide) (ly_ack u 3 none none))
  have c6 := Lib.hid (fun F q u (h : Al PW F w q s3 u) => P.held h.pw h.below.size (by decide))
  have c7 := Lib.hid (fun F q u (h : Al PW F w q s3 u) => P.sent h.pw (by decide))
  rw [h1] at c1
  rw [h2] at c2
  rw [h3.1, h3.2.1, h3.2.2] at c3
  rw [h4.1, h4.2] at c4
  rw [h5.1, h5.2] at c5
  rw [h6.1, h6.2.1, h6.2.2] at c6
  simp only [frameVal, fA, kA, noFr, s3, List.length_cons, List.length_nil, Nat.zero_add] at c1 c2 c3 c4 c5 c6 c7
  have HP := Lib.hid P
  clear P
  go_enter Try.func6, Try.ntmps6
  go_wp2_with (first
    | (go_at_call 7; (with_reducible refine c0.mono ?_); rintro e u0 ⟨q, rfl, h0, hb⟩; obtain ⟨F, hA, hL⟩ := Al.start HP.out h0 hb (.cells #[.int .i64 0, .int .i64 1, .int .i64 2, .int .i64 0, .int .i64 0, .int .u64 0, .int .i64 7, .int .i64 3, .slice (some ⟨u0.heap.size, 0, none⟩) 1 1, .int .i64 0, .slice none 0 0] 41); simp only [fA] at hL; have A0 := Lib.hid hA; have L0 := Lib.hid hL; have k0 := (heap_alloc_new (u0.alloc (.cells #[.int .i64 4] 3)) (.cells #[.int .i64 0, .int .i64 1, .int .i64 2, .int .i64 0, .int .i64 0, .int .u64 0, .int .i64 7, .int .i64 3, .slice (some ⟨u0.heap.size, 0, none⟩) 1 1, .int .i64 0, .slice none 0 0] 41)); rw [show (u0.alloc (.cells #[.int .i64 4] 3)).heap.size = u0.heap.size + 1 by simp] at k0; have K0 := Lib.hid k0; clear k0; clear h0 hb hA hL c0)
    | (go_at_call 11; (with_reducible refine (c1.out _ _ _ _ _ _ _ A0.out L0.out).mono ?_); rintro e u1 ⟨rfl, hm⟩; have A1 := Lib.hid (A0.out.own hm); have L1 := Lib.hid (L0.out.on hm.rest); obtain ⟨y0, y1, y2, y3, y4, y5, y6, y7, y8, y9, y10⟩ := box11 (f := fA) (hm.off.block _ _ _ _ K0.out (by simp [mine])); simp only [fA, List.length_cons, List.length_nil, Nat.zero_add] at y0 y1 y2 y3 y4 y5 y6 y7 y8 y9 y10; clear hm c1 A0 L0)
    | (go_at_call 11; (with_reducible refine (c2.out _ _ _ _ _ _ _ A1.out L1.out).mono ?_); rintro e u2 ⟨rfl, hm⟩; have A2 := Lib.hid (A1.out.own hm); clear hm c2 A1 L1)
    | (go_at_call 10; (with_reducible refine (c3.out _ _ _ A2.out).mono ?_); rintro e u3 ⟨qs, q1, e1, e2, rfl, -, hm⟩; have A3 := Lib.hid ((A2.out.own hm).on HP.out (lay u3 (.cells #[.int .i64 0, .int .i64 1, .int .i64 2, .int .i64 0, .int .i64 0, .int .u64 0, .int .i64 7, .int .i64 3, .slice qs 1 e1, .int .i64 0, .slice q1 0 e2] 41))); have K3 := Lib.hid (heap_alloc_new u3 (.cells #[.int .i64 0, .int .i64 1, .int .i64 2, .int .i64 0, .int .i64 0, .int .u64 0, .int .i64 7, .int .i64 3, .slice qs 1 e1, .int .i64 0, .slice q1 0 e2] 41)); clear hm c3 A2)
    | (go_at_call 12; (with_reducible refine (c4.out _ _ _ A3.out).mono ?_); rintro e u4 ⟨rfl, hm⟩; have A4 := Lib.hid (A3.out.own hm); have K4 := Lib.hid (hm.off.block _ _ _ _ K3.out (by simp [mine])); clear hm c4 A3)
    | (go_at_call 12; (with_reducible refine (c5.out _ _ _ A4.out).mono ?_); rintro e u5 ⟨rfl, hm⟩; have A5 := Lib.hid (A4.out.own hm); have K5 := Lib.hid (hm.off.block _ _ _ _ K4.out (by simp [mine])); clear hm c5 A4)
    | (go_at_call 10; (with_reducible refine (c6.out _ _ _ A5.out).mono ?_); rintro e u6 ⟨qs6, q6, d6, e6, rfl, -, hm⟩; have A6 := Lib.hid ((A5.out.own hm).on HP.out (lay u6 (.cells #[.int .i64 0, .int .i64 0, .int .i64 0, .int .i64 0, .int .i64 0, .int .u64 0, .int .i64 0, .int .i64 0, .slice qs6 0 d6, .int .i64 0, .slice q6 0 e6] 41))); have k6 := hm.off.block _ _ _ _ K5.out (by simp [mine]); obtain ⟨j0, j1, j2, j3, j4, j5, j6, j7, j8, j9, j10⟩ := box11 (f := fA) (((lay u6 (.cells #[.int .i64 0, .int .i64 0, .int .i64 0, .int .i64 0, .int .i64 0, .int .u64 0, .int .i64 0, .int .i64 0, .slice qs6 0 d6, .int .i64 0, .slice q6 0 e6] 41)).block _ (lt_of_heap k6)).trans k6); simp only [fA, List.length_cons, List.length_nil, Nat.zero_add] at j0 j1 j2 j3 j4 j5 j6 j7 j8 j9 j10; clear hm c6 A5 k6)
    | (go_at_call 9; (with_reducible refine (c7.out _ _ _ A6.out).mono ?_); rintro e u7 ⟨rfl, hb⟩; have A7 := Lib.hid (A6.out.below.trans (hb.mono A6.out.below.size)); clear hb c7 A6))
  go_ret
  exact ⟨rfl, A7.out⟩
end Go.Proofs.Ytkdjhphakopfeaa.Relay
