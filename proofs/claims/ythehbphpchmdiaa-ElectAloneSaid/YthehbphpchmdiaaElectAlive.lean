/-
  The live question of annonalaw17; its of.
-/
import Derived.Test.YthehbphpchmdiaaElectWay
namespace Go.Proofs.Ythehbphpchmdiaa.Elect
open Go.RowKit
open _root_.Go.Proofs.Ythehbphpchmdiaa.Codec (lt_of_heap frozen_of heap_set below_new)
open _root_.Go.Proofs.Ythehbphpchmdiaa.Kit (cell_on lt_heap below_drewN)

def a0 : El := start 3 1 4 1
def a1 : El := (stand a0).1
def a2 : El := (take a1 7 4).1
def a3 : El := (take a2 7 4).1
def a4 : El := (take a3 9 1).1
theorem rs_ext {a b : Rs} (h : same4 a b = true) : a = b := by
  obtain ⟨a1, a2, a3, a4⟩ := a
  obtain ⟨b1, b2, b3, b4⟩ := b
  simpa [same4, and_assoc] using h
theorem av1 : (stand a0).2 = (⟨true, 7, 2, false⟩, 0) := Prod.ext (rs_ext (by decide +kernel)) (by decide +kernel)
theorem av2 : (take a1 7 4).2 = ⟨false, 7, 6, true⟩ := rs_ext (by decide +kernel)
theorem av3 : (take a2 7 4).2 = noRs := rs_ext (by decide +kernel)
theorem av4 : (take a3 9 1).2 = ⟨true, 9, 3, false⟩ := rs_ext (by decide +kernel)
theorem av5 : a4.promised = 9 ∧ a4.round = 2 ∧ a4.ballot = 0 := by decide +kernel
theorem set_small {x : Int} (h : 0 ≤ x ∧ x ≤ 100) : Set64 x := by unfold Set64; omega
theorem num_small {x : Int} (h : -100 ≤ x ∧ x ≤ 100) : Num x := by unfold Num; omega
set_option maxRecDepth 100000 in
set_option maxHeartbeats 4000000 in
theorem alive_way {PW : Pw} (P : Way17 PW) (w : World) : Calls Try.prog 5 #[] w fun e w' => e = .returned (.bool true) ∧ Below w.heap.size w w' := by
  have c0 := (P.new 3 1 4 1 w (by decide)).mono (R' := fun y w' => ∃ q, y = .returned (.tuple #[.pointer (some ⟨q, 0, none⟩), .int .i64 0]) ∧ Al PW w q a0 [] w') fun y w' ⟨q, he, h1, h2⟩ => ⟨q, he, _, h1, (fun x hx => by cases hx), h2⟩
  have c1 := Lib.hid (fun q bs u (h : Al PW w q a0 bs u) => show Calls Try.prog 12 _ u (fun y w' => y = .returned (.tuple #[rsVal ⟨true, 7, 2, false⟩, .int .i64 0]) ∧ Al PW w q a1 bs w') from by
    obtain ⟨F, h1, h2, h3⟩ := h
    exact (P.stand h1 h3.size).mono fun y w' ⟨he, hm⟩ => ⟨by rw [he, av1], F, hm.pw, fun x hx => ⟨(h2 x hx).1, (hm.rest.same _ (h2 x hx).1 (lt_heap (h2 x hx).2)).trans (h2 x hx).2⟩, h3.trans hm.below⟩)
  have c2 := Lib.hid (fun q bs u (h : Al PW w q a1 bs u) => show Calls Try.prog 13 _ u (fun y w' => y = .returned (rsVal ⟨false, 7, 6, true⟩) ∧ Al PW w q a2 bs w') from by
    obtain ⟨F, h1, h2, h3⟩ := h
    exact (P.take h1 h3.size 7 4 (num_small (by omega)) (set_small (by omega))).mono fun y w' ⟨he, hm⟩ => ⟨by rw [he, av2], F, hm.pw, fun x hx => ⟨(h2 x hx).1, (hm.rest.same _ (h2 x hx).1 (lt_heap (h2 x hx).2)).trans (h2 x hx).2⟩, h3.trans hm.below⟩)
  have c3 := Lib.hid (fun q bs u (h : Al PW w q a2 bs u) => show Calls Try.prog 13 _ u (fun y w' => y = .returned (rsVal noRs) ∧ Al PW w q a3 bs w') from by
    obtain ⟨F, h1, h2, h3⟩ := h
    exact (P.take h1 h3.size 7 4 (num_small (by omega)) (set_small (by omega))).mono fun y w' ⟨he, hm⟩ => ⟨by rw [he, av3], F, hm.pw, fun x hx => ⟨(h2 x hx).1, (hm.rest.same _ (h2 x hx).1 (lt_heap (h2 x hx).2)).trans (h2 x hx).2⟩, h3.trans hm.below⟩)
  have c4 := Lib.hid (fun q bs u (h : Al PW w q a3 bs u) => show Calls Try.prog 13 _ u (fun y w' => y = .returned (rsVal ⟨true, 9, 3, false⟩) ∧ Al PW w q a4 bs w') from by
    obtain ⟨F, h1, h2, h3⟩ := h
    exact (P.take h1 h3.size 9 1 (num_small (by omega)) (set_small (by omega))).mono fun y w' ⟨he, hm⟩ => ⟨by rw [he, av4], F, hm.pw, fun x hx => ⟨(h2 x hx).1, (hm.rest.same _ (h2 x hx).1 (lt_heap (h2 x hx).2)).trans (h2 x hx).2⟩, h3.trans hm.below⟩)
  have c5 := Lib.hid (fun q bs u (h : Al PW w q a4 bs u) => show Calls Try.prog 8 _ u (fun y w' => y = .returned (.int .i64 9) ∧ Al PW w q a4 bs w') from by
    obtain ⟨F, h1, h2, h3⟩ := h
    exact (P.promised h1).mono fun y w' ⟨he, hb⟩ => ⟨by rw [he, av5.1], Al.on P ⟨F, h1, h2, h3⟩ hb⟩)
  have c6 := Lib.hid (fun q bs u (h : Al PW w q a4 bs u) => show Calls Try.prog 10 _ u (fun y w' => y = .returned (.int .i64 2) ∧ Al PW w q a4 bs w') from by
    obtain ⟨F, h1, h2, h3⟩ := h
    exact (P.round h1).mono fun y w' ⟨he, hb⟩ => ⟨by rw [he, av5.2.1], Al.on P ⟨F, h1, h2, h3⟩ hb⟩)
  have c7 := Lib.hid (fun q bs u (h : Al PW w q a4 bs u) => show Calls Try.prog 11 _ u (fun y w' => y = .returned (.int .i64 0) ∧ Al PW w q a4 bs w') from by
    obtain ⟨F, h1, h2, h3⟩ := h
    exact (P.standing h1).mono fun y w' ⟨he, hb⟩ => ⟨by rw [he, av5.2.2], Al.on P ⟨F, h1, h2, h3⟩ hb⟩)
  have AB := Lib.hid (fun q e bs u r (h : Al PW w q e bs u) => h.box P r)
  have AO := Lib.hid (fun q e bs u u' (h : Al PW w q e bs u) (hb : Below u.heap.size u u') => h.on P hb)
  have d1 := fun u => eql4 ⟨true, 7, 2, false⟩ ⟨true, 7, 2, false⟩ u
  have d2 := fun u => eql4 ⟨false, 7, 6, true⟩ ⟨false, 7, 6, true⟩ u
  have d3 := fun u => eql4 noRs noRs u
  have d4 := fun u => eql4 ⟨true, 9, 3, false⟩ ⟨true, 9, 3, false⟩ u
  rw [same4_self] at d1 d2 d3 d4
  simp only [rsVal, noRs] at c1 c2 c3 c4 d1 d2 d3 d4
  clear P
  go_enter Try.func5, Try.ntmps5
  go_wp2_with (first
    | (go_at_call 6; (with_reducible refine c0.mono ?_); rintro y u0 ⟨q, rfl, h0⟩; have H0 := Lib.hid h0; clear h0 c0)
    | (go_at_call 12; (with_reducible refine (c1.out _ _ _ H0.out).mono ?_); rintro y u1 ⟨rfl, h1⟩; have H1 := Lib.hid (AB.out _ _ _ _ ⟨true, 7, 2, false⟩ h1); simp only [rsObj] at H1; clear h1 c1 H0)
    | (go_at_call 13; (with_reducible refine (c2.out _ _ _ H1.out).mono ?_); rintro y u2 ⟨rfl, h1⟩; have H2 := Lib.hid (AB.out _ _ _ _ ⟨false, 7, 6, true⟩ h1); simp only [rsObj] at H2; clear h1 c2 H1)
    | (go_at_call 13; (with_reducible refine (c3.out _ _ _ H2.out).mono ?_); rintro y u3 ⟨rfl, h1⟩; have H3 := Lib.hid (AB.out _ _ _ _ ⟨false, 0, 0, false⟩ h1); simp only [rsObj] at H3; clear h1 c3 H2)
    | (go_at_call 13; (with_reducible refine (c4.out _ _ _ H3.out).mono ?_); rintro y u4 ⟨rfl, h1⟩; have H4 := Lib.hid (AB.out _ _ _ _ ⟨true, 9, 3, false⟩ h1); have HA := AB.out _ _ _ _ ⟨true, 9, 3, false⟩ h1; obtain ⟨p0, p1, p2, p3⟩ := HA.cells (b := u1.heap.size) (r := ⟨true, 7, 2, false⟩) (by simp); obtain ⟨q0, q1, q2, q3⟩ := HA.cells (b := u2.heap.size) (r := ⟨false, 7, 6, true⟩) (by simp); obtain ⟨r0, r1, r2, r3⟩ := HA.cells (b := u3.heap.size) (r := ⟨false, 0, 0, false⟩) (by simp); obtain ⟨s0, s1, s2, s3⟩ := HA.cells (b := u4.heap.size) (r := ⟨true, 9, 3, false⟩) (by simp); simp only [rsObj] at H4 p0 p1 p2 p3 q0 q1 q2 q3 r0 r1 r2 r3 s0 s1 s2 s3; clear h1 c4 H3 HA)
    | (go_at_call 8; (with_reducible refine (c5.out _ _ _ H4.out).mono ?_); rintro y u5 ⟨rfl, h1⟩; have H5 := Lib.hid h1; clear h1 c5 H4)
    | (go_at_call 10; (with_reducible refine (c6.out _ _ _ H5.out).mono ?_); rintro y u6 ⟨rfl, h1⟩; have H6 := Lib.hid h1; clear h1 c6 H5)
    | (go_at_call 11; (with_reducible refine (c7.out _ _ _ H6.out).mono ?_); rintro y u7 ⟨rfl, h1⟩; have H7 := Lib.hid h1; clear h1 c7 H6))
  go_ret
  exact ⟨rfl, H7.out.below⟩
end Go.Proofs.Ythehbphpchmdiaa.Elect
