/-
  annonalaw17's move: a node starts anew.
-/
import Derived.Test.YthehbphpchmdiaaElectHst3
import Derived.Deep.QuietTactic
import Derived.Deep.RegionLaw
namespace Go.Proofs.Ythehbphpchmdiaa.Elect
open Go.RowKit
open _root_.Go.Proofs.Ythehbphpchmdiaa.Codec (lt_of_heap frozen_of heap_set below_new)
open _root_.Go.Proofs.Ythehbphpchmdiaa.Kit (Enc Lies Own At Laid cell_on lt_heap take_snoc below_drewN ints)

theorem hst_round {PW : Pw} {W u : World} {hb : Nat} {qs : List Nat} {H : Hl} {bs : List (Nat × Obj)} (P : Way17 PW) (h : Hst PW W hb qs H bs u) {i : Nat} (hi : i < H.n) : Calls Try.prog 10 #[.pointer (some ⟨qs.getD i 0, 0, none⟩)] u fun y w' => y = .returned (.int .i64 (H.el i).round) ∧ Hst PW W hb qs H bs w' ∧ Below u.heap.size u w' := by
  have hh := h
  obtain ⟨F, y1, y2, y3, h1, h2, h3, h4, h5⟩ := h
  exact (P.round (h4 i hi)).mono fun y w' ⟨he, hb⟩ => ⟨he, hh.on P hb, hb⟩
theorem Hst.free {PW : Pw} {W u : World} {hb : Nat} {qs : List Nat} {H : Hl} {bs : List (Nat × Obj)} (h : Hst PW W hb qs H bs u) {b o n c : Nat} (hc : u.cell? ⟨hb, 1, none⟩ = some (.slice (some ⟨b, o, none⟩) n c)) : ∀ k, u.frozen? ⟨b, k, none⟩ = false := by
  obtain ⟨F, y1, y2, y3, h1, -⟩ := h
  have e1 : u.cell? ⟨hb, 1, none⟩ = some y1 := by rw [cell_of_row u hb 1 _ _ (0, 0) h1.hall]; rfl
  rw [e1, Option.some.injEq] at hc
  obtain ⟨-, -, cs, k⟩ := own_lt h1.o1 (g := b) (by rw [hc]; rfl)
  exact fun _ => frozen_of k
set_option maxRecDepth 100000 in
set_option maxHeartbeats 4000000 in
theorem move_new {PW : Pw} (P : Way17 PW) {W u : World} {hb : Nat} {qs : List Nat} {H : Hl} (h : Hst PW W hb qs H [] u) (hI : Inv H) (kd who what : Int) (k0 : 0 ≤ kd ∧ kd ≤ 255) (w0 : 0 ≤ who ∧ who ≤ 255) (hk : kd % 8 = 7) :
    Calls Try.prog 15 #[.pointer (some ⟨hb, 0, none⟩), .agg #[.int .u8 kd, .int .u8 who, .int .u16 what]] u fun y w' => y = .returned (.bool true) ∧ ∃ qs' H', Inv H' ∧ H'.n = H.n ∧ H'.frames.length ≤ H.frames.length + 1 ∧ H'.won.length ≤ H.won.length + 1 ∧ Hst PW W hb qs' H' [] w' := by
  obtain ⟨n0, n1⟩ := hI.n
  obtain ⟨k0, k1⟩ := k0
  obtain ⟨w0, w1⟩ := w0
  have HM := Lib.hid (h.box P (.cells #[.int .u8 kd, .int .u8 who, .int .u16 what] 56))
  obtain ⟨i, hi⟩ : ∃ i : Nat, who % (H.n : Int) = (i : Int) := ⟨(who % (H.n : Int)).toNat, by have := Int.emod_nonneg who (by omega : (H.n : Int) ≠ 0); omega⟩
  have il : i < H.n := by have := Int.emod_lt_of_pos who (by omega : 0 < (H.n : Int)); omega
  have hne : (H.n : Int) ≠ 0 := by omega
  have hql : qs.length = H.n := by obtain ⟨_, _, _, _, _, e, _⟩ := h; exact e
  obtain ⟨p1, c1, p2, c2, p3, c3, x0, -⟩ := HM.out.cells
  obtain ⟨m0, m1, m2⟩ := mv3 (b := u.heap.size) (k := kd) (g := who) (x := what) (HM.out.obj (by simp)).1
  obtain ⟨q, hq⟩ : ∃ q, qs.getD i 0 = q := ⟨_, rfl⟩
  have C1 := Lib.hid (fun u1 bs (h1 : Hst PW W hb qs H bs u1) => hq ▸ hst_promised P h1 il)
  have C2 := Lib.hid (fun u1 bs (h1 : Hst PW W hb qs H bs u1) => hq ▸ hst_round P h1 il)
  obtain ⟨hR, hok⟩ := res_new hI il
  have C3 := Lib.hid (fun u1 => P.new _ _ _ _ u1 hok)
  have HR := Lib.hid hR
  have AN := Lib.hid (fun u0 u1 bs b o c q' (h1 : Hst PW W hb qs H bs u0) hq' hu' hc' => h1.anew P (u1 := u1) il (q := q') (e := start (H.n : Int) (i : Int) (H.el i).promised (H.el i).round) (b := b) (o := o) (c := c) hq' hu' hc')
  clear hR hok
  generalize start (H.n : Int) (i : Int) (H.el i).promised (H.el i).round = e' at *
  generalize (H.el i).promised = pr at *
  generalize (H.el i).round = rd at *
  have AD := Lib.hid (fun n => (HM.out.on P (below_drewN (u.alloc (.cells #[.int .u8 kd, .int .u8 who, .int .u16 what] 56)) n)).box P (rsObj noRs))
  have hI' := Lib.hid hI
  clear hI
  obtain ⟨n, el, fr, won⟩ := H
  simp only [Hl.move] at *
  go_enter Try.func15, Try.ntmps15
  go_wp2
  go_quiet (fail)
  have HD := AD.out nq
  clear x0 m0 m1 m2 AD HM p1 p2 p3 c1 c2 c3
  rw [show ((u.alloc (.cells #[.int .u8 kd, .int .u8 who, .int .u16 what] 56)).drewN nq).heap.size = u.heap.size + 1 by simp] at HD
  simp only [rsObj, noRs] at HD
  obtain ⟨p1, c1, p2, c2, p3, c3, x0, x1, x2, x3, l1, l2, l3, xf⟩ := HD.cells
  obtain ⟨bb, oo, rfl, y1⟩ := ptr_at l1 (j := i) (by omega)
  rw [hq] at y1
  obtain ⟨m0, m1, m2⟩ := mv3 (b := u.heap.size) (k := kd) (g := who) (x := what) (HD.obj (by simp)).1
  simp only at x0 x1 x2 x3
  have fz := HD.free x1
  have HE := Lib.hid HD
  clear HD l1 l2 l3
  go_wp2
  generalize ((u.alloc _).drewN nq).alloc _ = u3 at *
  have HE3 := Lib.hid (HE.out.on P (Below.refl _ _).drew)
  clear HE x2 x3 xf m0 m1 m2 fz
  go_region_held3 (fun u' => u'.cell? ⟨hb, 0, none⟩ = some (.int .i64 (n : Int)) ∧ u'.cell? ⟨hb, 1, none⟩ = some (.slice (some ⟨bb, oo, none⟩) n c1) ∧ u'.cell? ⟨bb, oo + i, none⟩ = some (.pointer (some ⟨q, 0, none⟩))) (first | assumption | exact ⟨x0, x1, y1⟩) (first
    | (go_at_call 8; (with_reducible refine (C1.out _ _ HE3.out).mono ?_); rintro y u4 ⟨rfl, h4, b4⟩; have H4 := Lib.hid h4; have s4 : _ ∧ _ ∧ _ := ⟨cell_on x0 (undrewE b4), cell_on x1 (undrewE b4), cell_on y1 (undrewE b4)⟩; clear h4 b4 C1)
    | (go_at_call 10; (with_reducible refine (C2.out _ _ H4.out).mono ?_); rintro y u5 ⟨rfl, h5, b5⟩; have H5 := Lib.hid h5; have s5 : _ ∧ _ ∧ _ := ⟨cell_on s4.1 b5, cell_on s4.2.1 b5, cell_on s4.2.2 b5⟩; clear h5 b5 C2)
    | (go_at_call 6; (with_reducible refine (C3.out _).mono ?_); rintro y u6 ⟨q', rfl, hpw, b6⟩; have s6 : _ ∧ _ ∧ _ := ⟨cell_on s5.1 b6, cell_on s5.2.1 b6, cell_on s5.2.2 b6⟩; have D := Lib.hid (AN.out _ _ _ _ _ _ _ H5.out hpw b6 s5.2.1); have H6 := Lib.hid (H5.out.on P b6); clear hpw b6 C3 AN))
  obtain ⟨z0, z1, z2⟩ := s6
  have fz := H6.out.free z1
  clear s4 s5 x0 x1 y1 H4 H5 H6 HE3
  go_wp2
  go_ret
  exact ⟨rfl, qs.set i q', ⟨n, fun k => if k = i then e' else el k, fr, won⟩, by simpa [Elect.after, noRs] using hI'.out.after il HR.out, rfl, by simp, by simp, D.out.less (by simp)⟩
end Go.Proofs.Ythehbphpchmdiaa.Elect
