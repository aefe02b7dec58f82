/-
  annonalaw17's move: no frame was told.
-/
import Derived.Test.YthehbphpchmdiaaElectHst2
import Derived.Deep.QuietTactic
import Derived.Deep.RegionLaw
namespace Go.Proofs.Ythehbphpchmdiaa.Elect
open Go.RowKit
open _root_.Go.Proofs.Ythehbphpchmdiaa.Codec (lt_of_heap frozen_of heap_set below_new)
open _root_.Go.Proofs.Ythehbphpchmdiaa.Kit (Enc Lies Own At Laid cell_on lt_heap take_snoc below_drewN ints)

set_option maxRecDepth 100000 in
set_option maxHeartbeats 4000000 in
theorem move_none {PW : Pw} (P : Way17 PW) {W u : World} {hb : Nat} {qs : List Nat} {H : Hl} (h : Hst PW W hb qs H [] u) (hI : Inv H) (kd who what : Int) (k0 : 0 ≤ kd ∧ kd ≤ 255) (w0 : 0 ≤ who ∧ who ≤ 255) (hk0 : ¬ kd % 8 = 0) (hk7 : ¬ kd % 8 = 7) (hfe : H.frames.length = 0) :
    Calls Try.prog 15 #[.pointer (some ⟨hb, 0, none⟩), .agg #[.int .u8 kd, .int .u8 who, .int .u16 what]] u fun y w' => y = .returned (.bool true) ∧ ∃ H', Inv H' ∧ H'.n = H.n ∧ H'.frames.length ≤ H.frames.length + 1 ∧ H'.won.length ≤ H.won.length + 1 ∧ Hst PW W hb qs H' [] w' := by
  obtain ⟨n0, n1⟩ := hI.n
  obtain ⟨k0, k1⟩ := k0
  obtain ⟨w0, w1⟩ := w0
  have HM := Lib.hid (h.box P (.cells #[.int .u8 kd, .int .u8 who, .int .u16 what] 56))
  obtain ⟨i, hi⟩ : ∃ i : Nat, who % (H.n : Int) = (i : Int) := ⟨(who % (H.n : Int)).toNat, by have := Int.emod_nonneg who (by omega : (H.n : Int) ≠ 0); omega⟩
  have hne : (H.n : Int) ≠ 0 := by omega
  obtain ⟨p1, c1, p2, c2, p3, c3, x0, -⟩ := HM.out.cells
  obtain ⟨m0, m1, m2⟩ := mv3 (b := u.heap.size) (k := kd) (g := who) (x := what) (HM.out.obj (by simp)).1
  have AD := Lib.hid (fun n => (HM.out.on P (below_drewN (u.alloc (.cells #[.int .u8 kd, .int .u8 who, .int .u16 what] 56)) n)).box P (rsObj noRs))
  have hI' := Lib.hid hI
  clear hI
  obtain ⟨n, el, fr, won⟩ := H
  simp only at *
  go_enter Try.func15, Try.ntmps15
  go_wp2
  go_quiet (fail)
  have HD := AD.out nq
  clear x0 m0 m1 m2 AD HM p1 p2 p3 c1 c2 c3
  rw [show ((u.alloc (.cells #[.int .u8 kd, .int .u8 who, .int .u16 what] 56)).drewN nq).heap.size = u.heap.size + 1 by simp] at HD
  simp only [rsObj, noRs] at HD
  obtain ⟨p1, c1, p2, c2, p3, c3, x0, x1, x2, x3, l1, l2, l3, xf⟩ := HD.cells
  simp only at x0 x1 x2 x3
  have hfe' : (fr.length : Int) = 0 := by have : fr.length = 0 := hfe
                                          omega
  have g0 : ((fr.length : Int) == 0) = true := by simpa using hfe'
  obtain ⟨m0, m1, m2⟩ := mv3 (b := u.heap.size) (k := kd) (g := who) (x := what) (HD.obj (by simp)).1
  have HE := Lib.hid (HD.less (cs := []) (by simp))
  clear HD l1 l2 l3
  go_wp2
  go_ret
  exact ⟨rfl, ⟨n, el, fr, won⟩, hI'.out, rfl, by simp, by simp, HE.out⟩
end Go.Proofs.Ythehbphpchmdiaa.Elect
