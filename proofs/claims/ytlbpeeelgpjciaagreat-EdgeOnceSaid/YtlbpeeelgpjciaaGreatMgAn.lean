/-
  An act on the document's edge (annonalaw14's want), of any act.
  Are the wants of both edges the same (annonalaw14's wants); the live question (alive).
  The live question (annonalaw14's alive).
  The document's at and Of, of any queue of up to 1000 items; of what lay when the call began nothing has turned.
  The document's Same, of two lists of items that are one; the law's Of; the document's Sum.
-/
import Derived.Deep.RegionHeld3
import Derived.Laws.StructEq
import Derived.Test.YtlbpeeelgpjciaaGreatMgAm
import Derived.Test.YtlbpeeelgpjciaaGreatMgAe
import Derived.Test.YtlbpeeelgpjciaaGreatMgAh
namespace Go.Proofs.YtlbpeeelgpjciaaGreat.Edge
open Go.RowKit
open _root_.Go.Proofs.YtlbpeeelgpjciaaGreat.Codec (lt_of_heap frozen_of heap_set below_new)
open _root_.Go.Proofs.YtlbpeeelgpjciaaGreat.Kit (Enc Lies At Kept Laid Off cell_on lt_heap take_snoc below_drewN box5)
open _root_.Go.Proofs.YtlbpeeelgpjciaaGreat.Lease (Lz Num)
open _root_.Go.Proofs.YtlbpeeelgpjciaaGreat.Queue (It)

/-- One lease, just laid. -/
theorem lease_one {u : World} {g : Nat} {x : Lz} {T : TypeId} (h : u.heap[g]? = some (.cells #[.int .i64 x.key, .int .i64 x.gen, .int .i64 x.amount, .int .i64 x.spent, .int .i64 x.til] T (0, 0))) : Lease.Lies u (some ⟨g, 0, none⟩) [x] := by
  obtain ⟨h0, h1, h2, h3, h4⟩ := box5 h
  refine .inr ⟨g, 0, rfl, fun j hj => ?_⟩
  obtain rfl : j = 0 := by simp at hj; omega
  exact ⟨h0, h1, h2, h3, h4⟩
theorem lease_first {u : World} {p : Option Addr} {k g a s t : Int} (h : Lease.Lies u p [⟨k, g, a, s, t⟩]) : ∃ b o, p = some ⟨b, o, none⟩ ∧ u.cell? ⟨b, o, none⟩ = some (.int .i64 k) ∧ u.cell? ⟨b, o + 1, none⟩ = some (.int .i64 g) ∧ u.cell? ⟨b, o + 2, none⟩ = some (.int .i64 a) ∧ u.cell? ⟨b, o + 3, none⟩ = some (.int .i64 s) ∧ u.cell? ⟨b, o + 4, none⟩ = some (.int .i64 t) := by
  obtain ⟨b, o, rfl, ha⟩ := Lease.lies_at h (show 0 < 1 by omega)
  rw [Nat.zero_mul, Nat.add_zero] at ha
  exact ⟨b, o, rfl, ha⟩
/-- Of, of one lease that was just laid. -/
theorem of_one (x : Lz) (u : World) : Calls Tryz.prog 15 #[.slice (some ⟨u.heap.size, 0, none⟩) 1 1] (u.alloc (.cells #[.int .i64 x.key, .int .i64 x.gen, .int .i64 x.amount, .int .i64 x.spent, .int .i64 x.til] 40)) fun e w' => ∃ q d, e = .returned (.slice q 1 d) ∧ Lease.Lies w' q [x] ∧ Below (u.alloc (.cells #[.int .i64 x.key, .int .i64 x.gen, .int .i64 x.amount, .int .i64 x.spent, .int .i64 x.til] 40)).heap.size (u.alloc (.cells #[.int .i64 x.key, .int .i64 x.gen, .int .i64 x.amount, .int .i64 x.spent, .int .i64 x.til] 40)) w' :=
  Lease.of_any (l := [x]) (c := 1) (lease_one (heap_alloc_new u (.cells #[.int .i64 x.key, .int .i64 x.gen, .int .i64 x.amount, .int .i64 x.spent, .int .i64 x.til] 40))) (by simp)
theorem of_one_drew (x : Lz) (u : World) : Calls Tryz.prog 15 #[.slice (some ⟨u.heap.size, 0, none⟩) 1 1] (u.alloc (.cells #[.int .i64 x.key, .int .i64 x.gen, .int .i64 x.amount, .int .i64 x.spent, .int .i64 x.til] 40)).drew fun e w' => ∃ q d, e = .returned (.slice q 1 d) ∧ Lease.Lies w' q [x] ∧ Below (u.alloc (.cells #[.int .i64 x.key, .int .i64 x.gen, .int .i64 x.amount, .int .i64 x.spent, .int .i64 x.til] 40)).heap.size (u.alloc (.cells #[.int .i64 x.key, .int .i64 x.gen, .int .i64 x.amount, .int .i64 x.spent, .int .i64 x.til] 40)).drew w' := of_one x u.drew
theorem EStep.lift {B v : Nat} {c : Cf} {e : Eg} {w u w' : World} (hB : B ≤ w.heap.size) (hb : Below w.heap.size w u) (h : EStep B u v c e w') : EStep B w v c e w' :=
  ⟨h.ed, fun g hn hg => (h.only g hn (Nat.lt_of_lt_of_le hg hb.size)).trans (hb.block g hg), (hb.mono hB).trans h.below, Nat.le_trans hb.size h.size⟩
set_option maxRecDepth 100000 in
set_option maxHeartbeats 8000000 in
/-- The document's step. -/
theorem want_any {B v : Nat} {c : Cf} {w : World} {e : Eg} (h : Ed B w v c e) (hB : B ≤ w.heap.size) (hg : Good c e) (hl : Lens e) (a : Ac) (ha : AcNum a) :
    Calls Tryz.prog 9 #[.pointer (some ⟨v, 0, none⟩), actVal a] w fun x w' => ∃ y, x = .returned (.tuple #[y, .int .i64 (actOf c e a).2.2]) ∧ Told w' y (actOf c e a).2.1 ∧ EStep B w v c (actOf c e a).1 w' := by
  have hb := lay w (actBox a)
  have hh := h.below hB hb
  have hB2 := Nat.le_trans hB hb.size
  have hL : e.L.length ≤ 150 ∧ e.Q.length ≤ 150 ∧ e.D.length ≤ 150 := by obtain ⟨h1, h2, h3⟩ := hl; omega
  obtain ⟨⟨k0, k1⟩, n1, n2, n3, n4⟩ := ha
  have CG := Lib.hid (fun u (hu : Below w.heap.size w u) => rgrant_any (h.below hB hu) (Nat.le_trans hB hu.size) hg hL a.l n2 a.now)
  have co := Lib.hid (fun u => of_one_drew a.l u)
  have cc := rclose_any hh hB2 hL a.l.key a.l.gen
  have CD := Lib.hid (fun u (hu : Below w.heap.size w u) => rdrop_ed (h.below hB hu) (Nat.le_trans hB hu.size) (by omega) a.l.gen)
  have ce := rexpire_any hh hB2 (by omega) a.now
  have cr := rrefuse_any hh hB2 (by omega) a.l.key a.why
  have cx := rcrash_any hh hB2 (by omega)
  have ca := rask_any hh hB2 hg (by omega) a.r a.now
  have hbox := box_new w a
  obtain ⟨b0, b1, b2, b3, b4, b5, b6, b7, b8, b9, b10, b11, b12⟩ := hbox
  have HX := Lib.hid (fun u (hu : Below (w.alloc (actBox a)).heap.size (w.alloc (actBox a)) u) => cell_on b12 hu)
  have LF := Lib.hid (fun (u : World) (e' : Eg) (w' : World) (hu : Below w.heap.size w u) (hm : EStep B u v c e' w') => EStep.lift hB hu hm)
  have HB := Lib.hid hb
  have HV := Lib.hid (show w.heap.size ≠ v from (Nat.ne_of_lt h.lt).symm)
  have hk := kinds k0
  have A4 := Lib.hid (act4 (c := c) (e := e) (a := a))
  have A5 := Lib.hid (act5 (c := c) (e := e) (a := a))
  have A6 := Lib.hid (act6 (c := c) (e := e) (a := a))
  have A7 := Lib.hid (act7 (c := c) (e := e) (a := a))
  have A8 := Lib.hid (act8 (c := c) (e := e) (a := a))
  have A9 := Lib.hid (act9 (c := c) (e := e) (a := a))
  have A0 := Lib.hid (act0 (c := c) (e := e) (a := a))
  generalize actOf c e a = R at *
  generalize grant e a.l a.now = R4 at *
  generalize close e a.l.key a.l.gen = R5 at *
  generalize (Lease.drop e.L a.l.gen).2 = n6 at *
  generalize drop e a.l.gen = R6 at *
  generalize expire e a.now = R7 at *
  generalize refuse e a.l.key a.why = R8 at *
  generalize crash e = R9 at *
  generalize ask c e a.r a.now = R0 at *
  obtain ⟨kind, ⟨ri, rk, rc, rs, rw'⟩, ⟨xk, xg, xa, xs, xt⟩, why, now⟩ := a
  simp only [Lease.val, rval, actBox] at *
  clear h hB hg hl hh hB2 hb n1 n2 n3 n4 hL
  simp only [actVal]
  rcases hk with hk | hk | hk | hk | hk | hk | hk
  · obtain rfl := A4.out hk
    clear A4 A5 A6 A7 A8 A9 A0 cc CD ce cr cx ca
    go_enter Tryz.func9, Tryz.ntmps9
    go_wp2
    generalize (w.alloc (.cells #[.int .u8 kind, .int .i64 ri, .int .i64 rk, .int .i64 rc, .int .i64 rs, .int .i64 rw', .int .i64 xk, .int .i64 xg, .int .i64 xa, .int .i64 xs, .int .i64 xt, .int .i64 why, .int .i64 now] 43)) = w0 at *
    have l12 := World.block_lt_of_cell? _ _ b12
    have HQ := Lib.hid (fun (u : World) (hu : Below (w0.alloc (.cells #[.int .i64 xk, .int .i64 xg, .int .i64 xa, .int .i64 xs, .int .i64 xt] 40)).heap.size (w0.alloc (.cells #[.int .i64 xk, .int .i64 xg, .int .i64 xa, .int .i64 xs, .int .i64 xt] 40)).drew u) => ((lay w0 (.cells #[.int .i64 xk, .int .i64 xg, .int .i64 xa, .int .i64 xs, .int .i64 xt] 40)).drew).trans (hu.mono (by simp)))
    go_region_with (first
      | (go_at_call 15; (with_reducible refine (co.out _).mono ?_); rintro e' u1 ⟨q, d, rfl, hq, hbu⟩; have HB1 := Lib.hid (HB.out.trans ((HQ.out _ hbu).mono HB.out.size)); have c12 := HX.out _ (HQ.out _ hbu); obtain ⟨qb, qo, rfl, y0, y1, y2, y3, y4⟩ := lease_first hq; clear hq hbu co)
      | (go_at_call 31; (with_reducible refine (CG.out _ HB1.out).mono ?_); rintro e' u2 ⟨y, rfl, ht, hm⟩; have H1 := Lib.hid (LF.out _ _ _ HB1.out hm); have T1 := Lib.hid ht; clear hm ht CG))
    all_goals
      go_wp2
      refine bodyPost_ret (v := .tuple #[y, .int .i64 0]) (by simp [results, Tryz.results9, go_sem]) rfl ?_
      exact ⟨y, rfl, T1.out, H1.out⟩
  · obtain rfl := A5.out hk
    clear A4 A5 A6 A7 A8 A9 A0 co CG CD ce cr cx ca
    go_enter Tryz.func9, Tryz.ntmps9
    go_wp2_with (go_at_call 32; (with_reducible refine cc.mono ?_); rintro e' u1 ⟨rfl, hm⟩; have H1 := Lib.hid (LF.out _ _ _ HB.out hm); clear hm cc)
    refine bodyPost_ret (v := .tuple #[.slice none 0 0, .int .i64 R5.2]) (by simp [results, Tryz.results9, go_sem]) rfl ?_
    exact ⟨_, rfl, told_none _, H1.out⟩
  · obtain rfl := A6.out hk
    clear A4 A5 A6 A7 A8 A9 A0 co CG cc ce cr cx ca
    go_enter Tryz.func9, Tryz.ntmps9
    go_wp2
    generalize (w.alloc (.cells #[.int .u8 kind, .int .i64 ri, .int .i64 rk, .int .i64 rc, .int .i64 rs, .int .i64 rw', .int .i64 xk, .int .i64 xg, .int .i64 xa, .int .i64 xs, .int .i64 xt, .int .i64 why, .int .i64 now] 43)) = w0 at *
    go_region_held3 (fun u => u.cell? ⟨w.heap.size, 7, none⟩ = some (.int .i64 xg)) (first | assumption) (first
      | (go_at_call 33; (with_reducible refine (CD.out _ HB.out.drew).mono ?_); rintro e' u1 ⟨rfl, hm⟩; have H1 := Lib.hid (LF.out _ _ _ HB.out.drew hm); have c7 := cell_only hm HV.out (cell_on b7 (Below.refl _ _).drew); clear hm CD))
    go_wp2
    refine bodyPost_ret (v := .tuple #[.slice none 0 0, .int .i64 0]) (by simp [results, Tryz.results9, go_sem]) rfl ?_
    exact ⟨_, rfl, told_none _, H1.out⟩
  · obtain rfl := A7.out hk
    clear A4 A5 A6 A7 A8 A9 A0 co CG cc CD cr cx ca
    go_enter Tryz.func9, Tryz.ntmps9
    go_wp2_with (go_at_call 34; (with_reducible refine ce.mono ?_); rintro e' u1 ⟨y, rfl, ht, hm⟩; have H1 := Lib.hid (LF.out _ _ _ HB.out hm); have T1 := Lib.hid ht; clear hm ht ce)
    refine bodyPost_ret (v := .tuple #[y, .int .i64 0]) (by simp [results, Tryz.results9, go_sem]) rfl ?_
    exact ⟨y, rfl, T1.out, H1.out⟩
  · obtain rfl := A8.out hk
    clear A4 A5 A6 A7 A8 A9 A0 co CG cc CD ce cx ca
    go_enter Tryz.func9, Tryz.ntmps9
    go_wp2_with (go_at_call 35; (with_reducible refine cr.mono ?_); rintro e' u1 ⟨y, rfl, ht, hm⟩; have H1 := Lib.hid (LF.out _ _ _ HB.out hm); have T1 := Lib.hid ht; clear hm ht cr)
    refine bodyPost_ret (v := .tuple #[y, .int .i64 0]) (by simp [results, Tryz.results9, go_sem]) rfl ?_
    exact ⟨y, rfl, T1.out, H1.out⟩
  · obtain rfl := A9.out hk
    clear A4 A5 A6 A7 A8 A9 A0 co CG cc CD ce cr ca
    go_enter Tryz.func9, Tryz.ntmps9
    go_wp2_with (go_at_call 36; (with_reducible refine cx.mono ?_); rintro e' u1 ⟨y, rfl, ht, hm⟩; have H1 := Lib.hid (LF.out _ _ _ HB.out hm); have T1 := Lib.hid ht; clear hm ht cx)
    refine bodyPost_ret (v := .tuple #[y, .int .i64 0]) (by simp [results, Tryz.results9, go_sem]) rfl ?_
    exact ⟨y, rfl, T1.out, H1.out⟩
  · obtain rfl := A0.out hk
    clear A4 A5 A6 A7 A8 A9 A0 co CG cc CD ce cr cx
    rcases hk with hk | hk | hk | hk
    all_goals
      go_enter Tryz.func9, Tryz.ntmps9
      go_wp2_with (go_at_call 37; (with_reducible refine ca.mono ?_); rintro e' u1 ⟨y, rfl, ht, hm⟩; have H1 := Lib.hid (LF.out _ _ _ HB.out hm); have T1 := Lib.hid ht; clear hm ht ca)
      refine bodyPost_ret (v := .tuple #[y, .int .i64 0]) (by simp [results, Tryz.results9, go_sem]) rfl ?_
      exact ⟨y, rfl, T1.out, H1.out⟩
end Go.Proofs.YtlbpeeelgpjciaaGreat.Edge

namespace Go.Proofs.YtlbpeeelgpjciaaGreat.Edge
open Go.RowKit
open _root_.Go.Proofs.YtlbpeeelgpjciaaGreat.Codec (lt_of_heap frozen_of heap_set below_new)
open _root_.Go.Proofs.YtlbpeeelgpjciaaGreat.Kit (Enc Lies At Kept Laid Off cell_on lt_heap take_snoc below_drewN box5)
open _root_.Go.Proofs.YtlbpeeelgpjciaaGreat.Lease (Lz Num)
open _root_.Go.Proofs.YtlbpeeelgpjciaaGreat.Queue (It)

theorem pair_at {w : World} {p : Option Addr} {l : List (Int × Int)} (h : Lies pair w p l) {j : Nat} (hj : j < l.length) : ∃ b o, p = some ⟨b, o, none⟩ ∧ w.cell? ⟨b, o + j * 2, none⟩ = some (.int .i64 (l.getD j (0, 0)).1) ∧ w.cell? ⟨b, o + j * 2 + 1, none⟩ = some (.int .i64 (l.getD j (0, 0)).2) := by
  obtain ⟨b, o, e, ha⟩ := Kit.lies_at h hj
  exact ⟨b, o, e, ha 0 _ rfl, ha 1 _ rfl⟩
theorem wants_few {c : Cf} {e : Eg} (h : Lens e) : (wants c e).length ≤ 1000 := by
  obtain ⟨h1, h2, h3⟩ := h
  have k1 := merge_len (Queue.keys e.Q) (Demand.keys e.D)
  have k2 := Queue.keys_len e.Q
  have k3 := Demand.keys_len e.D
  exact Nat.le_trans (wants_len c e (keys e)) (by unfold keys; omega)
set_option maxRecDepth 100000 in
set_option maxHeartbeats 4000000 in
theorem lwants_any {PW : Pw} (P : Way14 PW) {W u : World} {q v : Nat} {c : Cf} {e : Eg} (h : Est PW W q v c e e u) (hg : Good c e) (hl : Lens e) :
    Calls Tryz.prog 17 #[.pointer (some ⟨q, 0, none⟩), .pointer (some ⟨v, 0, none⟩)] u fun x w' => x = .returned (.bool true) ∧ Below u.heap.size u w' := by
  have c1 := P.wants h.pw hg hl
  have c2 := Lib.hid (fun u' (hu : Below u.heap.size u u') => rwants_any (h.ed.below h.below.size hu) (Nat.le_trans h.below.size hu.size) ⟨by have := hl.2.1; omega, by have := hl.2.2; omega⟩)
  have hlen := wants_few (c := c) hl
  generalize wants c e = L at *
  clear P h hg hl
  have hne : ((L.length : Int) != (L.length : Int)) = false := by simp
  go_enter Tryz.func17, Tryz.ntmps17
  go_wp2_with (first
    | (go_at_call 21; (with_reducible refine c1.mono ?_); rintro e1 w1 ⟨p1, k1, rfl, hp, -, hb⟩; have HL := Lib.hid hp; have HB1 := Lib.hid hb; clear hp hb c1)
    | (go_at_call 40; (with_reducible refine (c2.out _ HB1.out).mono ?_); rintro e1 w2 ⟨p2, k2, rfl, hp, hb⟩; have HM := Lib.hid hp; have HL2 := Lib.hid (HL.out.below hb); have HB2 := Lib.hid (HB1.out.trans (hb.mono HB1.out.size)); clear hp hb c2))
  go_loopw [7] (fun i wr => ∃ j : Nat, j ≤ L.length ∧ i = .int .i64 (j : Int) ∧ Hid (Below w2.heap.size w2 wr)) (fun i _ => L.length - (intOf i).toNat)
  case atStart => exact ⟨0, by omega, rfl, Lib.hid (Below.refl _ _)⟩
  case round =>
    obtain ⟨j, hj, rfl, hbw⟩ := hrel
    by_cases hlt : j < L.length
    · obtain ⟨b, o, rfl, x0, x1⟩ := pair_at (HL2.out.below hbw.out) hlt
      obtain ⟨b', o', rfl, y0, y1⟩ := pair_at (HM.out.below hbw.out) hlt
      have hlt' : (j : Int) < (L.length : Int) := by omega
      clear HL HL2 HM
      generalize L.getD j (0, 0) = x at *
      obtain ⟨xk, xa⟩ := x
      simp only at x0 x1 y0 y1
      have e1 : (xk != xk) = false := by simp
      have e2 : (xa != xa) = false := by simp
      go_wp2
      go_quiet (fail)
      go_wp2
      go_roundw
      case rel => exact ⟨j + 1, by omega, by go_num, Lib.hid (hbw.out.trans ((below_drewN _ _).mono hbw.out.size))⟩
      case measure => simp only [intOf]; omega
    · have hlt' : ¬ (j : Int) < (L.length : Int) := by omega
      clear HL HL2 HM
      go_wp2
      go_ret
      exact ⟨rfl, HB2.out.trans (hbw.out.mono HB2.out.size)⟩
end Go.Proofs.YtlbpeeelgpjciaaGreat.Edge

namespace Go.Proofs.YtlbpeeelgpjciaaGreat.Edge
open Go.RowKit
open _root_.Go.Proofs.YtlbpeeelgpjciaaGreat.Codec (lt_of_heap frozen_of heap_set below_new)
open _root_.Go.Proofs.YtlbpeeelgpjciaaGreat.Kit (Enc Lies At Kept Laid Off cell_on lt_heap take_snoc below_drewN box5)
open _root_.Go.Proofs.YtlbpeeelgpjciaaGreat.Lease (Lz Num)
open _root_.Go.Proofs.YtlbpeeelgpjciaaGreat.Queue (It)

def cA : Cf := ⟨1, 0, 1, 1, 1, 1, 1, 1, [(1, 9)]⟩
def rA : Rq := ⟨5, 3, 4, 0, 10⟩
def rB : Rq := ⟨6, 3, 10, 0, 0⟩
def lA : Lz := ⟨3, 7, 6, 0, 30⟩
def eA : Eg := ⟨[], [⟨5, 3, 4, 0, 30⟩], []⟩
def eB : Eg := ⟨[⟨3, 7, 6, 4, 30⟩], [], []⟩
theorem al0 : cA.check = 0 := rfl
theorem al1 : ask cA e0 rA 20 = (eA, []) := rfl
theorem al2 : ask cA eA rB 20 = (eA, [⟨6, 0, 5⟩]) := rfl
theorem al3 : wants cA eA = [(3, 4)] := by
  have e : keys eA = [3] := by
    show merge [3] [] = [3]
    simp [merge]
  unfold wants
  rw [e]
  rfl
theorem al4 : grant eA lA 21 = (eB, [⟨5, 7, 0⟩]) := rfl
theorem num_small {x : Int} (h : -100 ≤ x ∧ x ≤ 100) : Num x := by unfold Num; omega
theorem num_cA : CfNum cA := ⟨num_small (by decide), num_small (by decide), num_small (by decide), num_small (by decide), num_small (by decide), num_small (by decide), num_small (by decide), num_small (by decide)⟩
theorem num_rA : RqNum rA := ⟨num_small (by decide), num_small (by decide), num_small (by decide), num_small (by decide), num_small (by decide)⟩
theorem num_rB : RqNum rB := ⟨num_small (by decide), num_small (by decide), num_small (by decide), num_small (by decide), num_small (by decide)⟩
theorem num_lA : Lease.Nums lA := ⟨num_small (by decide), num_small (by decide), num_small (by decide), num_small (by decide), num_small (by decide)⟩
theorem good_A0 : Good cA e0 := good_e0 (by decide)
theorem good_A : Good cA eA := by have := good_ask good_A0 num_rA 20; rwa [al1] at this
theorem good_B : Good cA eB := by have := good_grant good_A num_lA 21; rwa [al4] at this
theorem lens_0 : Lens e0 := ⟨by decide, by decide, by decide⟩
theorem lens_A : Lens eA := ⟨by decide, by decide, by decide⟩
theorem lens_B : Lens eB := ⟨by decide, by decide, by decide⟩
theorem one_ans {u : World} {p : Option Addr} {i g y : Int} (h : Lies ans u p [⟨i, g, y⟩]) : ∃ b o, p = some ⟨b, o, none⟩ ∧ u.cell? ⟨b, o, none⟩ = some (.int .i64 i) ∧ u.cell? ⟨b, o + 1, none⟩ = some (.int .i64 g) ∧ u.cell? ⟨b, o + 2, none⟩ = some (.int .i64 y) := by
  obtain ⟨b, o, rfl, ha⟩ := ans_at h (show 0 < 1 by omega)
  rw [Nat.zero_mul, Nat.add_zero] at ha
  exact ⟨b, o, rfl, at3 ha⟩
theorem one_pair {u : World} {p : Option Addr} {k a : Int} (h : Lies pair u p [(k, a)]) : ∃ b o, p = some ⟨b, o, none⟩ ∧ u.cell? ⟨b, o, none⟩ = some (.int .i64 k) ∧ u.cell? ⟨b, o + 1, none⟩ = some (.int .i64 a) := by
  obtain ⟨b, o, rfl, h0, h1⟩ := pair_at h (show 0 < 1 by omega)
  rw [Nat.zero_mul, Nat.add_zero] at h0 h1
  exact ⟨b, o, rfl, h0, h1⟩
set_option maxRecDepth 100000 in
set_option maxHeartbeats 4000000 in
theorem alive_way {PW : Pw} (P : Way14 PW) (w : World) : Calls Tryz.prog 5 #[] w fun e w' => e = .returned (.bool true) ∧ Below w.heap.size w w' := by
  have hw := lay w (.cells #[.int .i64 1, .int .i64 9] 82)
  have hr : RatesB (w.alloc (.cells #[.int .i64 1, .int .i64 9] 82)).heap.size (w.alloc (.cells #[.int .i64 1, .int .i64 9] 82)) (some ⟨w.heap.size, 0, none⟩) cA.zs := by
    have hk := heap_alloc_new w (.cells #[.int .i64 1, .int .i64 9] 82)
    refine .inr ⟨w.heap.size, 0, rfl, lt_of_heap hk, fun i hi => ?_⟩
    obtain rfl : i = 0 := by simp [cA] at hi; omega
    exact ⟨by rw [cell_of_row _ _ _ _ _ (0, 0) hk]; rfl, by rw [cell_of_row _ _ _ _ _ (0, 0) hk]; rfl⟩
  obtain ⟨C, hC⟩ : ∃ C, C = (w.alloc (.cells #[.int .i64 1, .int .i64 9] 82)).heap.size := ⟨_, rfl⟩
  have hCw : w.heap.size ≤ C := by rw [hC]; exact hw.size
  have c0 : Calls Tryz.prog 6 #[.agg #[.int .i64 1, .int .i64 0, .int .i64 1, .int .i64 1, .int .i64 1, .int .i64 1, .int .i64 1, .int .i64 1, .slice (some ⟨w.heap.size, 0, none⟩) 1 1]] (w.alloc (.cells #[.int .i64 1, .int .i64 9] 82)) (fun x w' => ∃ q, x = .returned (.tuple #[.pointer (some ⟨q, 0, none⟩), .int .i64 0]) ∧ PW C w' q cA e0 ∧ C ≤ w'.heap.size ∧ Below w.heap.size w w') :=
    (P.new cA (some ⟨w.heap.size, 0, none⟩) 1 _ hr (by decide) num_cA al0).mono fun x w' ⟨q, e, h1, h2⟩ => ⟨q, e, hC ▸ h1, hC ▸ h2.size, hw.trans (h2.mono hw.size)⟩
  have ST := Lib.hid (fun (u u' : World) (h : C ≤ u.heap.size ∧ Below w.heap.size w u) (hb : Below C u u') => show C ≤ u'.heap.size ∧ Below w.heap.size w u' from ⟨Nat.le_trans h.1 hb.size, h.2.trans (hb.mono hCw)⟩)
  have c1 := fun q u (h : PW C u q cA e0) (hb : C ≤ u.heap.size) => P.ask h hb good_A0 lens_0 rA num_rA 20 (num_small (by decide))
  have c2 := fun q u (h : PW C u q cA eA) (hb : C ≤ u.heap.size) => P.ask h hb good_A lens_A rB num_rB 20 (num_small (by decide))
  have c3 := fun q u (h : PW C u q cA eA) => P.wants h good_A lens_A
  have c4 := fun q u (h : PW C u q cA eA) (hb : C ≤ u.heap.size) => P.grant h hb good_A lens_A lA num_lA 21 (num_small (by decide))
  have c5 := fun q u (h : PW C u q cA eB) => P.waiting h good_B lens_B
  have PB := Lib.hid (fun (u u' : World) (q : Nat) (e : Eg) (h : PW C u q cA e) (hb : Below u.heap.size u u') => P.below h hb)
  simp only [al1, al2, al3, al4, List.length_cons, List.length_nil, Nat.zero_add] at c1 c2 c3 c4
  simp only [rval, rA] at c1
  simp only [rval, rB] at c2
  simp only [Lease.val, lA] at c4
  simp only [show eB.Q.length = 0 from rfl] at c5
  clear P hw hr hC hCw
  go_enter Tryz.func5, Tryz.ntmps5
  go_wp2_with (first
    | (go_at_call 6; (with_reducible refine c0.mono ?_); rintro e u0 ⟨q, rfl, h0, hb⟩; have H0 := Lib.hid h0; have B0 := Lib.hid hb; clear h0 hb c0)
    | (go_at_call 19; (with_reducible refine (c1 _ _ H0.out B0.out.1).mono ?_); rintro e u1 ⟨y1, rfl, ht, hm⟩; have H1 := Lib.hid hm.pw; have B1 := Lib.hid (ST.out _ _ B0.out hm.below); obtain ⟨pa, ka, rfl, -, -, -⟩ := ht; clear hm c1)
    | (go_at_call 19; (with_reducible refine (c2 _ _ H1.out B1.out.1).mono ?_); rintro e u2 ⟨y2, rfl, ht, hm⟩; have H2 := Lib.hid hm.pw; have B2 := Lib.hid (ST.out _ _ B1.out hm.below); obtain ⟨p2, k2, rfl, l2, t2, -⟩ := ht; have S2 := Lib.hid l2; have Y2 := Lib.hid t2; clear l2 t2 hm c2)
    | (go_at_call 21; (with_reducible refine (c3 _ _ H2.out).mono ?_); rintro e u3 ⟨p3, k3, rfl, hp, hy, hb⟩; have H3 := Lib.hid (PB.out _ _ _ _ H2.out hb); have B3 := Lib.hid (ST.out _ _ B2.out (hb.mono B2.out.1)); have S3 := Lib.hid (S2.out.below hb); have Z3 := Lib.hid (Y2.out.below hb); have P3 := Lib.hid hp; have Y3 := Lib.hid hy; clear hp hy hb c3)
    | (go_at_call 20; (with_reducible refine (c4 _ _ H3.out B3.out.1).mono ?_); rintro e u4 ⟨y4, rfl, ht, hm⟩; have H4 := Lib.hid hm.pw; have B4 := Lib.hid (ST.out _ _ B3.out hm.below); have S4 := lies_off S3.out Z3.out hm.off (by simp [mine]); have P4 := lies_off P3.out Y3.out hm.off (by simp [mine]); obtain ⟨b2, o2, rfl, s0, s1, s2⟩ := one_ans S4; obtain ⟨b3, o3, rfl, g0, g1⟩ := one_pair P4; obtain ⟨p4, k4, rfl, l4, -, -⟩ := ht; obtain ⟨b4, o4, rfl, r0, r1, r2⟩ := one_ans l4; clear l4 S4 P4 hm c4)
    | (go_at_call 13; (with_reducible refine (c5 _ _ H4.out).mono ?_); rintro e u5 ⟨p5, k5, rfl, -, -, hb⟩; have B5 := Lib.hid (B4.out.2.trans (hb.mono B4.out.2.size)); clear hb c5))
  go_ret
  exact ⟨rfl, B5.out⟩
end Go.Proofs.YtlbpeeelgpjciaaGreat.Edge

namespace Go.Proofs.YtlbpeeelgpjciaaGreat.Queue
open Go.RowKit
open _root_.Go.Proofs.YtlbpeeelgpjciaaGreat.Codec (lt_of_heap frozen_of heap_set below_new)
open _root_.Go.Proofs.YtlbpeeelgpjciaaGreat.Ledger (spot spot_at spot_none)
open _root_.Go.Proofs.YtlbpeeelgpjciaaGreat.Kit (Enc Lies Own At Kept Laid cell_on lt_heap take_snoc below_drewN)

set_option maxRecDepth 100000 in
theorem rat_any {B v : Nat} {room : Int} {l : List It} {w : World} (h : Qu B w v room l) (hl : l.length ≤ 1000) (id : Int) :
    Calls Tryz.prog 126 #[.pointer (some ⟨v, 0, none⟩), .int .i64 id] w fun e w' => e = .returned (.int .i64 (place l id)) ∧ Below w.heap.size w w' := by
  obtain ⟨p, c, c1, hr, -⟩ := h.cell
  have HPL := Lib.hid (show place l id = spot (fun x => x.id == id) l from rfl)
  generalize place l id = R at HPL ⊢
  have HR := Lib.hid hr
  have HB := Lib.hid (Below.refl w.heap.size w)
  clear hr h
  go_enter Tryz.func126, Tryz.ntmps126
  go_wp2
  go_loop [5] (fun i => ∃ j : Nat, j ≤ l.length ∧ i = .int .i64 (j : Int) ∧ Hid (∀ i, i < j → (l.getD i z).id ≠ id)) (fun i => l.length - (intOf i).toNat)
  case atStart => exact ⟨0, by omega, rfl, fun i hi => by omega⟩
  case round =>
    obtain ⟨j, hj, rfl, hne⟩ := hrel
    by_cases hlt : j < l.length
    · obtain ⟨b, o, rfl, hat⟩ := lies_at HR.out hlt
      obtain ⟨k0, -⟩ := at5 hat
      have hlt' : (j : Int) < (l.length : Int) := by omega
      by_cases hk : (l.getD j z).id = id
      · have HE := Lib.hid (show R = (j : Int) by rw [HPL.out]; exact spot_at _ z l j hlt (fun i hi => by simpa using hne.out i hi) (by simpa using hk))
        rw [hk] at k0
        clear hne HPL HR hk hat
        go_wp2
        go_ret
        exact ⟨by rw [HE.out]; rfl, HB.out⟩
      · have HN : Hid (∀ i, i < j + 1 → (l.getD i z).id ≠ id) := fun i hi => by
          by_cases e : i = j
          · rw [e]; exact hk
          · exact hne.out i (by omega)
        generalize (l.getD j z).id = q at k0 hk
        clear hne HPL HR hat
        go_wp2
        go_round
        case rel => exact ⟨j + 1, by omega, by go_num, HN⟩
        case measure => simp only [intOf]; omega
    · have hlt' : ¬ (j : Int) < (l.length : Int) := by omega
      have HE := Lib.hid (show R = -1 by rw [HPL.out]; exact spot_none _ z l (fun i hi => by simpa using hne.out i (by omega)))
      clear hne HPL HR
      go_wp2
      go_ret
      exact ⟨by rw [HE.out]; rfl, HB.out⟩

theorem filter_yes {f : It → Bool} {l : List It} {j : Nat} (h : j < l.length) (e : f (l.getD j z) = true) : (l.take (j + 1)).filter f = (l.take j).filter f ++ [l.getD j z] := by
  rw [take_snoc z h, List.filter_append]
  simp only [List.filter_cons, e, if_true, List.filter_nil]
theorem filter_no {f : It → Bool} {l : List It} {j : Nat} (h : j < l.length) (e : f (l.getD j z) = false) : (l.take (j + 1)).filter f = (l.take j).filter f := by
  rw [take_snoc z h, List.filter_append]
  simp only [List.filter_cons, e, Bool.false_eq_true, if_false, List.filter_nil, List.append_nil]
/-- What was found in the classes ahead of one. -/
def ahead (l : List It) (k : Int) : Nat → List It
  | 0 => []
  | 1 => ofc l k 0
  | 2 => ofc l k 0 ++ ofc l k 1
  | _ => of l k
theorem ahead_succ (l : List It) (k : Int) {c : Nat} (h : c < 3) : ahead l k (c + 1) = ahead l k c ++ ofc l k (c : Int) := by
  match c, h with
  | 0, _ => simp [ahead]
  | 1, _ => simp [ahead]
  | 2, _ => simp [ahead, of]
theorem ahead_len (l : List It) (k : Int) (c : Nat) : (ahead l k c).length ≤ 3 * l.length := by
  have h0 := ofc_len l k 0
  have h1 := ofc_len l k 1
  have h2 := ofc_len l k 2
  unfold ahead
  split <;> simp [of] <;> omega
set_option maxRecDepth 100000 in
set_option maxHeartbeats 4000000 in
theorem rof_any {B v : Nat} {room : Int} {l : List It} {w : World} (h : Qu B w v room l) (hl : l.length ≤ 1000) (key : Int) :
    Calls Tryz.prog 77 #[.pointer (some ⟨v, 0, none⟩), .int .i64 key] w fun e w' => ∃ p c, e = .returned (.slice p (of l key).length c) ∧ Lies item w' p (of l key) ∧ Below w.heap.size w w' := by
  have HV := Lib.hid h
  have HD := Lib.hid (show ahead l key 3 = of l key from rfl)
  have HS := Lib.hid (fun (c : Nat) (h : c < 3) => ahead_succ l key h)
  have HL := Lib.hid (ahead_len l key)
  have H0 := Lib.hid (show ahead l key 0 = [] from rfl)
  generalize of l key = R at HD ⊢
  generalize ahead l key = AH at *
  clear h
  go_enter Tryz.func77, Tryz.ntmps77
  go_wp2
  go_loopw [5, 6] (fun y k wr => ∃ (c : Nat) (p : Option Addr) (d n : Nat), c ≤ 3 ∧ k = .int .i64 (c : Int) ∧ y = .slice p n d ∧ Hid (Own item 95 w.heap.size wr y (AH c)) ∧ Hid ((AH c).length = n) ∧ Below w.heap.size w wr) (fun _ k _ => 3 - (intOf k).toNat)
  case atStart => exact ⟨0, none, 0, 0, by omega, rfl, rfl, by rw [H0.out]; exact Lib.hid (Own.none _ _ _ _), by rw [H0.out]; exact Lib.hid rfl, Below.refl _ _⟩
  case round =>
    obtain ⟨c, p, d, n, hc, rfl, rfl, hown, hn, hbw⟩ := hrel
    by_cases hlt : c < 3
    · have hlt' : (c : Int) < 3 := by omega
      have HC := Lib.hid (HS.out c hlt)
      have HN := Lib.hid (HL.out c)
      generalize AH c = A0 at *
      have HBW := Lib.hid hbw
      clear hbw
      go_wp2
      go_loopw [5, 7] (fun y k wu => ∃ (j : Nat) (p : Option Addr) (d n : Nat), j ≤ l.length ∧ k = .int .i64 (j : Int) ∧ y = .slice p n d ∧ Hid (Own item 95 w.heap.size wu y (A0 ++ (l.take j).filter (isOf key (c : Int)))) ∧ Hid ((A0 ++ (l.take j).filter (isOf key (c : Int))).length = n) ∧ Hid (Below w.heap.size w wu)) (fun _ k _ => l.length - (intOf k).toNat)
      case atStart => exact ⟨0, p, d, n, by omega, rfl, rfl, by simpa using hown, by simpa using hn, HBW⟩
      case round =>
        obtain ⟨j, p1, d1, n1, hj, rfl, rfl, hown1, hn1, hbw1⟩ := hrel
        obtain ⟨q, cq, c1, hr, -⟩ := (HV.out.below hbw1.out).cell
        have HR := Lib.hid hr
        clear hr hown hn HBW
        by_cases hlj : j < l.length
        · have hlj' : (j : Int) < (l.length : Int) := by omega
          obtain ⟨b, o, rfl, hat⟩ := lies_at HR.out hlj
          obtain ⟨k0, k1, k2, k3, k4⟩ := at5 hat
          have hn2 : n1 ≤ 5000 := by
            have := hn1.out
            have h5 : ((l.take j).filter (isOf key (c : Int))).length ≤ l.length := Nat.le_trans (List.length_filter_le _ _) (by simp; omega)
            rw [List.length_append] at this
            have := HN.out
            omega
          have HY := Lib.hid (filter_yes (f := isOf key (c : Int)) hlj)
          have HO := Lib.hid (filter_no (f := isOf key (c : Int)) hlj)
          have HA := Lib.hid hat
          generalize l.getD j z = x at *
          generalize hF : (l.take j).filter (isOf key (c : Int)) = F at *
          clear hF hat
          have hdec : isOf key (c : Int) x = (x.key == key && x.cls == (c : Int)) := rfl
          obtain ⟨xi, xk, xc, xs, xt⟩ := x
          simp only at k0 k1 k2 k3 k4 hdec
          by_cases hk : xk = key
          · by_cases hs : xs = (c : Int)
            · have HE := Lib.hid (HY.out (by rw [hdec]; simp [hk, hs]))
              subst hk hs
              clear hdec HY HO HR
              go_wp2_with (at_builtin; refine Kit.push laidR rfl _ _ rfl w wr (.slice p1 n1 d1) rfl (A0 ++ F) n1 hn1.out hown1.out hbw1.out ((Below.refl _ _).alloc (Nat.le_refl _) _) wr.heap.size ⟨xi, xk, xc, c, xt⟩ rfl (heap_alloc_new _ _) (by omega) ?_; intro p4 c4 w4 R4 B4)
              go_roundw
              case rel => exact ⟨j + 1, p4, c4, n1 + 1, by omega, by go_num, rfl, by rw [HE.out, ← List.append_assoc]; exact R4, Lib.hid (by rw [HE.out, ← List.append_assoc, List.length_append, hn1.out]; rfl), Lib.hid B4⟩
              case measure => simp only [intOf]; omega
            · have HE := Lib.hid (HO.out (by rw [hdec]; simp [hs]))
              subst hk
              clear hdec HY HO HR
              go_wp2
              go_roundw
              case rel => exact ⟨j + 1, p1, d1, n1, by omega, by go_num, rfl, by rw [HE.out]; exact hown1, by rw [HE.out]; exact hn1, hbw1⟩
              case measure => simp only [intOf]; omega
          · have HE := Lib.hid (HO.out (by rw [hdec]; simp [hk]))
            clear hdec HY HO HR
            go_wp2
            go_roundw
            case rel => exact ⟨j + 1, p1, d1, n1, by omega, by go_num, rfl, by rw [HE.out]; exact hown1, by rw [HE.out]; exact hn1, hbw1⟩
            case measure => simp only [intOf]; omega
        · have hlj' : ¬ (j : Int) < (l.length : Int) := by omega
          rw [List.take_of_length_le (by omega)] at hown1 hn1
          rw [show A0 ++ l.filter (isOf key (c : Int)) = A0 ++ ofc l key (c : Int) from rfl, ← HC.out] at hown1 hn1
          clear HR
          go_wp2
          go_roundw
          case rel => exact ⟨c + 1, p1, d1, n1, by omega, by go_num, rfl, hown1, hn1, hbw1.out⟩
          case measure => simp only [intOf]; omega
    · have hlt' : ¬ (c : Int) < 3 := by omega
      obtain rfl : c = 3 := by omega
      rw [HD.out] at hown hn
      have hw := hown.out
      have hnn := hn.out
      subst hnn
      obtain ⟨q', d', hq, hlies⟩ := hw.lies
      simp only [Value.slice.injEq] at hq
      obtain ⟨rfl, -, rfl⟩ := hq
      have HQ := Lib.hid hlies
      have HBW := Lib.hid hbw
      clear hlies hw hown hn hbw
      go_wp2
      refine bodyPost_ret (v := .slice p R.length d) (by simp [results, Tryz.results77, go_sem]) rfl ⟨p, ⟨d, rfl⟩, HQ.out, HBW.out⟩
end Go.Proofs.YtlbpeeelgpjciaaGreat.Queue

namespace Go.Proofs.YtlbpeeelgpjciaaGreat.Queue
open Go.RowKit
open _root_.Go.Proofs.YtlbpeeelgpjciaaGreat.Codec (lt_of_heap frozen_of heap_set below_new own_below)
open _root_.Go.Proofs.YtlbpeeelgpjciaaGreat.Kit (Enc Lies Own At Kept Laid cell_on lt_heap take_snoc below_drewN box5)

/-- Are they the same? -/
def same5 (a b : It) : Bool := a.id == b.id && (a.key == b.key && (a.cost == b.cost && (a.cls == b.cls && a.til == b.til)))
theorem same5_iff {a b : It} : same5 a b = true ↔ a = b := by
  obtain ⟨a1, a2, a3, a4, a5⟩ := a
  obtain ⟨b1, b2, b3, b4, b5⟩ := b
  simp [same5]
theorem eq5 (a b : It) (w : World) : (Op.equalIn 10000 95 (val a) (val b)).run Tryz.prog w = .ok (same5 a b) w := by
  obtain ⟨a1, a2, a3, a4, a5⟩ := a
  obtain ⟨b1, b2, b3, b4, b5⟩ := b
  unfold val same5
  rw [run_equalIn_agg w 9999 _ _ _ (by kernel_rfl) (by kernel_rfl)]
  have e : ∀ (a b : Int) (w : World), (Op.equalIn 9999 3 (.int .i64 a) (.int .i64 b)).run Tryz.prog w = .ok (a == b) w := fun a b w => run_equalIn_int w 9998 _ _ _ a b Tryz.underlying3
  by_cases h1 : a1 = b1
  · by_cases h2 : a2 = b2
    · by_cases h3 : a3 = b3
      · by_cases h4 : a4 = b4
        · by_cases h5 : a5 = b5
          · simp [Program.fieldsOf, Tryz.underlying95, Op.eqFields, part, isAgg, run_underlying Tryz.underlying3, e, h1, h2, h3, h4, h5]
          · simp [Program.fieldsOf, Tryz.underlying95, Op.eqFields, part, isAgg, run_underlying Tryz.underlying3, e, h1, h2, h3, h4, h5]
        · simp [Program.fieldsOf, Tryz.underlying95, Op.eqFields, part, isAgg, run_underlying Tryz.underlying3, e, h1, h2, h3, h4]
      · simp [Program.fieldsOf, Tryz.underlying95, Op.eqFields, part, isAgg, run_underlying Tryz.underlying3, e, h1, h2, h3]
    · simp [Program.fieldsOf, Tryz.underlying95, Op.eqFields, part, isAgg, run_underlying Tryz.underlying3, e, h1, h2]
  · simp [Program.fieldsOf, Tryz.underlying95, Op.eqFields, part, isAgg, run_underlying Tryz.underlying3, e, h1]
theorem neq5 (a b : It) (w : World) : (binOp .neq 95 (val a) (val b)).run Tryz.prog w = .ok (.bool (!same5 a b)) w := by
  have := eq5 a b w
  unfold val at this ⊢
  rw [run_neq_struct, this]; rfl
theorem eql5 (a b : It) (w : World) : (binOp .eql 95 (val a) (val b)).run Tryz.prog w = .ok (.bool (same5 a b)) w := by
  have := eq5 a b w
  unfold val at this ⊢
  rw [run_eql_struct, this]; rfl

/-- Two lists that lie are the same list: Same says so. -/
theorem rsame_any {l : List It} {p q : Option Addr} {c d : Nat} {w : World} (h : Lies item w p l) (h' : Lies item w q l) (hl : l.length ≤ 1000) :
    Calls Tryz.prog 11 #[.slice p l.length c, .slice q l.length d] w fun e w' => e = .returned (.bool true) ∧ Below w.heap.size w w' := by
  have HB := Lib.hid (Below.refl w.heap.size w)
  have HL := Lib.hid h
  have HM := Lib.hid h'
  clear h h'
  have hne : ((l.length : Int) != (l.length : Int)) = false := by simp
  go_enter Tryz.func11, Tryz.ntmps11
  go_wp2
  go_loopw [5] (fun i wr => ∃ j : Nat, j ≤ l.length ∧ i = .int .i64 (j : Int) ∧ Hid (Below w.heap.size w wr)) (fun i _ => l.length - (intOf i).toNat)
  case atStart => exact ⟨0, by omega, rfl, HB⟩
  case round =>
    obtain ⟨j, hj, rfl, hbw⟩ := hrel
    by_cases hlt : j < l.length
    · obtain ⟨b, o, rfl, ha⟩ := lies_at (HL.out.below hbw.out) hlt
      obtain ⟨k0, k1, k2, k3, k4⟩ := at5 ha
      obtain ⟨b', o', rfl, ha'⟩ := lies_at (HM.out.below hbw.out) hlt
      obtain ⟨x0, x1, x2, x3, x4⟩ := at5 ha'
      have hlt' : (j : Int) < (l.length : Int) := by omega
      have heq := fun i => neq5 (l.getD j z) (l.getD j z) (wr.drewN i)
      rw [same5_iff.2 rfl] at heq
      clear HL HM ha ha'
      generalize l.getD j z = x at *
      obtain ⟨xi, xk, xc, xs, xt⟩ := x
      simp only [val, Bool.not_true] at heq k0 k1 k2 k3 k4 x0 x1 x2 x3 x4
      go_wp2
      go_quiet (fail)
      go_wp2
      go_roundw
      case rel => exact ⟨j + 1, by omega, by go_num, Lib.hid (hbw.out.trans ((below_drewN _ _).mono hbw.out.size))⟩
      case measure => simp only [intOf]; omega
    · have hlt' : ¬ (j : Int) < (l.length : Int) := by omega
      clear HL HM
      go_wp2
      go_ret
      exact ⟨rfl, hbw.out⟩

set_option maxRecDepth 100000 in
set_option maxHeartbeats 4000000 in
/-- Of: the program's items, as the document has them. -/
theorem of_any {l : List It} {p : Option Addr} {c : Nat} {w : World} (h : Lies item w p l) (hl : l.length ≤ 1000) :
    Calls Tryz.prog 12 #[.slice p l.length c] w fun e w' => ∃ q d, e = .returned (.slice q l.length d) ∧ Lies item w' q l ∧ Below w.heap.size w w' := by
  have HL := Lib.hid h
  clear h
  go_enter Tryz.func12, Tryz.ntmps12
  go_wp2
  go_loopw [3, 4] (fun y i wr => ∃ (j : Nat) (q : Option Addr) (d : Nat), j ≤ l.length ∧ i = .int .i64 (j : Int) ∧ y = .slice q j d ∧ Hid (Own item 95 w.heap.size wr y (l.take j)) ∧ Below w.heap.size w wr) (fun _ i _ => l.length - (intOf i).toNat)
  case atStart => exact ⟨0, none, 0, by omega, rfl, rfl, Lib.hid (Own.none _ _ _ _), Below.refl _ _⟩
  case round =>
    obtain ⟨j, q, d, hj, rfl, rfl, hown, hbw⟩ := hrel
    have HBW := Lib.hid hbw
    by_cases hlt : j < l.length
    · obtain ⟨b, o, rfl, ha⟩ := lies_at (HL.out.below hbw) hlt
      obtain ⟨k0, k1, k2, k3, k4⟩ := at5 ha
      have hlt' : (j : Int) < (l.length : Int) := by omega
      have HT := Lib.hid (take_snoc z hlt)
      have HN := Lib.hid (show (l.take j).length = j by simp; omega)
      clear hbw ha HL
      generalize l.getD j z = x at *
      generalize l.take j = L at *
      obtain ⟨xi, xk, xc, xs, xt⟩ := x
      simp only at k0 k1 k2 k3 k4
      have HU := Lib.hid (fun (o : Obj) => (Below.refl wr.heap.size wr).alloc (Nat.le_refl _) o)
      have HG := Lib.hid (fun (o o' : Obj) => show ((wr.alloc o).alloc o').heap[wr.heap.size + 1]? = some o' from by have := heap_alloc_new (wr.alloc o) o'; simpa using this)
      go_wp2_with (at_builtin; refine Kit.push laidR rfl _ _ rfl w wr (.slice q j d) rfl L j HN.out hown.out HBW.out ((HU.out _).alloc (HU.out _).size _) (wr.heap.size + 1) ⟨xi, xk, xc, xs, xt⟩ rfl (HG.out _ _) (by omega) ?_; intro p4 c4 w4 R4 B4)
      go_roundw
      case rel => exact ⟨j + 1, p4, c4, by omega, by go_num, rfl, by rw [HT.out]; exact R4, B4⟩
      case measure => simp only [intOf]; omega
    · have hlt' : ¬ (j : Int) < (l.length : Int) := by omega
      have e : j = l.length := by omega
      have hw := hown.out
      rw [List.take_of_length_le (by omega)] at hw
      obtain ⟨q', d', hq, hlies⟩ := hw.lies
      simp only [Value.slice.injEq] at hq
      obtain ⟨rfl, -, rfl⟩ := hq
      have HQ := Lib.hid hlies
      clear hlies hw hown
      go_wp2
      subst e
      refine bodyPost_ret (v := .slice q l.length d) (by simp [results, Tryz.results12, go_sem]) rfl ⟨q, ⟨d, rfl⟩, HQ.out, HBW.out⟩
theorem sums_at {l : List It} {j : Nat} (h : j < l.length) : sums (l.take (j + 1)) = Sat.add [sums (l.take j), (l.getD j z).cost] := by
  rw [take_snoc z h, sums_snoc]
set_option maxRecDepth 100000 in
set_option maxHeartbeats 4000000 in
theorem rsum_any {B v : Nat} {room : Int} {l : List It} {w : World} (h : Qu B w v room l) (hl : l.length ≤ 1000) (key : Int) :
    Calls Tryz.prog 93 #[.pointer (some ⟨v, 0, none⟩), .int .i64 key] w fun e w' => e = .returned (.int .i64 (sum l key)) ∧ Below w.heap.size w w' := by
  have HO := rof_any h hl key
  have HM := Lib.hid (show sum l key = sums (of l key) from rfl)
  have hm : (of l key).length ≤ 1000 := Nat.le_trans (of_len l key) hl
  generalize of l key = m at *
  have HS := Lib.hid (fun (j : Nat) (hj : j < m.length) => sums_at hj)
  have H0 := Lib.hid (show sums [] = 0 from rfl)
  generalize sums = SU at *
  generalize sum l key = R at *
  have ct := _root_.Go.Proofs.YtlbpeeelgpjciaaGreat.Sat.rtwo_any
  clear h
  go_enter Tryz.func93, Tryz.ntmps93
  go_wp2_with (go_at_call 77; (with_reducible refine HO.mono ?_); rintro e w1 ⟨p, c, rfl, hp, hb⟩; have HP := Lib.hid hp; have HB1 := Lib.hid hb; clear hp hb HO)
  go_loopw [6, 7] (fun s i wr => ∃ j : Nat, j ≤ m.length ∧ i = .int .i64 (j : Int) ∧ s = .int .i64 (SU (m.take j)) ∧ w1 = wr) (fun _ i _ => m.length - (intOf i).toNat)
  case atStart => exact ⟨0, by omega, rfl, by rw [List.take_zero, H0.out], rfl⟩
  case round =>
    obtain ⟨j, hj, rfl, rfl, rfl⟩ := hrel
    by_cases hlt : j < m.length
    · obtain ⟨b, o, rfl, ha⟩ := lies_at HP.out hlt
      obtain ⟨k0, k1, k2, k3, k4⟩ := at5 ha
      have hlt' : (j : Int) < (m.length : Int) := by omega
      have HE := Lib.hid (HS.out j hlt)
      clear ha HS
      generalize l.getD j z = x at *
      generalize (m.getD j z).cost = xc at *
      generalize SU (m.take j) = s0 at *
      have ct2 := ct s0 xc
      go_wp2_with (go_at_call 85; (with_reducible refine (ct2 _).mono ?_); rintro e w2 ⟨rfl, rfl⟩)
      go_roundw
      case rel => exact ⟨j + 1, by omega, by go_num, by rw [HE.out], trivial⟩
      case measure => simp only [intOf]; omega
    · have hlt' : ¬ (j : Int) < (m.length : Int) := by omega
      have HE := Lib.hid (show SU (m.take j) = R by rw [List.take_of_length_le (by omega), HM.out])
      generalize SU (m.take j) = s0 at *
      go_wp2
      go_ret
      exact ⟨by simp; exact HE.out, HB1.out⟩
end Go.Proofs.YtlbpeeelgpjciaaGreat.Queue
