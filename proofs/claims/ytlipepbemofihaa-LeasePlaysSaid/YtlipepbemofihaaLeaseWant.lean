/-
  An act on the document's wallet (want), of any act.
-/
import Derived.Test.YtlipepbemofihaaLeaseStep
namespace Go.Proofs.Ytlipepbemofihaa.Lease
open Go.RowKit
open _root_.Go.Proofs.Ytlipepbemofihaa.Codec (lt_of_heap frozen_of heap_set below_new own_below)

/-- One lease, just laid. -/
theorem lies_one {u : World} {g : Nat} {x : Lz} {T : TypeId} (h : u.heap[g]? = some (.cells #[.int .i64 x.key, .int .i64 x.gen, .int .i64 x.amount, .int .i64 x.spent, .int .i64 x.til] T (0, 0))) : Lies u (some ⟨g, 0, none⟩) [x] := by
  obtain ⟨h0, h1, h2, h3, h4⟩ := box5 h
  refine .inr ⟨g, 0, rfl, fun j hj => ?_⟩
  obtain rfl : j = 0 := by simp at hj; omega
  exact ⟨h0, h1, h2, h3, h4⟩

theorem lies_first {u : World} {p : Option Addr} {k g a s t : Int} (h : Lies u p [⟨k, g, a, s, t⟩]) : ∃ b o, p = some ⟨b, o, none⟩ ∧ u.cell? ⟨b, o, none⟩ = some (.int .i64 k) ∧ u.cell? ⟨b, o + 1, none⟩ = some (.int .i64 g) ∧ u.cell? ⟨b, o + 2, none⟩ = some (.int .i64 a) ∧ u.cell? ⟨b, o + 3, none⟩ = some (.int .i64 s) ∧ u.cell? ⟨b, o + 4, none⟩ = some (.int .i64 t) := by
  obtain ⟨b, o, rfl, ha⟩ := lies_at h (show 0 < 1 by omega)
  rw [Nat.zero_mul, Nat.add_zero] at ha
  exact ⟨b, o, rfl, ha⟩

set_option maxRecDepth 100000 in
set_option maxHeartbeats 4000000 in
theorem want_any {B v : Nat} {w : World} {l : List Lz} (h : Wl B w v l) (hB : B ≤ w.heap.size) (hg : Good l) (hl : l.length ≤ 100) (a : Ac) (k0 : 0 ≤ a.kind) (k1 : a.kind ≤ 255) :
    Calls Try.prog 8 #[.pointer (some ⟨v, 0, none⟩), actVal a] w fun e w' => e = .returned (.tuple #[.int .i64 (actOf l a).2.1, .bool (actOf l a).2.2]) ∧ Step B w v (actOf l a).1 w' := by
  have hb := (Below.refl w.heap.size w).alloc (Nat.le_refl _) (.cells #[.int .u8 a.kind, .int .i64 a.l.key, .int .i64 a.l.gen, .int .i64 a.l.amount, .int .i64 a.l.spent, .int .i64 a.l.til, .int .i64 a.now] 35)
  have hh := h.below hb
  have hB2 := Nat.le_trans hB hb.size
  have cp := Lib.hid (fun u (hu : Below w.heap.size w u) => rput_any (h.below hu) (Nat.le_trans hB hu.size) (by omega) a.l)
  have hb3 := hb.alloc hb.size (.cells #[.int .i64 a.l.key, .int .i64 a.l.gen, .int .i64 a.l.amount, .int .i64 a.l.spent, .int .i64 a.l.til] 33)
  have co := of_any (c := 1) (w := (w.alloc (.cells #[.int .u8 a.kind, .int .i64 a.l.key, .int .i64 a.l.gen, .int .i64 a.l.amount, .int .i64 a.l.spent, .int .i64 a.l.til, .int .i64 a.now] 35)).alloc (.cells #[.int .i64 a.l.key, .int .i64 a.l.gen, .int .i64 a.l.amount, .int .i64 a.l.spent, .int .i64 a.l.til] 33)) (p := some ⟨w.heap.size + 1, 0, none⟩) (l := [a.l]) (lies_one (T := 33) (by have := heap_alloc_new (w.alloc (.cells #[.int .u8 a.kind, .int .i64 a.l.key, .int .i64 a.l.gen, .int .i64 a.l.amount, .int .i64 a.l.spent, .int .i64 a.l.til, .int .i64 a.now] 35)) (.cells #[.int .i64 a.l.key, .int .i64 a.l.gen, .int .i64 a.l.amount, .int .i64 a.l.spent, .int .i64 a.l.til] 33); simpa using this)) (by simp)
  simp only [List.length_cons, List.length_nil, Nat.zero_add] at co
  have cs := rspend_any hh hB2 hg (by omega) a.l.key a.l.amount a.now
  have cc := rclose_any hh hB2 (by omega) a.l.key a.l.gen
  have cd := rdrop_any hh hB2 (by omega) a.l.gen
  obtain ⟨b0, b1, b2, b3, b4, b5, b6⟩ := box7 (heap_alloc_new w (.cells #[.int .u8 a.kind, .int .i64 a.l.key, .int .i64 a.l.gen, .int .i64 a.l.amount, .int .i64 a.l.spent, .int .i64 a.l.til, .int .i64 a.now] 35))
  have LF := Lib.hid (fun (u : World) (l' : List Lz) (w' : World) (hu : Below w.heap.size w u) (hm : Step B u v l' w') => Step.lift hB hu hm)
  have HB := Lib.hid hb
  have HB3 := Lib.hid hb3
  clear hb3
  have HO := Lib.hid (show actOf l a = if a.kind % 7 = 0 ∨ a.kind % 7 = 1 then ((put l a.l).1, (put l a.l).2, true) else if a.kind % 7 = 5 then ((close l a.l.key a.l.gen).1, (close l a.l.key a.l.gen).2, true) else if a.kind % 7 = 6 then ((drop l a.l.gen).1, (drop l a.l.gen).2, true) else spend l a.l.key a.l.amount a.now from rfl)
  have hk := kinds k0
  generalize actOf l a = R at *
  obtain ⟨kind, ⟨xk, xg, xa, xs, xt⟩, now⟩ := a
  simp only [val] at *
  clear h hB hg hl hh hB2 hb
  simp only [actVal]
  rcases hk with hk | hk | hk | hk
  · have hR := Lib.hid (HO.out.trans (if_pos hk))
    clear cs cc cd HO
    generalize put l ⟨xk, xg, xa, xs, xt⟩ = S at *
    rcases hk with hk | hk
    all_goals
      go_enter Try.func8, Try.ntmps8
      go_wp2_with (first
        | (go_at_call 10; (with_reducible refine co.mono ?_); rintro e u1 ⟨q, d, rfl, hq, hbu⟩; have HB1 := Lib.hid (HB3.out.trans (hbu.mono HB3.out.size)); obtain ⟨qb, qo, rfl, y0, y1, y2, y3, y4⟩ := lies_first hq; clear hq hbu co)
        | (go_at_call 18; (with_reducible refine (cp.out _ HB1.out).mono ?_); rintro e u2 ⟨rfl, hm⟩; have H1 := Lib.hid (LF.out _ _ _ HB1.out hm); clear hm cp))
      refine bodyPost_ret (v := .tuple #[.int .i64 S.2, .bool true]) (by simp [results, Try.results8, go_sem]) rfl ?_
      rw [hR.out]
      exact ⟨rfl, H1.out⟩
  · have hR := Lib.hid (HO.out.trans ((if_neg (by omega)).trans (if_pos hk)))
    clear cs cp cd HO co
    generalize close l xk xg = S at *
    go_enter Try.func8, Try.ntmps8
    go_wp2_with (go_at_call 19; (with_reducible refine cc.mono ?_); rintro e u1 ⟨rfl, hm⟩; have H1 := Lib.hid (LF.out _ _ _ HB.out hm); clear hm cc)
    refine bodyPost_ret (v := .tuple #[.int .i64 S.2, .bool true]) (by simp [results, Try.results8, go_sem]) rfl ?_
    rw [hR.out]
    exact ⟨rfl, H1.out⟩
  · have hR := Lib.hid (HO.out.trans ((if_neg (by omega)).trans ((if_neg (by omega)).trans (if_pos hk))))
    clear cs cp cc HO co
    generalize drop l xg = S at *
    go_enter Try.func8, Try.ntmps8
    go_wp2_with (go_at_call 20; (with_reducible refine cd.mono ?_); rintro e u1 ⟨rfl, hm⟩; have H1 := Lib.hid (LF.out _ _ _ HB.out hm); clear hm cd)
    refine bodyPost_ret (v := .tuple #[.int .i64 S.2, .bool true]) (by simp [results, Try.results8, go_sem]) rfl ?_
    rw [hR.out]
    exact ⟨rfl, H1.out⟩
  · have hR := Lib.hid (HO.out.trans ((if_neg (by omega)).trans ((if_neg (by omega)).trans (if_neg (by omega)))))
    clear cd cp cc HO co
    generalize spend l xk xa now = S at *
    rcases hk with hk | hk | hk
    all_goals
      go_enter Try.func8, Try.ntmps8
      go_wp2_with (go_at_call 21; (with_reducible refine cs.mono ?_); rintro e u1 ⟨rfl, hm⟩; have H1 := Lib.hid (LF.out _ _ _ HB.out hm); clear hm cs)
      refine bodyPost_ret (v := .tuple #[.int .i64 S.2.1, .bool S.2.2]) (by simp [results, Try.results8, go_sem]) rfl ?_
      rw [hR.out]
      exact ⟨rfl, H1.out⟩
end Go.Proofs.Ytlipepbemofihaa.Lease
