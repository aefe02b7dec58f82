/-
  An act on the program's wallet (step), and on the document's (want), of any act.
-/
import Derived.Test.YtlipepbemofihaaLeaseWay
namespace Go.Proofs.Ytlipepbemofihaa.Lease
open Go.RowKit
open _root_.Go.Proofs.Ytlipepbemofihaa.Codec (lt_of_heap frozen_of heap_set below_new own_below)

structure Ac where
  kind : Int
  l : Lz
  now : Int
def actVal (a : Ac) : Value := .agg #[.int .u8 a.kind, .int .i64 a.l.key, .int .i64 a.l.gen, .int .i64 a.l.amount, .int .i64 a.l.spent, .int .i64 a.l.til, .int .i64 a.now]
def AcNum (a : Ac) : Prop := (0 ≤ a.kind ∧ a.kind ≤ 255) ∧ Nums a.l ∧ Num a.now
/-- What an act makes, and tells. -/
def actOf (l : List Lz) (a : Ac) : List Lz × Int × Bool :=
  if a.kind % 7 = 0 ∨ a.kind % 7 = 1 then ((put l a.l).1, (put l a.l).2, true)
  else if a.kind % 7 = 5 then ((close l a.l.key a.l.gen).1, (close l a.l.key a.l.gen).2, true)
  else if a.kind % 7 = 6 then ((drop l a.l.gen).1, (drop l a.l.gen).2, true)
  else spend l a.l.key a.l.amount a.now
theorem good_act {l : List Lz} (h : Good l) {a : Ac} (ha : AcNum a) : Good (actOf l a).1 := by
  unfold actOf
  split
  · exact good_put h ha.2.1
  · split
    · exact good_close h _ _
    · split
      · exact good_drop h _
      · exact good_spend h _ _ _
theorem len_act (l : List Lz) (a : Ac) : (actOf l a).1.length ≤ l.length + 1 := by
  unfold actOf
  split
  · exact len_put l a.l
  · split
    · exact Nat.le_succ_of_le (len_close l _ _)
    · split
      · exact Nat.le_succ_of_le (len_drop l _)
      · rw [len_spend]; omega
theorem kinds {k : Int} (_ : 0 ≤ k) : (k % 7 = 0 ∨ k % 7 = 1) ∨ k % 7 = 5 ∨ k % 7 = 6 ∨ (k % 7 = 2 ∨ k % 7 = 3 ∨ k % 7 = 4) := by omega
theorem Moved.lift {PW : Pw} {B q : Nat} {w u w' : World} {l : List Lz} (hB : B ≤ w.heap.size) (hb : Below w.heap.size w u) (h : Moved PW B u q l w') : Moved PW B w q l w' :=
  ⟨h.pw, ⟨Nat.le_trans hb.size h.off.size, fun g cs t z e ht => h.off.block g cs t z ((hb.block g (lt_of_heap e)).trans e) ht⟩, (hb.mono hB).trans h.below⟩
theorem Step.lift {B v : Nat} {w u w' : World} {l : List Lz} (hB : B ≤ w.heap.size) (hb : Below w.heap.size w u) (h : Step B u v l w') : Step B w v l w' :=
  ⟨h.wl, ⟨Nat.le_trans hb.size h.kept.size, fun g o e ht => h.kept.obj g o ((hb.block g (lt_heap e)).trans e) ht⟩, (hb.mono hB).trans h.below⟩
theorem box7 {w : World} {b : Nat} {v0 v1 v2 v3 v4 v5 v6 : Value} {T : TypeId} (h : w.heap[b]? = some (.cells #[v0, v1, v2, v3, v4, v5, v6] T (0, 0))) : w.cell? ⟨b, 0, none⟩ = some v0 ∧ w.cell? ⟨b, 1, none⟩ = some v1 ∧ w.cell? ⟨b, 2, none⟩ = some v2 ∧ w.cell? ⟨b, 3, none⟩ = some v3 ∧ w.cell? ⟨b, 4, none⟩ = some v4 ∧ w.cell? ⟨b, 5, none⟩ = some v5 ∧ w.cell? ⟨b, 6, none⟩ = some v6 :=
  ⟨by rw [cell_of_row w b 0 _ _ (0, 0) h]; rfl, by rw [cell_of_row w b 1 _ _ (0, 0) h]; rfl, by rw [cell_of_row w b 2 _ _ (0, 0) h]; rfl, by rw [cell_of_row w b 3 _ _ (0, 0) h]; rfl, by rw [cell_of_row w b 4 _ _ (0, 0) h]; rfl, by rw [cell_of_row w b 5 _ _ (0, 0) h]; rfl, by rw [cell_of_row w b 6 _ _ (0, 0) h]; rfl⟩

set_option maxRecDepth 100000 in
set_option maxHeartbeats 4000000 in
/-- The program's step. -/
theorem step_way {PW : Pw} (P : Way11 PW) {B q : Nat} {w : World} {l : List Lz} (h : PW B w q l) (hB : B ≤ w.heap.size) (hg : Good l) (hl : l.length ≤ 100) (a : Ac) (ha : AcNum a) :
    Calls Try.prog 7 #[.pointer (some ⟨q, 0, none⟩), actVal a] w fun e w' => e = .returned (.tuple #[.int .i64 (actOf l a).2.1, .bool (actOf l a).2.2]) ∧ Moved PW B w q (actOf l a).1 w' := by
  have hb := (Below.refl w.heap.size w).alloc (Nat.le_refl _) (.cells #[.int .u8 a.kind, .int .i64 a.l.key, .int .i64 a.l.gen, .int .i64 a.l.amount, .int .i64 a.l.spent, .int .i64 a.l.til, .int .i64 a.now] 35)
  have hh := P.below h hb
  have hB2 := Nat.le_trans hB hb.size
  obtain ⟨⟨k0, k1⟩, ⟨n1, n2, n3, n4, n5⟩, n6⟩ := ha
  have cp := P.put hh hB2 hg hl a.l ⟨n1, n2, n3, n4, n5⟩
  have cs := P.spend hh hB2 hg hl a.l.key a.l.amount a.now n1 n3 n6
  have cc := P.close hh hB2 hg hl a.l.key a.l.gen n1 n2
  have cd := P.drop hh hB2 hg hl a.l.gen n2
  obtain ⟨b0, b1, b2, b3, b4, b5, b6⟩ := box7 (heap_alloc_new w (.cells #[.int .u8 a.kind, .int .i64 a.l.key, .int .i64 a.l.gen, .int .i64 a.l.amount, .int .i64 a.l.spent, .int .i64 a.l.til, .int .i64 a.now] 35))
  have LF := Lib.hid (fun (l' : List Lz) (w' : World) (hm : Moved PW B _ q l' w') => Moved.lift hB hb hm)
  have HO := Lib.hid (show actOf l a = if a.kind % 7 = 0 ∨ a.kind % 7 = 1 then ((put l a.l).1, (put l a.l).2, true) else if a.kind % 7 = 5 then ((close l a.l.key a.l.gen).1, (close l a.l.key a.l.gen).2, true) else if a.kind % 7 = 6 then ((drop l a.l.gen).1, (drop l a.l.gen).2, true) else spend l a.l.key a.l.amount a.now from rfl)
  have hk := kinds k0
  generalize actOf l a = R at *
  obtain ⟨kind, ⟨xk, xg, xa, xs, xt⟩, now⟩ := a
  simp only [val] at *
  clear P h hB hg hl hh hB2 hb n1 n2 n3 n4 n5 n6
  simp only [actVal]
  rcases hk with hk | hk | hk | hk
  · have hR := Lib.hid (HO.out.trans (if_pos hk))
    clear cs cc cd HO
    generalize put l ⟨xk, xg, xa, xs, xt⟩ = S at *
    rcases hk with hk | hk
    all_goals
      go_enter Try.func7, Try.ntmps7
      go_wp2_with (go_at_call 15; (with_reducible refine cp.mono ?_); rintro e u1 ⟨rfl, hm⟩; have H1 := Lib.hid (LF.out _ _ hm); clear hm cp)
      refine bodyPost_ret (v := .tuple #[.int .i64 S.2, .bool true]) (by simp [results, Try.results7, go_sem]) rfl ?_
      rw [hR.out]
      exact ⟨rfl, H1.out⟩
  · have hR := Lib.hid (HO.out.trans ((if_neg (by omega)).trans (if_pos hk)))
    clear cs cp cd HO
    generalize close l xk xg = S at *
    go_enter Try.func7, Try.ntmps7
    go_wp2_with (go_at_call 17; (with_reducible refine cc.mono ?_); rintro e u1 ⟨rfl, hm⟩; have H1 := Lib.hid (LF.out _ _ hm); clear hm cc)
    refine bodyPost_ret (v := .tuple #[.int .i64 S.2, .bool true]) (by simp [results, Try.results7, go_sem]) rfl ?_
    rw [hR.out]
    exact ⟨rfl, H1.out⟩
  · have hR := Lib.hid (HO.out.trans ((if_neg (by omega)).trans ((if_neg (by omega)).trans (if_pos hk))))
    clear cs cp cc HO
    generalize drop l xg = S at *
    go_enter Try.func7, Try.ntmps7
    go_wp2_with (go_at_call 16; (with_reducible refine cd.mono ?_); rintro e u1 ⟨rfl, hm⟩; have H1 := Lib.hid (LF.out _ _ hm); clear hm cd)
    refine bodyPost_ret (v := .tuple #[.int .i64 S.2, .bool true]) (by simp [results, Try.results7, go_sem]) rfl ?_
    rw [hR.out]
    exact ⟨rfl, H1.out⟩
  · have hR := Lib.hid (HO.out.trans ((if_neg (by omega)).trans ((if_neg (by omega)).trans (if_neg (by omega)))))
    clear cd cp cc HO
    generalize spend l xk xa now = S at *
    rcases hk with hk | hk | hk
    all_goals
      go_enter Try.func7, Try.ntmps7
      go_wp2_with (go_at_call 14; (with_reducible refine cs.mono ?_); rintro e u1 ⟨rfl, hm⟩; have H1 := Lib.hid (LF.out _ _ hm); clear hm cs)
      refine bodyPost_ret (v := .tuple #[.int .i64 S.2.1, .bool S.2.2]) (by simp [results, Try.results7, go_sem]) rfl ?_
      rw [hR.out]
      exact ⟨rfl, H1.out⟩
end Go.Proofs.Ytlipepbemofihaa.Lease
