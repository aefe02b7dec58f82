/-
  The program's Hold and Held (package relay), of any frame whose lists lie, of at most 100 stamps, rows, and leases of a row.
-/
import Derived.Test.YtkdjhphakopfeaaRlAns
import Derived.Deep.RegionHeld3
namespace Go.Proofs.Ytkdjhphakopfeaa.Relay
open Go.RowKit
open _root_.Go.Proofs.Ytkdjhphakopfeaa.Codec (lt_of_heap frozen_of heap_set grown_set below_new Ints)
open _root_.Go.Proofs.Ytkdjhphakopfeaa.Frame (Fr Tk Tb Rw noRow frameOk Lying frameVal fitsTk OwnS RowsS Kp Asked undrew pright_any)
open _root_.Go.Proofs.Ytkdjhphakopfeaa.Kit (Kept Off cell_on)
section
variable {F : Nat → Prop} {w u : World} {B q : Nat} {r : Rl}
/-- A frame's copy is laid in its box, and the relay holds that. -/
theorem Moved.put (h : Pr F B w q r) (hB : B ≤ w.heap.size) (hb : Below w.heap.size w u) {b : Nat} (h1 : w.heap.size ≤ b) {c0 c1 c2 c3 c4 c5 c6 c7 c8 c9 c10 : Value} (kb : u.heap[b]? = some (.cells #[c0, c1, c2, c3, c4, c5, c6, c7, c8, c9, c10] 41 (0, 0))) (f : Fr) (ps p : Option Addr) (cs c : Nat) (hl : LyT u f ps p) :
    Moved Pr F B w q ⟨some f, r.sent⟩ ((set11 u b f ps p cs c).setCell ⟨q, 0, none⟩ (.pointer (some ⟨b, 0, none⟩))) := by
  have g1 := set11_grown u b f ps p cs c
  have k2 := set11_block kb f ps p cs c
  have hq := h.lt
  have hne : q ≠ b := by omega
  have hP : Pr F B (set11 u b f ps p cs c) q r := by
    obtain ⟨h0, hF, y, h2, h3⟩ := h.below hb
    refine ⟨h0, hF, y, (set11_off f ps p cs c hne).trans h2, ?_⟩
    obtain ⟨hd, n⟩ := r
    cases hd with
    | none => exact h3
    | some x =>
      obtain ⟨g, ps', p', cs', c', e, -, -⟩ := h3
      obtain ⟨-, -, y', h2', h3'⟩ := h
      obtain ⟨g', ps'', p'', cs'', c'', e', h4', h5'⟩ := h3'
      have hgl := lt_of_heap h4'
      have hyy : y = y' := by
        have := (hb.block q hq).trans h2'
        rw [h2] at this
        simpa using this
      have hg : g' ≠ b := by omega
      exact ⟨g', ps'', p'', cs'', c'', hyy.trans e', (set11_off f ps p cs c hg).trans ((hb.block g' hgl).trans h4'), (h5'.below hb).grown kb (by decide) (by decide) (by decide) g1⟩
  have hput := hP.put k2 (hl.grown kb (by decide) (by decide) (by decide) g1)
  have b1 : Below B w (set11 u b f ps p cs c) := set11_below (hb.mono hB) (by omega) f ps p cs c
  refine .of h hB hput (by simpa using b1.size) (fun g hn hg => ?_) (b1.setCell (p := ⟨q, 0, none⟩) h.1 _)
  exact (Below.heap_setCell _ _ _ _ hn).trans ((set11_off f ps p cs c (by omega)).trans (hb.block g hg))
set_option maxRecDepth 100000 in
set_option maxHeartbeats 1000000 in
theorem phold_any (h : Pr F B w q r) (hB : B ≤ w.heap.size) (f : Fr) (ps p : Option Addr) (cs c : Nat) (hk : (Lit.int .i64 f.kind).wf = true) (hf : fitsTk f.token = true) (hl : Lying w f ps p) :
    Calls Try.prog 11 #[.pointer (some ⟨q, 0, none⟩), frameVal f ps p cs c] w fun e w' => e = .returned (.int .i64 (hold r f).2) ∧ Moved Pr F B w q (hold r f).1 w' := by
  have HB := Lib.hid (lay w (.cells (cells11 f ps p cs c) 41))
  have HK := Lib.hid (heap_alloc_new w (.cells (cells11 f ps p cs c) 41))
  have HL := fun u (hu : Below w.heap.size w u) => (show Lying u f ps p from ⟨hl.stamps.below hu, hl.rows.below hu, hl.small, hl.few, hl.many⟩)
  have HR := Lib.hid (fun u (hu : Below w.heap.size w u) => pright_any f ps p cs c u hk (HL u hu))
  have HCP := Lib.hid (fun u (hu : Below w.heap.size w u) => pcopied_any f ps p cs c u hf (HL u hu))
  have HS := Lib.hid (fun u (hu : Below w.heap.size w u) => Moved.same h hB hu)
  have HP := Lib.hid (fun u (hu : Below w.heap.size w u) (qs qp : Option Addr) (ds d : Nat) (kb : u.heap[w.heap.size]? = some (.cells (cells11 f ps p cs c) 41 (0, 0))) => Moved.put h hB hu (Nat.le_refl _) kb f qs qp ds d)
  have HC := Lib.hid (fun u (hu : Below w.heap.size w u) => (h.below hu).cell)
  have hcase : (frameOk f = false ∧ f.kind = 0 ∧ hold r f = (r, 1)) ∨ (f.kind ≠ 0 ∧ hold r f = (r, 1)) ∨ (frameOk f = true ∧ f.kind = 0 ∧ isHeld r = true ∧ hold r f = (r, 5)) ∨ (frameOk f = true ∧ f.kind = 0 ∧ isHeld r = false ∧ hold r f = (⟨some f, r.sent⟩, 0)) := by
    unfold hold isHeld
    cases h1 : frameOk f
    · by_cases h2 : f.kind = 0
      · exact .inl ⟨rfl, h2, by simp⟩
      · exact .inr (.inl ⟨h2, by simp⟩)
    · by_cases h2 : f.kind = 0
      · cases h3 : r.held
        · exact .inr (.inr (.inr ⟨rfl, h2, rfl, by simp [h2]⟩))
        · exact .inr (.inr (.inl ⟨rfl, h2, rfl, by simp [h2]⟩))
      · exact .inr (.inl ⟨h2, by simp [h2]⟩)
  generalize hold r f = HH at *
  generalize frameOk f = ok at *
  obtain ⟨kd, sr, ds, ge, ho, bi, tk⟩ := f
  simp only [frameVal, cells11] at *
  have hql := h.lt
  have ne1 : ¬ (q = w.heap.size) := by omega
  have ne2 : ¬ (w.heap.size = q) := by omega
  clear h hl hB hf hk HL hql
  rcases hcase with ⟨rfl, rfl, rfl⟩ | ⟨h2, rfl⟩ | ⟨rfl, rfl, h3, rfl⟩ | ⟨rfl, rfl, h3, rfl⟩
  · go_enter Try.func11, Try.ntmps11
    go_wp2_with (first | (go_at_call 24; (with_reducible refine (HR.out _ HB.out).mono ?_); rintro e u1 ⟨rfl, hb⟩; have k1 := (hb.block _ (lt_of_heap HK.out)).trans HK.out; have B1 := Lib.hid (HB.out.trans (hb.mono HB.out.size)); obtain ⟨y0, y1, y2, y3, y4, y5, y6, y7, y8, y9, y10⟩ := box11 (f := ⟨0, sr, ds, ge, ho, bi, tk⟩) k1; obtain ⟨yq, yh, l0, -, fz, -⟩ := HC.out _ B1.out; simp only at y0 y1 y2 y3 y4 y5 y6 y7 y8 y9 y10; have K1 := Lib.hid k1; clear hb HR k1))
    go_ret
    exact ⟨rfl, HS.out _ B1.out⟩
  · have g2 : (kd != 0) = true := by simpa using h2
    go_enter Try.func11, Try.ntmps11
    go_wp2
    go_ret
    exact ⟨rfl, HS.out _ HB.out⟩
  · go_enter Try.func11, Try.ntmps11
    rw [h3] at HC
    go_wp2_with (first | (go_at_call 24; (with_reducible refine (HR.out _ HB.out).mono ?_); rintro e u1 ⟨rfl, hb⟩; have k1 := (hb.block _ (lt_of_heap HK.out)).trans HK.out; have B1 := Lib.hid (HB.out.trans (hb.mono HB.out.size)); obtain ⟨y0, y1, y2, y3, y4, y5, y6, y7, y8, y9, y10⟩ := box11 (f := ⟨0, sr, ds, ge, ho, bi, tk⟩) k1; obtain ⟨yq, yh, l0, -, fz, -⟩ := HC.out _ B1.out; simp only at y0 y1 y2 y3 y4 y5 y6 y7 y8 y9 y10; have K1 := Lib.hid k1; obtain ⟨a0, rfl⟩ := Option.isSome_iff_exists.1 yh; clear hb HR k1))
    go_ret
    exact ⟨rfl, HS.out _ B1.out⟩
  · go_enter Try.func11, Try.ntmps11
    rw [h3] at HC
    go_wp2_with (first
      | (go_at_call 24; (with_reducible refine (HR.out _ HB.out).mono ?_); rintro e u1 ⟨rfl, hb⟩; have k1 := (hb.block _ (lt_of_heap HK.out)).trans HK.out; have B1 := Lib.hid (HB.out.trans (hb.mono HB.out.size)); obtain ⟨y0, y1, y2, y3, y4, y5, y6, y7, y8, y9, y10⟩ := box11 (f := ⟨0, sr, ds, ge, ho, bi, tk⟩) k1; obtain ⟨yq, yh, l0, -, fz, -⟩ := HC.out _ B1.out; simp only at y0 y1 y2 y3 y4 y5 y6 y7 y8 y9 y10; have K1 := Lib.hid k1; rcases yq with _ | a; rotate_left; (cases yh); clear hb HR k1)
      | (go_at_call 23; (with_reducible refine (HCP.out _ B1.out).mono ?_); rintro e u2 ⟨qs, qp, d1, d2, rfl, hly, hb2⟩; have k2 := (hb2.block _ (lt_of_heap K1.out)).trans K1.out; have B2 := Lib.hid (B1.out.trans (hb2.mono B1.out.size)); obtain ⟨m0, m1, m2, m3, m4, m5, m6, m7, m8, m9, m10⟩ := box11 (f := ⟨0, sr, ds, ge, ho, bi, tk⟩) k2; obtain ⟨yq2, yh2, l2, -, fz2, -⟩ := HC.out _ B2.out; simp only at m0 m1 m2 m3 m4 m5 m6 m7 m8 m9 m10; have f0 := fun o => frozen_of (o := o) k2; have HP2 := Lib.hid (HP.out _ B2.out qs qp d1 d2 k2 hly); clear hb2 k2 HP hly))
    go_ret
    exact ⟨rfl, HP2.out⟩
/-- One more is counted, behind new memory; what is told is laid in a new box. -/
theorem held_mid (h : Pr F B w q r) (hB : B ≤ w.heap.size) {x : Fr} (hr : r.held = some x) : ∃ g qs qp ds d, ∀ u, Below w.heap.size w u → ∀ u1, u1 = u.setCell ⟨q, 1, none⟩ (.int .i64 ((r.sent : Int) + 1)) →
    u1.cell? ⟨q, 0, none⟩ = some (.pointer (some ⟨g, 0, none⟩)) ∧ u1.heap[g]? = some (.cells (cells11 x qs qp ds d) 41 (0, 0)) ∧ LyT u1 x qs qp ∧ (∀ b, b ≠ q → u1.heap[b]? = u.heap[b]?) ∧ u1.heap.size = u.heap.size ∧
    (∀ u2, Below u1.heap.size u1 u2 → ∀ b (k : Array Value), w.heap.size ≤ b → u2.heap[b]? = some (.cells k 41 (0, 0)) → ∀ f ps p cs c, Moved Pr F B w q ⟨r.held, r.sent + 1⟩ (set11 u2 b f ps p cs c)) := by
  obtain ⟨h0, hF, y, h1, h2⟩ := h
  have hh : Pr F B w q r := ⟨h0, hF, y, h1, h2⟩
  obtain ⟨hd, n⟩ := r
  obtain rfl : hd = some x := hr
  obtain ⟨g, qs, qp, ds, d, rfl, h3, h4⟩ := h2
  have hql := lt_of_heap h1
  have hgl := lt_of_heap h3
  have hne : g ≠ q := by
    rintro rfl
    rw [h1] at h3
    simp only [Option.some.injEq, Obj.cells.injEq] at h3
    exact absurd h3.2.1 (by decide)
  refine ⟨g, qs, qp, ds, d, fun u hu u1 e => ?_⟩
  subst e
  have k1 := heap_set q 1 _ (.int .i64 ((n : Int) + 1)) ((hu.block q hql).trans h1)
  have kg : (u.setCell ⟨q, 1, none⟩ (.int .i64 ((n : Int) + 1))).heap[g]? = _ := (Below.heap_setCell _ _ _ _ hne).trans ((hu.block g hgl).trans h3)
  have kl : LyT (u.setCell ⟨q, 1, none⟩ (.int .i64 ((n : Int) + 1))) x qs qp := (h4.below hu).grown ((hu.block q hql).trans h1) (by decide) (by decide) (by decide) (grown_set q 1 _)
  refine ⟨by rw [cell_of_row _ q 0 _ _ (0, 0) k1]; rfl, kg, kl, fun b hb => Below.heap_setCell _ _ _ _ hb, by simp, fun u2 hu2 b k hb kb f ps p cs c => ?_⟩
  have hsz := hu.size
  have hs1 : (u.setCell ⟨q, 1, none⟩ (.int .i64 ((n : Int) + 1))).heap.size = u.heap.size := by simp
  have g1 := set11_grown u2 b f ps p cs c
  have bW : Below B w (set11 u2 b f ps p cs c) := set11_below ((((hu.mono hB).setCell (p := ⟨q, 1, none⟩) h0 _)).trans (hu2.mono (by rw [hs1]; omega))) (by omega) f ps p cs c
  refine .of hh hB ⟨h0, hF, some ⟨g, 0, none⟩, ?_, g, qs, qp, ds, d, rfl, ?_, ?_⟩ bW.size (fun z hz hzl => ?_) bW
  · rw [show ((n + 1 : Nat) : Int) = (n : Int) + 1 by omega]
    exact (set11_off f ps p cs c (by omega)).trans ((hu2.block q (lt_of_heap k1)).trans k1)
  · exact (set11_off f ps p cs c (by omega)).trans ((hu2.block g (lt_of_heap kg)).trans kg)
  · exact (kl.below hu2).grown kb (by decide) (by decide) (by decide) g1
  · exact (set11_off f ps p cs c (by omega)).trans ((hu2.block z (by rw [hs1]; omega)).trans ((Below.heap_setCell _ _ _ _ hz).trans (hu.block z hzl)))
set_option maxRecDepth 100000 in
set_option maxHeartbeats 1000000 in
theorem pheld_any (h : Pr F B w q r) (hB : B ≤ w.heap.size) (hn : r.sent ≤ 1000) :
    Calls Try.prog 10 #[.pointer (some ⟨q, 0, none⟩)] w fun e w' => ∃ ps p cs c, e = .returned (.tuple #[frameVal (heldF r) ps p cs c, .bool (isHeld r)]) ∧ Told F w' (heldF r) ps p ∧ Moved Pr F B w q (sends r) w' := by
  have HB := Lib.hid (lay w (.cells (cells11 noFr none none 0 0) 41))
  have HZ := Lib.hid (heap_alloc_new w (.cells (cells11 noFr none none 0 0) 41))
  have HS := Lib.hid (fun u (hu : Below w.heap.size w u) => Moved.same h hB hu)
  have HE := Lib.hid (fun u (hu : Below w.heap.size w u) => pempty_any (h.below hu))
  cases hr : r.held with
  | none =>
    have e1 : isHeld r = false := by simp [isHeld, hr]
    have e2 : sends r = r := by simp [sends, e1]
    have e3 : heldF r = noFr := by simp [heldF, hr]
    rw [e1, e2, e3]
    simp only [e1, Bool.not_false] at HE
    obtain ⟨b0, b1, b2, b3, b4, b5, b6, b7, b8, b9, b10⟩ := box11 HZ.out
    simp only [noFr, cells11, List.length_nil] at *
    clear h hr e1 e2 e3
    go_enter Try.func10, Try.ntmps10
    go_wp2_with (first | (go_at_call 21; (with_reducible refine (HE.out _ HB.out).mono ?_); rintro e u1 ⟨rfl, rfl⟩))
    refine bodyPost_ret (v := .tuple #[frameVal noFr none none 0 0, .bool false]) (by simp [results, Try.results10, go_sem, frameVal, noFr, b0, b1, b2, b3, b4, b5, b6, b7, b8, b9, b10]) rfl ⟨none, none, 0, 0, rfl, fun u _ _ => lying_none u none none, HS.out _ HB.out⟩
  | some x =>
    have e1 : isHeld r = true := by simp [isHeld, hr]
    have e2 : sends r = ⟨r.held, r.sent + 1⟩ := by simp [sends, e1]
    have e3 : heldF r = x := by simp [heldF, hr]
    rw [e1, e2, e3]
    simp only [e1, Bool.not_true] at HE
    have HA := Lib.hid (fun u (hu : Below w.heap.size w u) => by
      obtain ⟨y, -, -, k1, -, f1⟩ := (h.below hu).cell
      exact aadd u q 1 (r.sent : Int) k1 f1 ⟨by omega, by omega⟩)
    obtain ⟨g, qs, qp, ds, d, hm⟩ := held_mid h hB hr
    have HM := Lib.hid hm
    have hql := h.lt
    have ne1 : ¬ (q = w.heap.size) := by omega
    have ne2 : ¬ (w.heap.size = q) := by omega
    generalize hN : (⟨r.held, r.sent + 1⟩ : Rl) = N at *
    generalize (r.sent : Int) + 1 = v at *
    clear h hr e1 e2 e3 hB hn HS hm hql hN
    obtain ⟨kd, sr, dst, ge, ho, bi, tk⟩ := x
    simp only [cells11, frameVal, noFr, List.length_nil] at *
    go_enter Try.func10, Try.ntmps10
    go_wp2_with (first
      | (go_at_call 21; (with_reducible refine (HE.out _ HB.out).mono ?_); rintro e u0 ⟨rfl, rfl⟩)
      | (go_at_call 22; (with_reducible refine (HA.out _ HB.out).mono ?_); rintro e u1 ⟨rfl, hu1⟩; obtain ⟨m0, m1, m2, m3, m4, m5⟩ := HM.out _ HB.out u1 hu1; have kz := (m3 _ ne2).trans HZ.out; obtain ⟨y0, y1, y2, y3, y4, y5, y6, y7, y8, y9, y10⟩ := box11 (f := ⟨kd, sr, dst, ge, ho, bi, tk⟩) m1; have HCP := Lib.hid (pcopied_any ⟨kd, sr, dst, ge, ho, bi, tk⟩ qs qp ds d u1 m2.fits m2.lying); have KZ := Lib.hid kz; have M5 := Lib.hid m5; simp only [frameVal] at y0 y1 y2 y3 y4 y5 y6 y7 y8 y9 y10 HCP; clear hu1 m1 m2 m3 m4 m5 kz HM HA)
      | (go_at_call 23; (with_reducible refine HCP.out.mono ?_); rintro e u2 ⟨ps2, p2, cs2, c2, rfl, hly, hb2⟩; have kz := (hb2.block _ (lt_of_heap KZ.out)).trans KZ.out; obtain ⟨b0, b1, b2, b3, b4, b5, b6, b7, b8, b9, b10⟩ := box11 (f := noFr) kz; have f0 := fun o => frozen_of (o := o) kz; have HR1 := Lib.hid (box11 (set11_block kz ⟨kd, sr, dst, ge, ho, bi, tk⟩ ps2 p2 cs2 c2)); have HL2 := Lib.hid (hly.grown kz (by decide) (by decide) (by decide) (set11_grown u2 w.heap.size ⟨kd, sr, dst, ge, ho, bi, tk⟩ ps2 p2 cs2 c2)); have HM2 := Lib.hid (M5.out u2 hb2 w.heap.size _ (Nat.le_refl _) kz ⟨kd, sr, dst, ge, ho, bi, tk⟩ ps2 p2 cs2 c2); simp only [noFr, List.length_nil] at b0 b1 b2 b3 b4 b5 b6 b7 b8 b9 b10; clear hly hb2 kz HCP M5 KZ))
    change bodyPost _ _ _ _ _ (set11 u2 w.heap.size ⟨kd, sr, dst, ge, ho, bi, tk⟩ ps2 p2 cs2 c2)
    obtain ⟨e0, e1, e2, e3, e4, e5, e6, e7, e8, e9, e10⟩ := HR1.out
    have HL3 := HL2.out
    have HM3 := HM2.out
    generalize set11 u2 w.heap.size ⟨kd, sr, dst, ge, ho, bi, tk⟩ ps2 p2 cs2 c2 = W at *
    refine bodyPost_ret (v := .tuple #[frameVal ⟨kd, sr, dst, ge, ho, bi, tk⟩ ps2 p2 cs2 c2, .bool true]) (by simp [results, Try.results10, go_sem, frameVal, e0, e1, e2, e3, e4, e5, e6, e7, e8, e9, e10]) rfl ⟨ps2, p2, cs2, c2, rfl, fun u k _ => (HL3.kept k).lying, HM3⟩
end
end Go.Proofs.Ytkdjhphakopfeaa.Relay
