/-
  LedgerPlays returns true, whatever the program's ledger is, if its calls do what is asked of them: of tables and configurations that may be, and at most 60 acts.
-/
import Derived.Test.YtcnnepmhdccipaaLedgerAlive
import Derived.Test.YtcnnepmhdccipaaMgI
namespace Go.Proofs.Ytcnnepmhdccipaa.Ledger
open Go.RowKit
open _root_.Go.Proofs.Ytcnnepmhdccipaa.Frame (Rw Tb noRow LeasesAt cell_on tableOk Asked sameTable)
open _root_.Go.Proofs.Ytcnnepmhdccipaa.Codec (lt_of_heap frozen_of heap_set)

/-- A slice of acts. -/
def ActAt (w : World) (b o : Nat) (a : Ac) : Prop := w.cell? ⟨b, o, none⟩ = some (.int .u8 a.kind) ∧ w.cell? ⟨b, o + 1, none⟩ = some (.int .i64 a.key) ∧ w.cell? ⟨b, o + 2, none⟩ = some (.int .i64 a.now) ∧ w.cell? ⟨b, o + 3, none⟩ = some (.int .i64 a.node) ∧ w.cell? ⟨b, o + 4, none⟩ = some (.int .i64 a.n)
def ActsAt (w : World) (p : Option Addr) (l : List Ac) : Prop := l = [] ∨ ∃ b o, p = some ⟨b, o, none⟩ ∧ ∀ j, j < l.length → ActAt w b (o + j * 5) (l.getD j noAc)
theorem ActAt.below {w w' : World} {b o : Nat} {a : Ac} (h : ActAt w b o a) (hb : Below w.heap.size w w') : ActAt w' b o a := ⟨cell_on h.1 hb, cell_on h.2.1 hb, cell_on h.2.2.1 hb, cell_on h.2.2.2.1 hb, cell_on h.2.2.2.2 hb⟩
theorem acts_below {w w' : World} {p : Option Addr} {l : List Ac} (h : ActsAt w p l) (hb : Below w.heap.size w w') : ActsAt w' p l := by
  rcases h with h | ⟨b, o, e, hc⟩
  · exact .inl h
  · exact .inr ⟨b, o, e, fun j hj => (hc j hj).below hb⟩
theorem acts_some {w : World} {p : Option Addr} {l : List Ac} (h : ActsAt w p l) {j : Nat} (hj : j < l.length) : ∃ b o, p = some ⟨b, o, none⟩ ∧ ActAt w b (o + j * 5) (l.getD j noAc) := by
  rcases h with h | ⟨b, o, e, hc⟩
  · rw [h] at hj; simp at hj
  · exact ⟨b, o, e, hc j hj⟩

/-- A table's box is turned. -/
theorem Mem.turn {w u : World} {bs : List (Nat × Array Value × TypeId)} {rs : List (Option Addr × List Rw)} {ls : List (Option Addr × List (Int × Int))} (h : Mem w bs rs ls u) {b g m kk n : Nat} {y : Int} {q p : Option Addr} {vs : Array Value} {T : TypeId} {l : List Rw} (i j k : Nat)
    (ht : bs[i]? = some (b, #[.int .i64 y, .slice q m kk], 24)) (hc : bs[j]? = some (g, vs, T)) (hne : g ≠ b) (hr : rs[k]? = some (p, l)) (hb : w.heap.size ≤ b) (start : Int) (c : Nat) (_ : l.length = n) :
    Mem w [(g, vs, T), (b, #[.int .i64 start, .slice p n c], 24)] [(p, l)] [] ((u.setCell ⟨b, 0, none⟩ (.int .i64 start)).setCell ⟨b, 1, none⟩ (.slice p n c)) := by
  have h1 := h.boxes _ _ _ _ ht
  have h2 : (u.setCell ⟨b, 0, none⟩ (.int .i64 start)).heap[b]? = some (.cells #[.int .i64 start, .slice q m kk] 24 (0, 0)) := by rw [heap_set _ 0 _ _ h1]; rfl
  have h3 : ((u.setCell ⟨b, 0, none⟩ (.int .i64 start)).setCell ⟨b, 1, none⟩ (.slice p n c)).heap[b]? = some (.cells #[.int .i64 start, .slice p n c] 24 (0, 0)) := by rw [heap_set _ 1 _ _ h2]; rfl
  have h4 : ((u.setCell ⟨b, 0, none⟩ (.int .i64 start)).setCell ⟨b, 1, none⟩ (.slice p n c)).heap[g]? = some (.cells vs T (0, 0)) := ((Below.heap_setCell _ _ _ _ hne).trans (Below.heap_setCell _ _ _ _ hne)).trans (h.boxes _ _ _ _ hc)
  exact (((Mem.mk (fun i g vs T e => by simp at e) (fun i p l e => by simp at e) (fun i p l e => by simp at e) ((h.below.setCell hb _).setCell hb _)).addBox h3).addBox h4).addRows (rows_tab h2 (rows_tab h1 (h.rows _ _ _ hr)))
/-- The helpers of the round. -/
theorem inv_act {I : Nat → Tb → Prop} (inv : Inv I) {n : Nat} {t : Tb} (h : I n t) (f : Cf) {a : Ac} (ha : AcNum a) (hk : f.keys ≤ 16) : I (n + 1) (actOf f t a).1 := by
  unfold actOf
  split
  · exact inv.mint f h ha.2.1 ha.2.2.1 hk
  · split
    · exact inv.settle _ _ h ha.2.1
    · exact inv.grant _ _ h ha.2.1
theorem held_ints {P : Program} {F : Nat} {args : Array Value} {u : World} {l : List Int} (h : Calls P F args u (TellsInts u l)) : Calls P F args u fun e w' => ∃ p c, e = .returned (.slice p l.length c) ∧ Codec.Ints w' p l ∧ Below u.heap.size u w' := by
  refine h.mono ?_
  rintro e w' ⟨p, c, rfl, h1, h2⟩
  refine ⟨p, c, rfl, ?_, h2⟩
  by_cases hl : l = []
  · exact .inl hl
  · obtain ⟨b, o, e, -⟩ := h1 0 (List.length_pos_iff.2 hl)
    refine .inr ⟨b, o, e, fun j hj => ?_⟩
    obtain ⟨b', o', e', hc⟩ := h1 j hj
    rw [e] at e'
    simp only [Option.some.injEq, Addr.mk.injEq, and_true] at e'
    obtain ⟨rfl, rfl⟩ := e'
    exact hc
theorem held_len (t : Tb) (node : Int) : (held t node).length ≤ t.rows.length := by
  have := heldOf_len node t.rows t.rows.length
  rwa [List.take_length] at this
theorem same_ints (l : List Int) : Frame.sameInts l l = true := by
  unfold Frame.sameInts
  rw [beq_self_eq_true, Bool.true_and]
  exact Frame.allTo_true fun j _ => by simp
theorem sameints_any (l : List Int) (p q : Option Addr) (c d : Nat) (w : World) (hn : l.length ≤ 1000) (h1 : Codec.Ints w p l) (h2 : Codec.Ints w q l) : Calls Try.prog 16 #[.slice p l.length c, .slice q l.length d] w (Asked w true) := by
  have h := Frame.ints_any l l p q c d w (by omega) h1 h2
  rwa [same_ints] at h
theorem sametab_any (t : Tb) (p q : Option Addr) (c d : Nat) (w : World) (hn : t.rows.length ≤ 1000) (ho : ∀ r ∈ t.rows, r.out.length ≤ 1000) (h1 : RowsAt w p t.rows) (h2 : RowsAt w q t.rows) : Calls Try.prog 10 #[tabVal t p c, tabVal t q d] w (Asked w true) := by
  have h := Frame.sametable_any t t p q (c + t.rows.length) (d + t.rows.length) w (by omega) h1.frame h2.frame (fun r hr => by have := ho r hr; omega)
  rwa [same_table] at h
theorem find_here (t : Tb) (p : Option Addr) (c : Nat) (key : Int) (w : World) (h : RowsAt w p t.rows) (hl : t.rows.length ≤ 1000) : Calls Try.prog 12 #[tabVal t p c, .int .i64 key] w fun e w' => ∃ p c, e = .returned (.tuple #[.agg #[.int .i64 (findRow t key).key, .int .i64 (findRow t key).avail, .int .i64 (findRow t key).mark, .slice p (findRow t key).out.length (c + (findRow t key).out.length)], .bool (findIs t key)]) ∧ LeasesAt w' p (findRow t key).out ∧ Below w.heap.size w w' :=
  (find_any t p c key w w h (Below.refl _ _) hl).mono fun _ _ ⟨p, c, h1, h2, h3⟩ => ⟨p, c, h1, h2.below h3, h3⟩
theorem look_here (t : Tb) (p : Option Addr) (c : Nat) (key now R B : Int) (w : World) (h : RowsAt w p t.rows) (hl : t.rows.length ≤ 1000) (ho : ∀ r ∈ t.rows, r.out.length ≤ 1000) : Calls Try.prog 15 #[tabVal t p c, .int .i64 key, .int .i64 now, .agg #[.int .i64 R, .int .i64 B]] w fun e w' => ∃ p c, e = .returned (.agg #[.int .i64 (look t key now R B).key, .int .i64 (look t key now R B).avail, .int .i64 (look t key now R B).mark, .slice p (look t key now R B).out.length (c + (look t key now R B).out.length)]) ∧ LeasesAt w' p (look t key now R B).out ∧ Below w.heap.size w w' :=
  (look_any t p c key now R B w w h (Below.refl _ _) hl ho).mono fun _ _ ⟨p, c, h1, h2, h3⟩ => ⟨p, c, h1, h2.below h3, h3⟩

set_option maxRecDepth 100000 in
set_option maxHeartbeats 8000000 in
theorem plays_few {I : Nat → Tb → Prop} (inv : Inv I) (P : Way9 I) (t : Tb) (p : Option Addr) (c : Nat) (f : Cf) (pf : Option Addr) (cf : Nat) (l : List Ac) (pl : Option Addr) (cl : Nat) (W : World)
    (hfit : ∀ u, Below W.heap.size W u → Calls Try.prog 6 #[tabVal t p c, cfVal f pf cf] u (Asked u true))
    (ht : I 0 t) (hk : f.keys ≤ 16) (hr0 : 0 < f.rates.length) (hr1 : f.rates.length ≤ 60) (hrn : Num (f.rates.getD 0 (0, 0)).1 ∧ Num (f.rates.getD 0 (0, 0)).2) (hl : (l.length : Int) ≤ 60) (hln : ∀ a ∈ l, AcNum a)
    (hr : RowsAt W p t.rows) (hz : RatesAt W pf f.rates) (ha : ActsAt W pl l) :
    Calls Try.prog 3 #[tabVal t p c, cfVal f pf cf, .slice pl l.length cl] W (Asked W true) := by
  have hal := alive_way inv P
  obtain ⟨n, sk, tl, va, lo, he, ke, qu, rates⟩ := f
  simp only at hk hr0 hr1 hrn hz
  have M0 := Lib.hid (((Mem.start W).box #[.int .i64 t.start, .slice p t.rows.length (c + t.rows.length)] 24).box #[.int .i64 n, .int .i64 sk, .int .i64 tl, .int .i64 va, .int .i64 lo, .int .i64 he, .int .i64 ke, .int .i64 qu, .slice pf rates.length cf] 27 |>.addRows (hr.below (((Mem.start W).box #[.int .i64 t.start, .slice p t.rows.length (c + t.rows.length)] 24).box #[.int .i64 n, .int .i64 sk, .int .i64 tl, .int .i64 va, .int .i64 lo, .int .i64 he, .int .i64 ke, .int .i64 qu, .slice pf rates.length cf] 27).below))
  simp only [size_alloc] at M0
  have hf1 := hfit _ M0.out.below
  simp only [tabVal, cfVal] at hf1 ⊢
  have HT := Lib.hid ht
  have HLN := Lib.hid hln
  have HZ := Lib.hid hz
  have HA := Lib.hid ha
  clear hfit ht hln hr ha hz
  go_enter Try.func3, Try.ntmps3
  go_wp2_with (go_at_call 6; (with_reducible refine hf1.mono ?_); rintro e u1 ⟨rfl, hb⟩; have M1 := Lib.hid (M0.out.on hb); clear hf1 hb M0)
  go_loopw [8, 9, 10, 11, 12, 13, 14, 15, 16, 17, 18, 19, 20, 21, 22, 23, 24] (fun i _ _ _ _ _ _ _ _ _ _ _ _ _ _ _ _ wr => ∃ (j : Nat) (T : Tb) (pT : Option Addr) (cT : Nat), j ≤ l.length ∧ i = .int .i64 (j : Int) ∧ Hid (I j T) ∧ Hid (Mem W [(W.heap.size + 1, #[.int .i64 n, .int .i64 sk, .int .i64 tl, .int .i64 va, .int .i64 lo, .int .i64 he, .int .i64 ke, .int .i64 qu, .slice pf rates.length cf], 27), (W.heap.size, #[.int .i64 T.start, .slice pT T.rows.length (cT + T.rows.length)], 24)] [(pT, T.rows)] [] wr)) (fun i _ _ _ _ _ _ _ _ _ _ _ _ _ _ _ _ _ => l.length - (intOf i).toNat)
  case atStart => exact ⟨0, t, p, c, by omega, rfl, HT, M1⟩
  case round =>
    obtain ⟨j, T, pT, cT, hj, rfl, hI, hM⟩ := hrel
    clear M1 HT
    by_cases hlt : j < l.length
    · obtain ⟨ab, ao, rfl, hac⟩ := acts_some HA.out hlt
      have hlt' : (j : Int) < (l.length : Int) := by omega
      have haN := HLN.out _ (show l.getD j noAc ∈ l by simp [List.getD, hlt])
      generalize l.getD j noAc = a at *
      have hAc := hac.below hM.out.below
      have hj61 : j ≤ 61 := by omega
      have hj61' : j + 1 ≤ 61 := by omega
      have hYI := inv_act inv hI.out ⟨n, sk, tl, va, lo, he, ke, qu, rates⟩ haN hk
      have hB := inv.base hI.out
      have hYB := inv.base hYI
      obtain ⟨hyl, hyo⟩ := base_len hYB hj61'
      have hstep : ∀ (u : World), RowsAt u pT T.rows → RatesAt u pf rates → _ := fun u h1 h2 => open_tab (step_way inv P hI.out hj61 a haN ⟨n, sk, tl, va, lo, he, ke, qu, rates⟩ hr1 pT cT pf cf u h1 h2)
      have hwant : ∀ (u : World), RowsAt u pT T.rows → RatesAt u pf rates → _ := fun u h1 h2 => open_tab (want_base hB hj61 a haN ⟨n, sk, tl, va, lo, he, ke, qu, rates⟩ pT cT pf cf u h1 h2)
      obtain ⟨-, hkey, hnow, hnode, hnn⟩ := haN
      have hfind1 := fun (u : World) p c h => open_row (P.find p c a.key u hYI hj61' hkey h)
      have hlook1 := fun (u : World) p c h => open_row ((P.look p c a.key a.now (rates.getD 0 (0, 0)).1 (rates.getD 0 (0, 0)).2 u u hYI hj61' hkey hnow hrn.1 hrn.2 h (Below.refl _ _)).mono fun _ _ h => h.near)
      have hheld1 := fun (u : World) p c h => held_ints (P.held p c a.node u hYI hj61' hnode h)
      have hFB := base_find hYB hkey
      have hLB := base_look hYB hkey hnow (rates.getD 0 (0, 0)).1 (rates.getD 0 (0, 0)).2
      have htot1 := fun (u : World) p c h => P.total (findRow (actOf ⟨n, sk, tl, va, lo, he, ke, qu, rates⟩ T a).1 a.key) p c u (hFB.more (by omega)) h
      have hflen := hFB.len
      have hllen := hLB.len
      generalize actOf ⟨n, sk, tl, va, lo, he, ke, qu, rates⟩ T a = YN at *
      obtain ⟨Y, N⟩ := YN
      simp only at *
      have hone := fun (u : World) p c p' c' h1 h2 => sametab_any Y p p' c c' u hyl hyo h1 h2
      have hfind2 := fun (u : World) p c h => find_here Y p c a.key u h hyl
      have hlook2 := fun (u : World) p c h => look_here Y p c a.key a.now (rates.getD 0 (0, 0)).1 (rates.getD 0 (0, 0)).2 u h hyl hyo
      have hheld2 := fun (u : World) p c h => held_ints (held_any Y p c a.node u h hyl hyo)
      have hrow1 := fun (u : World) p c p' c' h1 h2 => samerow_any (findRow Y a.key) p p' c c' u (by omega) h1 h2
      have hrow2 := fun (u : World) p c p' c' h1 h2 => samerow_any (look Y a.key a.now (rates.getD 0 (0, 0)).1 (rates.getD 0 (0, 0)).2) p p' c c' u (by omega) h1 h2
      have htot2 := fun (u : World) p c h => total_any (findRow Y a.key) p c u h (by omega)
      have hhl := held_len Y a.node
      have hsame := fun (u : World) p c p' c' h1 h2 => sameints_any (held Y a.node) p p' c c' u (by omega) h1 h2
      obtain ⟨zb, zo, hpf, z0, z1⟩ := leases_some HZ.out hr0
      simp only [Nat.zero_mul, Nat.add_zero] at z0 z1
      subst hpf
      have HR0 := Lib.hid (show ∀ u, Below W.heap.size W u → u.cell? ⟨zb, zo, none⟩ = some (.int .i64 (rates.getD 0 (0, 0)).1) ∧ u.cell? ⟨zb, zo + 1, none⟩ = some (.int .i64 (rates.getD 0 (0, 0)).2) from fun u hu => ⟨cell_on z0 hu, cell_on z1 hu⟩)
      generalize (rates.getD 0 (0, 0)).1 = R at *
      generalize (rates.getD 0 (0, 0)).2 = B at *
      generalize findRow Y a.key = F at *
      generalize findIs Y a.key = fi at *
      generalize look Y a.key a.now R B = L at *
      generalize held Y a.node = H at *
      generalize total F = tt at *
      have HYI := Lib.hid hYI
      clear inv P hYI hB hYB hFB hLB hkey hnow hnode hnn hac hI hyo hyl z0 z1 hrn hflen hllen
      obtain ⟨kind, key, now, node, nn⟩ := a
      obtain ⟨a0, a1, a2, a3, a4⟩ := hAc
      obtain ⟨ts, tr⟩ := T
      obtain ⟨ys, yr⟩ := Y
      obtain ⟨fk, fa, fm, fo⟩ := F
      obtain ⟨lk, la, lm, lo'⟩ := L
      simp only [tabVal, acVal, cfVal, rowVal, id_eq] at *
      have HZ0 := Lib.hid (show (0 : Int) < (rates.length : Int) by omega)
      generalize hynn : yr.length = yn at *
      generalize tr.length = tn at *
      generalize fo.length = fn at *
      generalize lo'.length = ln at *
      generalize H.length = hn at *
      have hz0 := HZ0.out
      generalize rates.length = nz at *
      have HYN := Lib.hid hynn
      clear hynn HZ0
      have M2 := Lib.hid (hM.out.box #[.int .u8 kind, .int .i64 key, .int .i64 now, .int .i64 node, .int .i64 nn] 32)
      have q0 := a0
      have q1 := a1
      have q2 := a2
      have q3 := a3
      have q4 := a4
      clear a0 a1 a2 a3 a4
      obtain ⟨t0, t1, -⟩ := box2 (M2.out.boxes 2 _ _ _ rfl)
      obtain ⟨a0, a1, a2, a3, a4⟩ := box5 (M2.out.boxes 0 _ _ _ rfl)
      obtain ⟨c0, c1, c2, c3, c4, c5, c6, c7, c8⟩ := nine_cells (M2.out.boxes 1 _ _ _ rfl)
      go_wp2_with (first
        | (go_at_call 8; (with_reducible refine (hstep _ (M2.out.rows 0 _ _ rfl) (HZ.out.below M2.out.below)).mono ?_); rintro e u2 ⟨px, cx, rfl, hr2, hb2⟩; have M3 := Lib.hid (((M2.out.on hb2).addRows hr2).box #[.int .i64 ys, .slice px yn (cx + yn)] 24); clear hr2 hb2 M2 t0 t1 a0 a1 a2 a3 a4 c0 c1 c2 c3 c4 c5 c6 c7 c8; obtain ⟨t0, t1, -⟩ := box2 (M3.out.boxes 3 _ _ _ rfl); obtain ⟨a0, a1, a2, a3, a4⟩ := box5 (M3.out.boxes 1 _ _ _ rfl); obtain ⟨c0, c1, c2, c3, c4, c5, c6, c7, c8⟩ := nine_cells (M3.out.boxes 2 _ _ _ rfl))
        | (go_at_call 8; (with_reducible refine (hstep _ (M3.out.rows 1 _ _ rfl) (HZ.out.below M3.out.below)).mono ?_); rintro e u3 ⟨pg, cg, rfl, hr3, hb3⟩; have M4 := Lib.hid (((M3.out.on hb3).addRows hr3).box #[.int .i64 ys, .slice pg yn (cg + yn)] 24); clear hr3 hb3 M3 t0 t1 a0 a1 a2 a3 a4 c0 c1 c2 c3 c4 c5 c6 c7 c8 hstep; obtain ⟨t0, t1, -⟩ := box2 (M4.out.boxes 4 _ _ _ rfl); obtain ⟨a0, a1, a2, a3, a4⟩ := box5 (M4.out.boxes 2 _ _ _ rfl); obtain ⟨c0, c1, c2, c3, c4, c5, c6, c7, c8⟩ := nine_cells (M4.out.boxes 3 _ _ _ rfl))
        | (go_at_call 9; (with_reducible refine (hwant _ (M4.out.rows 2 _ _ rfl) (HZ.out.below M4.out.below)).mono ?_); rintro e u4 ⟨py, cy, rfl, hr4, hb4⟩; have M5 := Lib.hid (((M4.out.on hb4).addRows hr4).box #[.int .i64 ys, .slice py yn (cy + yn)] 24); clear hr4 hb4 M4 t0 t1 a0 a1 a2 a3 a4 c0 c1 c2 c3 c4 c5 c6 c7 c8 hwant; obtain ⟨y0, y1, -⟩ := box2 (M5.out.boxes 0 _ _ _ rfl); obtain ⟨g0, g1, -⟩ := box2 (M5.out.boxes 1 _ _ _ rfl); obtain ⟨x0, x1, -⟩ := box2 (M5.out.boxes 2 _ _ _ rfl))
        | (go_at_call 10; (with_reducible refine (hone _ _ _ _ _ (M5.out.rows 2 _ _ rfl) (M5.out.rows 0 _ _ rfl)).mono ?_); rintro e u5 ⟨rfl, hb5⟩; have M6 := Lib.hid (M5.out.on hb5); clear hb5 M5 y0 y1 g0 g1 x0 x1; obtain ⟨y0, y1, -⟩ := box2 (M6.out.boxes 0 _ _ _ rfl); obtain ⟨g0, g1, -⟩ := box2 (M6.out.boxes 1 _ _ _ rfl); obtain ⟨x0, x1, -⟩ := box2 (M6.out.boxes 2 _ _ _ rfl); obtain ⟨a0, a1, a2, a3, a4⟩ := box5 (M6.out.boxes 3 _ _ _ rfl))
        | (go_at_call 10; (with_reducible refine (hone _ _ _ _ _ (M6.out.rows 1 _ _ rfl) (M6.out.rows 0 _ _ rfl)).mono ?_); rintro e u6 ⟨rfl, hb6⟩; have M7 := Lib.hid (M6.out.on hb6); clear hb6 M6 y0 y1 g0 g1 x0 x1 a0 a1 a2 a3 a4 hone; obtain ⟨y0, y1, -⟩ := box2 (M7.out.boxes 0 _ _ _ rfl); obtain ⟨x0, x1, -⟩ := box2 (M7.out.boxes 2 _ _ _ rfl); obtain ⟨a0, a1, a2, a3, a4⟩ := box5 (M7.out.boxes 3 _ _ _ rfl))
        | (go_at_call 11; (with_reducible refine (hfind1 _ _ _ (M7.out.rows 2 _ _ rfl)).mono ?_); rintro e u7 ⟨pr, cr, rfl, hl7, hb7⟩; have M8 := Lib.hid (((M7.out.on hb7).addLeases hl7).box #[.int .i64 fk, .int .i64 fa, .int .i64 fm, .slice pr fn (cr + fn)] 38); clear hl7 hb7 M7 y0 y1 x0 x1 a0 a1 a2 a3 a4 hfind1; obtain ⟨y0, y1, -⟩ := box2 (M8.out.boxes 1 _ _ _ rfl); obtain ⟨x0, x1, -⟩ := box2 (M8.out.boxes 3 _ _ _ rfl); obtain ⟨a0, a1, a2, a3, a4⟩ := box5 (M8.out.boxes 4 _ _ _ rfl))
        | (go_at_call 12; (with_reducible refine (hfind2 _ _ _ (M8.out.rows 0 _ _ rfl)).mono ?_); rintro e u8 ⟨ps, cs, rfl, hl8, hb8⟩; have M9 := Lib.hid (((M8.out.on hb8).addLeases hl8).box #[.int .i64 fk, .int .i64 fa, .int .i64 fm, .slice ps fn (cs + fn)] 38); clear hl8 hb8 M8 y0 y1 x0 x1 a0 a1 a2 a3 a4 hfind2; obtain ⟨s0, s1, s2, s3, -⟩ := box4 (M9.out.boxes 0 _ _ _ rfl); obtain ⟨r0, r1, r2, r3, -⟩ := box4 (M9.out.boxes 1 _ _ _ rfl))
        | (go_at_call 13; (with_reducible refine (hrow1 _ _ _ _ _ (M9.out.leases 1 _ _ rfl) (M9.out.leases 0 _ _ rfl)).mono ?_); rintro e u9 ⟨rfl, hb9⟩; have M10 := Lib.hid (M9.out.on hb9); clear hb9 M9 s0 s1 s2 s3 r0 r1 r2 r3 hrow1; obtain ⟨y0, y1, -⟩ := box2 (M10.out.boxes 2 _ _ _ rfl); obtain ⟨x0, x1, -⟩ := box2 (M10.out.boxes 4 _ _ _ rfl); obtain ⟨a0, a1, a2, a3, a4⟩ := box5 (M10.out.boxes 5 _ _ _ rfl); obtain ⟨c0, c1, c2, c3, c4, c5, c6, c7, c8⟩ := nine_cells (M10.out.boxes 6 _ _ _ rfl); obtain ⟨k0, k1⟩ := HR0.out _ M10.out.below))
      have MD := Lib.hid M10.out.drew
      go_region_held3 (fun u => u.cell? ⟨u2.heap.size, 0, none⟩ = some (.int .i64 ys) ∧ u.cell? ⟨u2.heap.size, 1, none⟩ = some (.slice px yn (cx + yn)) ∧ u.cell? ⟨wr.heap.size, 1, none⟩ = some (.int .i64 key) ∧ u.cell? ⟨wr.heap.size, 2, none⟩ = some (.int .i64 now) ∧ u.cell? ⟨W.heap.size + 1, 8, none⟩ = some (.slice (some ⟨zb, zo, none⟩) nz cf) ∧ u.cell? ⟨zb, zo, none⟩ = some (.int .i64 R) ∧ u.cell? ⟨zb, zo + 1, none⟩ = some (.int .i64 B) ∧ u.cell? ⟨u4.heap.size, 0, none⟩ = some (.int .i64 ys) ∧ u.cell? ⟨u4.heap.size, 1, none⟩ = some (.slice py yn (cy + yn))) (first | assumption | exact SL.out | exact ⟨x0, x1, a1, a2, c8, k0, k1, y0, y1⟩) (first
        | (go_at_call 14; (with_reducible refine (hlook1 _ _ _ (MD.out.rows 2 _ _ rfl)).mono ?_); rintro e u10 ⟨p1, k1', rfl, hl, hb⟩; have M11 := Lib.hid ((MD.out.on hb).addLeases hl); have SL := Lib.hid (And.intro (box2 (M11.out.boxes 4 _ _ _ rfl)).1 (And.intro (box2 (M11.out.boxes 4 _ _ _ rfl)).2.1 (And.intro (box5 (M11.out.boxes 5 _ _ _ rfl)).2.1 (And.intro (box5 (M11.out.boxes 5 _ _ _ rfl)).2.2.1 (And.intro (nine_cells (M11.out.boxes 6 _ _ _ rfl)).2.2.2.2.2.2.2.2 (And.intro (HR0.out _ M11.out.below).1 (And.intro (HR0.out _ M11.out.below).2 (And.intro (box2 (M11.out.boxes 2 _ _ _ rfl)).1 (box2 (M11.out.boxes 2 _ _ _ rfl)).2.1)))))))); clear hl hb)
        | (go_at_call 15; (with_reducible refine (hlook2 _ _ _ (M11.out.rows 0 _ _ rfl)).mono ?_); rintro e u11 ⟨p2, k2', rfl, hl, hb⟩; have M12 := Lib.hid ((M11.out.on hb).addLeases hl); have SL := Lib.hid (And.intro (box2 (M12.out.boxes 4 _ _ _ rfl)).1 (And.intro (box2 (M12.out.boxes 4 _ _ _ rfl)).2.1 (And.intro (box5 (M12.out.boxes 5 _ _ _ rfl)).2.1 (And.intro (box5 (M12.out.boxes 5 _ _ _ rfl)).2.2.1 (And.intro (nine_cells (M12.out.boxes 6 _ _ _ rfl)).2.2.2.2.2.2.2.2 (And.intro (HR0.out _ M12.out.below).1 (And.intro (HR0.out _ M12.out.below).2 (And.intro (box2 (M12.out.boxes 2 _ _ _ rfl)).1 (box2 (M12.out.boxes 2 _ _ _ rfl)).2.1)))))))); clear hl hb)
        | (go_at_call 13; (with_reducible refine (hrow2 _ _ _ _ _ (M12.out.leases 1 _ _ rfl) (M12.out.leases 0 _ _ rfl)).mono ?_); rintro e u12 ⟨rfl, hb⟩; have M13 := Lib.hid (M12.out.on hb); have SL := Lib.hid (And.intro (box2 (M13.out.boxes 4 _ _ _ rfl)).1 (And.intro (box2 (M13.out.boxes 4 _ _ _ rfl)).2.1 (And.intro (box5 (M13.out.boxes 5 _ _ _ rfl)).2.1 (And.intro (box5 (M13.out.boxes 5 _ _ _ rfl)).2.2.1 (And.intro (nine_cells (M13.out.boxes 6 _ _ _ rfl)).2.2.2.2.2.2.2.2 (And.intro (HR0.out _ M13.out.below).1 (And.intro (HR0.out _ M13.out.below).2 (And.intro (box2 (M13.out.boxes 2 _ _ _ rfl)).1 (box2 (M13.out.boxes 2 _ _ _ rfl)).2.1)))))))); clear hb))
      all_goals
        clear x0 x1 a0 a1 a2 a3 a4 c0 c1 c2 c3 c4 c5 c6 c7 c8 k0 k1 y0 y1 MD M10
        obtain ⟨y0, y1, -⟩ := box2 (M13.out.boxes 2 _ _ _ rfl)
        obtain ⟨x0, x1, -⟩ := box2 (M13.out.boxes 4 _ _ _ rfl)
        obtain ⟨a0, a1, a2, a3, a4⟩ := box5 (M13.out.boxes 5 _ _ _ rfl)
        have ME := Lib.hid M13.out.drew
        go_wp2
        go_region_held3 (fun u => u.cell? ⟨u2.heap.size, 0, none⟩ = some (.int .i64 ys) ∧ u.cell? ⟨u2.heap.size, 1, none⟩ = some (.slice px yn (cx + yn)) ∧ u.cell? ⟨wr.heap.size, 3, none⟩ = some (.int .i64 node) ∧ u.cell? ⟨u4.heap.size, 0, none⟩ = some (.int .i64 ys) ∧ u.cell? ⟨u4.heap.size, 1, none⟩ = some (.slice py yn (cy + yn))) (first | assumption | exact SM.out | exact ⟨x0, x1, a3, y0, y1⟩) (first
          | (go_at_call 17; (with_reducible refine (hheld1 _ _ _ (ME.out.rows 2 _ _ rfl)).mono ?_); rintro e u13 ⟨p3, k3', rfl, hi3, hb⟩; have M14 := Lib.hid (ME.out.on hb); have H3 := Lib.hid hi3; have SM := Lib.hid (And.intro (box2 (M14.out.boxes 4 _ _ _ rfl)).1 (And.intro (box2 (M14.out.boxes 4 _ _ _ rfl)).2.1 (And.intro (box5 (M14.out.boxes 5 _ _ _ rfl)).2.2.2.1 (And.intro (box2 (M14.out.boxes 2 _ _ _ rfl)).1 (box2 (M14.out.boxes 2 _ _ _ rfl)).2.1)))); clear hi3 hb)
          | (go_at_call 18; (with_reducible refine (hheld2 _ _ _ (M14.out.rows 0 _ _ rfl)).mono ?_); rintro e u14 ⟨p4, k4', rfl, hi4, hb⟩; have M15 := Lib.hid (M14.out.on hb); have H4 := Lib.hid hi4; have H5 := Lib.hid (H3.out.below hb); have SM := Lib.hid (And.intro (box2 (M15.out.boxes 4 _ _ _ rfl)).1 (And.intro (box2 (M15.out.boxes 4 _ _ _ rfl)).2.1 (And.intro (box5 (M15.out.boxes 5 _ _ _ rfl)).2.2.2.1 (And.intro (box2 (M15.out.boxes 2 _ _ _ rfl)).1 (box2 (M15.out.boxes 2 _ _ _ rfl)).2.1)))); clear hi4 hb)
          | (go_at_call 16; (with_reducible refine (hsame _ _ _ _ _ H5.out H4.out).mono ?_); rintro e u15 ⟨rfl, hb⟩; have M16 := Lib.hid (M15.out.on hb); have SM := Lib.hid (And.intro (box2 (M16.out.boxes 4 _ _ _ rfl)).1 (And.intro (box2 (M16.out.boxes 4 _ _ _ rfl)).2.1 (And.intro (box5 (M16.out.boxes 5 _ _ _ rfl)).2.2.2.1 (And.intro (box2 (M16.out.boxes 2 _ _ _ rfl)).1 (box2 (M16.out.boxes 2 _ _ _ rfl)).2.1)))); clear hb))
        all_goals
          clear x0 x1 a0 a1 a2 a3 a4 y0 y1 ME M13 M14 M15 M11 M12
          obtain ⟨s0, s1, s2, s3, -⟩ := box4 (M16.out.boxes 0 _ _ _ rfl)
          obtain ⟨r0, r1, r2, r3, -⟩ := box4 (M16.out.boxes 1 _ _ _ rfl)
          obtain ⟨y0, y1, -⟩ := box2 (M16.out.boxes 2 _ _ _ rfl)
          have MF := Lib.hid M16.out.drew
          go_wp2
          go_region_held3 (fun u => u.cell? ⟨u7.heap.size, 0, none⟩ = some (.int .i64 fk) ∧ u.cell? ⟨u7.heap.size, 1, none⟩ = some (.int .i64 fa) ∧ u.cell? ⟨u7.heap.size, 2, none⟩ = some (.int .i64 fm) ∧ u.cell? ⟨u7.heap.size, 3, none⟩ = some (.slice pr fn (cr + fn)) ∧ u.cell? ⟨u8.heap.size, 0, none⟩ = some (.int .i64 fk) ∧ u.cell? ⟨u8.heap.size, 1, none⟩ = some (.int .i64 fa) ∧ u.cell? ⟨u8.heap.size, 2, none⟩ = some (.int .i64 fm) ∧ u.cell? ⟨u8.heap.size, 3, none⟩ = some (.slice ps fn (cs + fn))) (first | assumption | exact SN.out | exact ⟨r0, r1, r2, r3, s0, s1, s2, s3⟩) (first
            | (go_at_call 19; (with_reducible refine (htot1 _ _ _ (MF.out.leases 3 _ _ rfl)).mono ?_); rintro e u16 ⟨rfl, hb⟩; have M17 := Lib.hid (MF.out.on hb); have SN := Lib.hid (And.intro (box4 (M17.out.boxes 1 _ _ _ rfl)).1 (And.intro (box4 (M17.out.boxes 1 _ _ _ rfl)).2.1 (And.intro (box4 (M17.out.boxes 1 _ _ _ rfl)).2.2.1 (And.intro (box4 (M17.out.boxes 1 _ _ _ rfl)).2.2.2.1 (And.intro (box4 (M17.out.boxes 0 _ _ _ rfl)).1 (And.intro (box4 (M17.out.boxes 0 _ _ _ rfl)).2.1 (And.intro (box4 (M17.out.boxes 0 _ _ _ rfl)).2.2.1 (box4 (M17.out.boxes 0 _ _ _ rfl)).2.2.2.1))))))); clear hb)
            | (go_at_call 20; (with_reducible refine (htot2 _ _ _ (M17.out.leases 2 _ _ rfl)).mono ?_); rintro e u17 ⟨rfl, hb⟩; have M18 := Lib.hid (M17.out.on hb); have SN := Lib.hid (And.intro (box4 (M18.out.boxes 1 _ _ _ rfl)).1 (And.intro (box4 (M18.out.boxes 1 _ _ _ rfl)).2.1 (And.intro (box4 (M18.out.boxes 1 _ _ _ rfl)).2.2.1 (And.intro (box4 (M18.out.boxes 1 _ _ _ rfl)).2.2.2.1 (And.intro (box4 (M18.out.boxes 0 _ _ _ rfl)).1 (And.intro (box4 (M18.out.boxes 0 _ _ _ rfl)).2.1 (And.intro (box4 (M18.out.boxes 0 _ _ _ rfl)).2.2.1 (box4 (M18.out.boxes 0 _ _ _ rfl)).2.2.2.1))))))); clear hb))
          all_goals
            clear r0 r1 r2 r3 s0 s1 s2 s3 y0 y1
            obtain ⟨y0, y1, -⟩ := box2 (M18.out.boxes 2 _ _ _ rfl)
            obtain ⟨t0, t1, ff⟩ := box2 (M18.out.boxes 7 _ _ _ rfl)
            have f0 := ff 0
            have f1 := ff 1
            have MZ := Lib.hid (M18.out.turn (b := W.heap.size) (g := W.heap.size + 1) 7 6 0 rfl rfl (by omega) rfl (Nat.le_refl _) ys (cy + yn) HYN.out)
            clear ff
            go_wp2
            go_roundw
            case rel => exact ⟨j + 1, ⟨ys, yr⟩, py, cy, by omega, by go_num, HYI, by simp only [HYN.out]; exact MZ⟩
            case measure => simp [intOf]; omega
    · go_wp2_with (go_at_call 7; (with_reducible refine (hal _).mono ?_); rintro e u2 ⟨rfl, hb⟩)
      go_ret
      exact ⟨rfl, hM.out.below.trans (hb.mono hM.out.below.size)⟩
end Go.Proofs.Ytcnnepmhdccipaa.Ledger
