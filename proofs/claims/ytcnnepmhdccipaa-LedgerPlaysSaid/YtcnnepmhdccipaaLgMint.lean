/-
  The program's with, told by where rows lie; the program's Mint.
-/
import Derived.Test.YtcnnepmhdccipaaLgWith
import Derived.Test.YtcnnepmhdccipaaLgLook
import Derived.Test.YtcnnepmhdccipaaLgBusy
namespace Go.Proofs.Ytcnnepmhdccipaa.Ledger
open Go.RowKit
open _root_.Go.Proofs.Ytcnnepmhdccipaa.Frame (Rw Tb noRow LeasesAt cell_on)
open _root_.Go.Proofs.Ytcnnepmhdccipaa.Codec (own_below own_lower lt_of_heap frozen_of heap_set)

theorem LeasesIn.to {S S' : Nat → Prop} {w w' : World} {p : Option Addr} {l : List (Int × Int)} (h : LeasesIn S w p l) (hb : Below w.heap.size w w') (hS : ∀ b, S b → S' b) : LeasesIn S' w' p l := h.on (fun b hb _ => hS b hb) fun b _ hlt => hb.block b hlt
/-- Rows that lie where those of L0 lay in w, or are new. -/
def Near (w : World) (p : Option Addr) (L0 L : List Rw) (u : World) (q : Option Addr) : Prop := RowsAt u q L ∧ ∀ S, RowsIn S w p L0 → RowsIn (fun b => S b ∨ w.heap.size ≤ b) u q L
theorem stay_near (w : World) (p : Option Addr) (L0 L : List Rw) : Stay (Near w p L0 L) := stay_far L (fun S => RowsIn S w p L0) (fun S b => S b ∨ w.heap.size ≤ b)
theorem with_tells (w : World) (p : Option Addr) (L0 : List Rw) (m : List Rp) (pm : Option Addr) (c : Nat) (x : Rp) (u : World) (hu : Below w.heap.size w u) (hn : m.length ≤ 1000) (hm : Lay u pm (cellsR m)) (hml : ∀ y ∈ m, LeasesAt u y.2.1 y.1.out) (hfar : ∀ S, RowsIn S w p L0 → ∀ y ∈ m, LeasesIn (fun b => S b ∨ w.heap.size ≤ b) u y.2.1 y.1.out)
    (hx : LeasesAt u x.2.1 x.1.out) (hxf : ∀ S, RowsIn S w p L0 → LeasesIn (fun b => S b ∨ w.heap.size ≤ b) u x.2.1 x.1.out) (hup : Up (m.map (·.1))) :
    Calls Try.prog 58 #[.slice pm m.length (c + m.length), rpVal x] u fun e u' => ∃ p' n' c', e = .returned (.slice p' n' (c' + n')) ∧ n' = (setRows (m.map (·.1)) x.1).length ∧ Near w p L0 (setRows (m.map (·.1)) x.1) u' p' ∧ Below u.heap.size u u' := by
  refine (with_any m pm c x u hn (pair_rows hm hml) hm hup).mono ?_
  rintro e u' ⟨g, n, M, rfl, hMn, hM, hin, hg, hr, hb⟩
  refine ⟨some ⟨g, 0, none⟩, n, 0, by rw [Nat.zero_add], by rw [← hM, List.length_map, hMn], ⟨?_, fun S hS => ?_⟩, hb⟩
  · rw [← hM]
    refine pair_rows (.inr ⟨g, 0, rfl, hr⟩) fun y hy => ?_
    rcases hin y hy with rfl | hy
    · exact hx.below hb
    · exact (hml y hy).below hb
  · rw [← hM]
    refine pair_rowsin hr (.inr (Nat.le_trans hu.size hg)) fun y hy => ?_
    rcases hin y hy with rfl | hy
    · exact (hxf S hS).to hb fun b h => h
    · exact (hfar S hS y hy).to hb fun b h => h

/-- Where a table's box is set. -/
theorem cell_set2 {u : World} {b o g : Nat} {v0 v1 z : Value} (hne : b ≠ g) (h : u.cell? ⟨b, o, none⟩ = some z) : ((u.setCell ⟨g, 0, none⟩ v0).setCell ⟨g, 1, none⟩ v1).cell? ⟨b, o, none⟩ = some z := by
  rw [World.cell?_setCell_other _ _ _ _ (by intro e; simp only [Addr.mk.injEq] at e; exact hne e.1.symm), World.cell?_setCell_other _ _ _ _ (by intro e; simp only [Addr.mk.injEq] at e; exact hne e.1.symm)]
  exact h
set_option maxRecDepth 100000 in
set_option maxHeartbeats 4000000 in
theorem pmint_core (start key now : Int) (p : Option Addr) (nm c : Nat) (n sk tl va lo he ke qu : Int) (pf : Option Addr) (nz cf : Nat) (w : World) (R B : Int) (q : Bool) (rk ra rm : Int) (px : Option Addr) (nx cx : Nat) (at_ : Nat) (X : World → Option Addr → Prop) (hX : Stay X) (NT ns : Nat) (er : Int) (hnm : nm ≤ 1000) (hns : ns ≤ 1000)
    (hrate : ∀ u, Below w.heap.size w u → Calls Try.prog 56 #[.agg #[.int .i64 n, .int .i64 sk, .int .i64 tl, .int .i64 va, .int .i64 lo, .int .i64 he, .int .i64 ke, .int .i64 qu, .slice pf nz cf], .int .i64 key] u fun e u' => e = .returned (.tuple #[.agg #[.int .i64 R, .int .i64 B], .bool q]) ∧ Below u.heap.size u u')
    (hlook : ∀ u, Below w.heap.size w u → Calls Try.prog 14 #[.agg #[.int .i64 start, .slice p nm (c + nm)], .int .i64 key, .int .i64 now, .agg #[.int .i64 R, .int .i64 B]] u fun e u' => e = .returned (.agg #[.int .i64 rk, .int .i64 ra, .int .i64 rm, .slice px nx (cx + nx)]) ∧ Below u.heap.size u u')
    (hat : ∀ u, Below w.heap.size w u → Calls Try.prog 37 #[.slice p nm (c + nm), .int .i64 key] u fun e u' => e = .returned (.int .i64 (at_ : Int)) ∧ u' = u) (hat1 : at_ ≤ nm)
    (hbusy : q = true → at_ = nm → ke ≤ nm → ∀ u, Below w.heap.size w u → Calls Try.prog 57 #[.agg #[.int .i64 start, .slice p nm (c + nm)], .int .i64 now, .agg #[.int .i64 n, .int .i64 sk, .int .i64 tl, .int .i64 va, .int .i64 lo, .int .i64 he, .int .i64 ke, .int .i64 qu, .slice pf nz cf]] u fun e u' => ∃ p' c', e = .returned (.slice p' ns (c' + ns)) ∧ (ns < ke → ∀ v, Below u'.heap.size u' v → Calls Try.prog 58 #[.slice p' ns (c' + ns), .agg #[.int .i64 rk, .int .i64 ra, .int .i64 rm, .slice px nx (cx + nx)]] v fun e v' => ∃ p' c', e = .returned (.slice p' NT (c' + NT)) ∧ X v' p' ∧ Below v.heap.size v v') ∧ Below u.heap.size u u')
    (hwith : q = true → (at_ < nm ∨ (nm : Int) < ke) → ∀ u, Below w.heap.size w u → Calls Try.prog 58 #[.slice p nm (c + nm), .agg #[.int .i64 rk, .int .i64 ra, .int .i64 rm, .slice px nx (cx + nx)]] u fun e u' => ∃ p' c', e = .returned (.slice p' NT (c' + NT)) ∧ X u' p' ∧ Below u.heap.size u u')
    (hsame : (q = false ∨ q = true ∧ at_ = nm ∧ ke ≤ nm ∧ ke ≤ ns) → NT = nm ∧ X w p)
    (her : (q = false ∧ er = 4) ∨ (q = true ∧ (at_ < nm ∨ (nm : Int) < ke) ∧ er = 0) ∨ (q = true ∧ at_ = nm ∧ ke ≤ nm ∧ ke ≤ ns ∧ er = 3) ∨ (q = true ∧ at_ = nm ∧ ke ≤ nm ∧ (ns : Int) < ke ∧ er = 0)) :
    Calls Try.prog 30 #[.agg #[.int .i64 start, .slice p nm (c + nm)], .int .i64 key, .int .i64 now, .agg #[.int .i64 n, .int .i64 sk, .int .i64 tl, .int .i64 va, .int .i64 lo, .int .i64 he, .int .i64 ke, .int .i64 qu, .slice pf nz cf]] w fun e w' => ∃ p' c', e = .returned (.tuple #[.agg #[.int .i64 start, .slice p' NT (c' + NT)], .int .i64 er]) ∧ X w' p' ∧ Below w.heap.size w w' := by
  have M0 := Lib.hid ((((Mem.start w).box #[.int .i64 start, .slice p nm (c + nm)] 24).box #[.int .i64 n, .int .i64 sk, .int .i64 tl, .int .i64 va, .int .i64 lo, .int .i64 he, .int .i64 ke, .int .i64 qu, .slice pf nz cf] 27).box #[.int .i64 0, .slice none 0 0] 24)
  simp only [size_alloc] at M0
  have hr1 := hrate _ M0.out.below
  obtain ⟨t0, t1, -⟩ := box2 (M0.out.boxes 2 _ _ _ rfl)
  obtain ⟨c0, c1, c2, c3, c4, c5, c6, c7, c8⟩ := nine_cells (M0.out.boxes 1 _ _ _ rfl)
  clear hrate
  rcases her with ⟨rfl, rfl⟩ | ⟨rfl, hk, rfl⟩ | ⟨rfl, hk1, hk2, hk3, rfl⟩ | ⟨rfl, hk1, hk2, hk3, rfl⟩
  · obtain ⟨rfl, hx⟩ := hsame (.inl rfl)
    have HX := Lib.hid hx
    clear hsame hx hwith hbusy hat hlook
    go_enter Try.func30, Try.ntmps30
    go_wp2_with (go_at_call 56; (with_reducible refine hr1.mono ?_); rintro e u1 ⟨rfl, hb⟩; have M1 := Lib.hid ((M0.out.on hb).box #[.int .i64 R, .int .i64 B] 44); clear hb t0 t1 c0 c1 c2 c3 c4 c5 c6 c7 c8 hr1; obtain ⟨t0, t1, -⟩ := box2 (M1.out.boxes 3 _ _ _ rfl); obtain ⟨d0, d1, ff⟩ := box2 (M1.out.boxes 1 _ _ _ rfl); have f0 := ff 0; have f1 := ff 1; clear ff)
    refine bodyPost_ret (v := .tuple #[.agg #[.int .i64 start, .slice p NT (c + NT)], .int .i64 4]) (by simp [results, Try.results30, go_sem, d0, d1]) rfl ?_
    exact tells_atX hX _ (by omega) (M1.out.boxes 1 _ _ _ rfl) (hX.on HX.out M1.out.below) M1.out.below (fun v => .tuple #[v, .int .i64 4])
  · have hw := hwith rfl hk
    clear hsame hwith hbusy
    go_enter Try.func30, Try.ntmps30
    go_wp2_with (first
      | (go_at_call 56; (with_reducible refine hr1.mono ?_); rintro e u1 ⟨rfl, hb⟩; have M1 := Lib.hid ((M0.out.on hb).box #[.int .i64 R, .int .i64 B] 44); clear hb t0 t1 c0 c1 c2 c3 c4 c5 c6 c7 c8 hr1; obtain ⟨t0, t1, -⟩ := box2 (M1.out.boxes 3 _ _ _ rfl); obtain ⟨z0, z1, -⟩ := box2 (M1.out.boxes 0 _ _ _ rfl))
      | (go_at_call 14; (with_reducible refine (hlook _ M1.out.below).mono ?_); rintro e u2 ⟨rfl, hb⟩; have hlt := lt_of_heap ((M1.out.on hb).boxes 1 _ _ _ rfl); have M2 := Lib.hid ((M1.out.on hb).box #[.int .i64 rk, .int .i64 ra, .int .i64 rm, .slice px nx (cx + nx)] 38); clear hb t0 t1 z0 z1 hlook; obtain ⟨t0, t1, -⟩ := box2 (M2.out.boxes 4 _ _ _ rfl); obtain ⟨c0, c1, c2, c3, c4, c5, c6, c7, c8⟩ := nine_cells (M2.out.boxes 3 _ _ _ rfl); obtain ⟨r0, r1, r2, r3, -⟩ := box4 (M2.out.boxes 0 _ _ _ rfl))
      | (go_at_call 37; (with_reducible refine (hat _ M2.out.below).mono ?_); rintro e u3 ⟨rfl, rfl⟩))
    all_goals
      have MD := Lib.hid M2.out.drew
      go_region_held3 (fun u => u.cell? ⟨w.heap.size, 0, none⟩ = some (.int .i64 start) ∧ u.cell? ⟨u2.heap.size, 0, none⟩ = some (.int .i64 rk) ∧ u.cell? ⟨u2.heap.size, 1, none⟩ = some (.int .i64 ra) ∧ u.cell? ⟨u2.heap.size, 2, none⟩ = some (.int .i64 rm) ∧ u.cell? ⟨u2.heap.size, 3, none⟩ = some (.slice px nx (cx + nx))) (first | assumption | exact SN.out | exact ⟨t0, r0, r1, r2, r3⟩ | exact ⟨cell_set2 (by omega) SN.out.1, cell_set2 (by omega) SN.out.2.1, cell_set2 (by omega) SN.out.2.2.1, cell_set2 (by omega) SN.out.2.2.2.1, cell_set2 (by omega) SN.out.2.2.2.2⟩) (first
        | (go_at_call 58; (with_reducible refine (hw _ MD.out.below).mono ?_); rintro e u9 ⟨p9, c9, rfl, hx9, hb9⟩; have M9 := Lib.hid (MD.out.on hb9); have HX9 := Lib.hid hx9; have SN := Lib.hid (And.intro (box2 (M9.out.boxes 4 _ _ _ rfl)).1 (And.intro (box4 (M9.out.boxes 0 _ _ _ rfl)).1 (And.intro (box4 (M9.out.boxes 0 _ _ _ rfl)).2.1 (And.intro (box4 (M9.out.boxes 0 _ _ _ rfl)).2.2.1 (box4 (M9.out.boxes 0 _ _ _ rfl)).2.2.2.1)))); obtain ⟨d0, d1, ff⟩ := box2 (M9.out.boxes 2 _ _ _ rfl); have f0 := ff 0; have f1 := ff 1; clear ff hx9 hb9))
      all_goals
        go_wp2
        refine bodyPost_ret (v := .tuple #[.agg #[.int .i64 start, .slice p9 NT (c9 + NT)], .int .i64 0]) (by simp [results, Try.results30, go_sem, d0, d1]) rfl ?_
        exact tells_atX hX _ (by omega) (M9.out.boxes 2 _ _ _ rfl) HX9.out M9.out.below (fun v => .tuple #[v, .int .i64 0])
  · obtain ⟨rfl, hx⟩ := hsame (.inr ⟨rfl, hk1, hk2, hk3⟩)
    have HX := Lib.hid hx
    have hk1' : (at_ : Int) = (NT : Int) := by omega
    have hbz := hbusy rfl hk1 hk2
    clear hsame hx hwith hk1 hbusy
    go_enter Try.func30, Try.ntmps30
    go_wp2_with (first
      | (go_at_call 56; (with_reducible refine hr1.mono ?_); rintro e u1 ⟨rfl, hb⟩; have M1 := Lib.hid ((M0.out.on hb).box #[.int .i64 R, .int .i64 B] 44); clear hb t0 t1 c0 c1 c2 c3 c4 c5 c6 c7 c8 hr1; obtain ⟨t0, t1, -⟩ := box2 (M1.out.boxes 3 _ _ _ rfl); obtain ⟨z0, z1, -⟩ := box2 (M1.out.boxes 0 _ _ _ rfl))
      | (go_at_call 14; (with_reducible refine (hlook _ M1.out.below).mono ?_); rintro e u2 ⟨rfl, hb⟩; have hlt := lt_of_heap ((M1.out.on hb).boxes 1 _ _ _ rfl); have M2 := Lib.hid ((M1.out.on hb).box #[.int .i64 rk, .int .i64 ra, .int .i64 rm, .slice px nx (cx + nx)] 38); clear hb t0 t1 z0 z1 hlook; obtain ⟨t0, t1, -⟩ := box2 (M2.out.boxes 4 _ _ _ rfl); obtain ⟨c0, c1, c2, c3, c4, c5, c6, c7, c8⟩ := nine_cells (M2.out.boxes 3 _ _ _ rfl); obtain ⟨r0, r1, r2, r3, -⟩ := box4 (M2.out.boxes 0 _ _ _ rfl))
      | (go_at_call 37; (with_reducible refine (hat _ M2.out.below).mono ?_); rintro e u3 ⟨rfl, rfl⟩)
      | (go_at_call 57; (with_reducible refine (hbz _ M2.out.below).mono ?_); rintro e u4 ⟨p4, k4, rfl, hw4, hb⟩; have M4 := Lib.hid (M2.out.on hb); have HW4 := Lib.hid hw4; clear hb hw4 hbz t0 t1 c0 c1 c2 c3 c4 c5 c6 c7 c8 r0 r1 r2 r3; obtain ⟨t0, t1, -⟩ := box2 (M4.out.boxes 4 _ _ _ rfl); obtain ⟨c0, c1, c2, c3, c4, c5, c6, c7, c8⟩ := nine_cells (M4.out.boxes 3 _ _ _ rfl); obtain ⟨r0, r1, r2, r3, -⟩ := box4 (M4.out.boxes 0 _ _ _ rfl); obtain ⟨d0, d1, ff⟩ := box2 (M4.out.boxes 2 _ _ _ rfl); have f0 := ff 0; have f1 := ff 1; clear ff))
    refine bodyPost_ret (v := .tuple #[.agg #[.int .i64 start, .slice p NT (c + NT)], .int .i64 3]) (by simp [results, Try.results30, go_sem, d0, d1]) rfl ?_
    exact tells_atX hX _ (by omega) (M4.out.boxes 2 _ _ _ rfl) (hX.on HX.out M4.out.below) M4.out.below (fun v => .tuple #[v, .int .i64 3])
  · have hk1' : (at_ : Int) = (nm : Int) := by omega
    have hbz := hbusy rfl hk1 hk2
    have HK := Lib.hid (show ns < ke from hk3)
    clear hsame hwith hk1 hbusy
    go_enter Try.func30, Try.ntmps30
    go_wp2_with (first
      | (go_at_call 56; (with_reducible refine hr1.mono ?_); rintro e u1 ⟨rfl, hb⟩; have M1 := Lib.hid ((M0.out.on hb).box #[.int .i64 R, .int .i64 B] 44); clear hb t0 t1 c0 c1 c2 c3 c4 c5 c6 c7 c8 hr1; obtain ⟨t0, t1, -⟩ := box2 (M1.out.boxes 3 _ _ _ rfl); obtain ⟨z0, z1, -⟩ := box2 (M1.out.boxes 0 _ _ _ rfl))
      | (go_at_call 14; (with_reducible refine (hlook _ M1.out.below).mono ?_); rintro e u2 ⟨rfl, hb⟩; have hlt := lt_of_heap ((M1.out.on hb).boxes 1 _ _ _ rfl); have M2 := Lib.hid ((M1.out.on hb).box #[.int .i64 rk, .int .i64 ra, .int .i64 rm, .slice px nx (cx + nx)] 38); clear hb t0 t1 z0 z1 hlook; obtain ⟨t0, t1, -⟩ := box2 (M2.out.boxes 4 _ _ _ rfl); obtain ⟨c0, c1, c2, c3, c4, c5, c6, c7, c8⟩ := nine_cells (M2.out.boxes 3 _ _ _ rfl); obtain ⟨r0, r1, r2, r3, -⟩ := box4 (M2.out.boxes 0 _ _ _ rfl))
      | (go_at_call 37; (with_reducible refine (hat _ M2.out.below).mono ?_); rintro e u3 ⟨rfl, rfl⟩)
      | (go_at_call 57; (with_reducible refine (hbz _ M2.out.below).mono ?_); rintro e u4 ⟨p4, k4, rfl, hw4, hb⟩; have M4 := Lib.hid (M2.out.on hb); have HW4 := Lib.hid hw4; clear hb hw4 hbz t0 t1 c0 c1 c2 c3 c4 c5 c6 c7 c8 r0 r1 r2 r3; obtain ⟨t0, t1, -⟩ := box2 (M4.out.boxes 4 _ _ _ rfl); obtain ⟨c0, c1, c2, c3, c4, c5, c6, c7, c8⟩ := nine_cells (M4.out.boxes 3 _ _ _ rfl); obtain ⟨r0, r1, r2, r3, -⟩ := box4 (M4.out.boxes 0 _ _ _ rfl); obtain ⟨d0, d1, ff⟩ := box2 (M4.out.boxes 2 _ _ _ rfl); have f0 := ff 0; have f1 := ff 1; clear ff))
    clear d0 d1 f0 f1
    have MD := Lib.hid M4.out.drew
    have HW5 := Lib.hid (HW4.out HK.out)
    go_region_held3 (fun u => u.cell? ⟨w.heap.size, 0, none⟩ = some (.int .i64 start) ∧ u.cell? ⟨u2.heap.size, 0, none⟩ = some (.int .i64 rk) ∧ u.cell? ⟨u2.heap.size, 1, none⟩ = some (.int .i64 ra) ∧ u.cell? ⟨u2.heap.size, 2, none⟩ = some (.int .i64 rm) ∧ u.cell? ⟨u2.heap.size, 3, none⟩ = some (.slice px nx (cx + nx))) (first | assumption | exact SN.out | exact ⟨t0, r0, r1, r2, r3⟩ | exact ⟨cell_set2 (by omega) SN.out.1, cell_set2 (by omega) SN.out.2.1, cell_set2 (by omega) SN.out.2.2.1, cell_set2 (by omega) SN.out.2.2.2.1, cell_set2 (by omega) SN.out.2.2.2.2⟩) (first
      | (go_at_call 58; (with_reducible refine (HW5.out _ (Below.refl _ _).drew).mono ?_); rintro e u9 ⟨p9, c9, rfl, hx9, hb9⟩; have M9 := Lib.hid (MD.out.on hb9); have HX9 := Lib.hid hx9; have SN := Lib.hid (And.intro (box2 (M9.out.boxes 4 _ _ _ rfl)).1 (And.intro (box4 (M9.out.boxes 0 _ _ _ rfl)).1 (And.intro (box4 (M9.out.boxes 0 _ _ _ rfl)).2.1 (And.intro (box4 (M9.out.boxes 0 _ _ _ rfl)).2.2.1 (box4 (M9.out.boxes 0 _ _ _ rfl)).2.2.2.1)))); obtain ⟨d0, d1, ff⟩ := box2 (M9.out.boxes 2 _ _ _ rfl); have f0 := ff 0; have f1 := ff 1; clear ff hx9 hb9))
    all_goals
      go_wp2
      refine bodyPost_ret (v := .tuple #[.agg #[.int .i64 start, .slice p9 NT (c9 + NT)], .int .i64 0]) (by simp [results, Try.results30, go_sem, d0, d1]) rfl ?_
      exact tells_atX hX _ (by omega) (M9.out.boxes 2 _ _ _ rfl) HX9.out M9.out.below (fun v => .tuple #[v, .int .i64 0])
theorem place_pat (l : List Rw) (key : Int) : (place l key < 0 ∧ pat l key = l.length) ∨ (0 ≤ place l key ∧ pat l key < l.length) := by
  rcases pat_cases l key with ⟨h1, h2, -⟩ | ⟨j, h1, h2, h3, -⟩
  · exact .inl ⟨by omega, h2⟩
  · exact .inr ⟨by omega, by omega⟩
theorem find_swept {t : Tb} {key : Int} (h : place t.rows key < 0) (now : Int) (f : Cf) : findRow (sweep t now f) key = findRow t key := by
  have h1 : place (sweep t now f).rows key = -1 := by
    refine spot_none _ noRow _ fun j hj => ?_
    have hm : (sweep t now f).rows.getD j noRow ∈ (sweep t now f).rows := by simp [List.getD, hj]
    have hm2 := sweep_mem hm
    generalize (sweep t now f).rows.getD j noRow = y at *
    obtain ⟨k, hk, e⟩ := List.mem_iff_getElem.1 hm2
    rcases spot_cases (fun r : Rw => r.key == key) noRow t.rows with ⟨-, h3⟩ | ⟨i, h3, -⟩
    · have := h3 k hk
      simpa [List.getD, hk, e] using this
    · unfold place at h; omega
  unfold findRow
  rw [h1, if_pos (by omega), if_pos h]
  rfl
theorem pmint_rise {n : Nat} {t : Tb} (p : Option Addr) (c : Nat) (key now : Int) (f : Cf) (pf : Option Addr) (cf : Nat) (w : World) (h : Rise n t) (hn : n ≤ 61) (hr : RowsAt w p t.rows) (hz : RatesAt w pf f.rates) :
    Calls Try.prog 30 #[tabVal t p c, .int .i64 key, .int .i64 now, cfVal f pf cf] w (TellsTabFar w p t (mint t key now f).1 (fun v => .tuple #[v, .int .i64 (mint t key now f).2])) := by
  obtain ⟨hl, ho⟩ := base_len h.base hn
  obtain ⟨m, hm, hlay, hml, hfar⟩ := rows_pair hr
  have hlen : t.rows.length = m.length := by rw [← hm]; simp
  have hmo : ∀ x ∈ m, LeasesAt w x.2.1 x.1.out ∧ x.1.out.length ≤ 1000 := fun x hx => ⟨hml x hx, ho x.1 (by rw [← hm]; exact List.mem_map_of_mem hx)⟩
  have hr' : RowsAt w p (m.map (·.1)) := by rw [hm]; exact hr
  have hup : Up (m.map (·.1)) := by rw [hm]; exact h.up
  have hmf : ∀ S, RowsIn S w p t.rows → ∀ y ∈ m, LeasesIn (fun b => S b ∨ w.heap.size ≤ b) w y.2.1 y.1.out := fun S hS y hy => (hfar S hS y hy).to (Below.refl _ _) fun b hb => .inl hb
  have hxl : ∀ R B, LeasesAt w (lookP t.start m key now R B).2.1 (lookP t.start m key now R B).1.out := fun R B => by
    show LeasesAt w (foundP t.start m key).2.1 (foundP t.start m key).1.out
    rcases foundP_in t.start m key with e | e
    · rw [e]; exact .inl rfl
    · exact hml _ e
  have hxf : ∀ R B S, RowsIn S w p t.rows → LeasesIn (fun b => S b ∨ w.heap.size ≤ b) w (lookP t.start m key now R B).2.1 (lookP t.start m key now R B).1.out := fun R B S hS => by
    show LeasesIn _ w (foundP t.start m key).2.1 (foundP t.start m key).1.out
    rcases foundP_in t.start m key with e | e
    · rw [e]; exact .inl rfl
    · exact hmf S hS _ e
  have hlook : ∀ R B, (lookP t.start m key now R B).1 = look t key now R B := fun R B => by
    show minted (foundP t.start m key).1 now R B = minted (findRow t key) now R B
    rw [foundP_row t m key hm]
  have hpl := place_pat t.rows key
  have hat := fun u (hb : Below w.heap.size w u) => pat_any t.rows p (c + t.rows.length) key u (hr.below hb) hl
  rw [hlen] at hat hpl
  have hsl : (sweepP t.start now f m).length = (sweep t now f).rows.length := by
    show _ = (sweepOf t.start now f t.rows).length
    rw [← hm, ← sweepP_row]; simp
  have hsl2 := sweep_len t now f
  have hsame : Near w p t.rows t.rows w p := ⟨hr, fun S hS => hS.on (fun b hb _ => .inl hb) fun b _ _ => rfl⟩
  have core := fun (R B : Int) (q : Bool) (NT : Nat) (er : Int) (L : List Rw) => pmint_core t.start key now p m.length c f.n f.skew f.ttl f.valid f.loss f.hear f.keys f.queue pf f.rates.length cf w R B q (lookP t.start m key now R B).1.key (lookP t.start m key now R B).1.avail (lookP t.start m key now R B).1.mark (lookP t.start m key now R B).2.1 (lookP t.start m key now R B).1.out.length (lookP t.start m key now R B).2.2 (pat t.rows key) (Near w p t.rows L) (stay_near w p t.rows L) NT (sweepP t.start now f m).length er (by omega) (by omega)
  have hrate := fun u (hb : Below w.heap.size w u) => prate_any f pf cf key u (hz.below hb)
  have hlk := fun R B u (hb : Below w.heap.size w u) => plook_any t.start m p c key now R B u (by omega) (hr'.below hb) (hlay.on hb) (fun x hx => ⟨(hmo x hx).1.below hb, (hmo x hx).2⟩)
  have tv : tabVal t p c = .agg #[.int .i64 t.start, .slice p m.length (c + m.length)] := by unfold tabVal; rw [hlen]
  rw [tv]
  by_cases h1 : rateAt f.rates key < 0
  · have e : mint t key now f = (t, 4) := by unfold mint; rw [if_pos h1]
    rw [e]
    rw [show (if 0 ≤ rateAt f.rates key then (rateOf f key).1 else 0) = 0 from if_neg (by omega), show (if 0 ≤ rateAt f.rates key then (rateOf f key).2 else 0) = 0 from if_neg (by omega), decide_eq_false (show ¬ 0 ≤ rateAt f.rates key by omega)] at hrate
    refine (core 0 0 false t.rows.length 4 t.rows hrate (hlk 0 0) hat (by omega) (fun h => by cases h) (fun h => by cases h) (fun _ => ⟨hlen, hsame⟩) (.inl ⟨rfl, rfl⟩)).mono ?_
    rintro e w' ⟨p', c', rfl, hx, hb⟩
    exact ⟨p', c', rfl, hx, hb⟩
  · rw [if_pos (show 0 ≤ rateAt f.rates key by omega), if_pos (show 0 ≤ rateAt f.rates key by omega), decide_eq_true (show 0 ≤ rateAt f.rates key by omega)] at hrate
    have hlk := hlk (rateOf f key).1 (rateOf f key).2
    have hlook := hlook (rateOf f key).1 (rateOf f key).2
    have hxl := hxl (rateOf f key).1 (rateOf f key).2
    have hxf := hxf (rateOf f key).1 (rateOf f key).2
    have core := core (rateOf f key).1 (rateOf f key).2
    generalize lookP t.start m key now (rateOf f key).1 (rateOf f key).2 = x at *
    by_cases h2 : 0 ≤ place t.rows key ∨ (t.rows.length : Int) < f.keys
    · have e : mint t key now f = (setRow t x.1, 0) := by unfold mint; rw [if_neg h1, if_pos h2, hlook]
      rw [e]
      refine (core true (setRow t x.1).rows.length 0 (setRow t x.1).rows hrate hlk hat (by omega) (fun _ ha hk => by omega) (fun _ _ u hb => ?_) (fun h => by
        rcases h with h | ⟨-, ha, hk, -⟩
        · cases h
        · omega) (.inr (.inl ⟨rfl, by omega, rfl⟩))).mono ?_
      · refine (with_tells w p t.rows m p c x u hb (by omega) (hlay.on hb) (fun y hy => (hml y hy).below hb) (fun S hS y hy => (hmf S hS y hy).to hb fun b h => h) (hxl.below hb) (fun S hS => (hxf S hS).to hb fun b h => h) hup).mono ?_
        rintro e u' ⟨p', n', c', rfl, hn', hx', hb'⟩
        rw [hm] at hn' hx'
        subst hn'
        exact ⟨p', c', rfl, hx', hb'⟩
      · rintro e w' ⟨p', c', rfl, hx, hb⟩
        exact ⟨p', c', rfl, hx, hb⟩
    · have hat2 : pat t.rows key = m.length := by omega
      by_cases h3 : f.keys ≤ ((sweep t now f).rows.length : Int)
      · have e : mint t key now f = (t, 3) := by unfold mint; rw [if_neg h1, if_neg h2, if_pos h3]
        rw [e]
        refine (core true t.rows.length 3 t.rows hrate hlk hat (by omega) (fun _ _ _ u hb => ?_) (fun _ h => by omega) (fun _ => ⟨hlen, hsame⟩) (.inr (.inr (.inl ⟨rfl, hat2, by omega, by omega, rfl⟩)))).mono ?_
        · refine (busy_any t.start m p c now f pf cf u (by omega) (hlay.on hb) (hz.below hb)).mono ?_
          rintro e u' ⟨p', c', rfl, -, hb'⟩
          exact ⟨p', c', rfl, fun h => by omega, hb'⟩
        · rintro e w' ⟨p', c', rfl, hx, hb⟩
          exact ⟨p', c', rfl, hx, hb⟩
      · have hfs : look (sweep t now f) key now (rateOf f key).1 (rateOf f key).2 = x.1 := by
          rw [hlook]
          unfold look
          rw [find_swept (by omega)]
        have e : mint t key now f = (setRow (sweep t now f) x.1, 0) := by unfold mint; rw [if_neg h1, if_neg h2, if_neg h3, hfs]
        rw [e]
        refine (core true (setRow (sweep t now f) x.1).rows.length 0 (setRow (sweep t now f) x.1).rows hrate hlk hat (by omega) (fun _ _ _ u hb => ?_) (fun _ h => by omega) (fun h => by
          rcases h with h | ⟨-, -, -, hk⟩
          · cases h
          · omega) (.inr (.inr (.inr ⟨rfl, hat2, by omega, by omega, rfl⟩)))).mono ?_
        · refine (busy_any t.start m p c now f pf cf u (by omega) (hlay.on hb) (hz.below hb)).mono ?_
          rintro e u' ⟨p4, c4, rfl, hl4, hb4⟩
          have hbu := hb.trans (hb4.mono hb.size)
          refine ⟨p4, c4, rfl, fun _ v hv => ?_, hb4⟩
          have hbv := hbu.trans (hv.mono hbu.size)
          have hin : ∀ y ∈ sweepP t.start now f m, y ∈ m := fun y hy => (List.mem_filter.1 hy).1
          have hrows : (sweepP t.start now f m).map (·.1) = (sweep t now f).rows := by rw [sweepP_row, hm]; rfl
          refine (with_tells w p t.rows (sweepP t.start now f m) p4 c4 x v hbv (by omega) (hl4.on hv) (fun y hy => (hml y (hin y hy)).below hbv) (fun S hS y hy => (hmf S hS y (hin y hy)).to hbv fun b h => h) (hxl.below hbv) (fun S hS => (hxf S hS).to hbv fun b h => h) (by rw [hrows]; exact (rise_sweep h now f).up)).mono ?_
          rintro e v' ⟨p', n', c', rfl, hn', hx', hb'⟩
          rw [hrows] at hn' hx'
          subst hn'
          exact ⟨p', c', rfl, hx', hb'⟩
        · rintro e w' ⟨p', c', rfl, hx, hb⟩
          exact ⟨p', c', rfl, hx, hb⟩
end Go.Proofs.Ytcnnepmhdccipaa.Ledger
