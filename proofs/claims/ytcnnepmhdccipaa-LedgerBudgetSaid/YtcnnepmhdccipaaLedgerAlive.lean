/-
  The live question of annonalaw09, whatever the program's ledger is, if its calls do what is asked of them.
-/
import Derived.Test.YtcnnepmhdccipaaLedgerSameRow
import Derived.Deep.RegionHeld3
namespace Go.Proofs.Ytcnnepmhdccipaa.Ledger
open Go.RowKit
open _root_.Go.Proofs.Ytcnnepmhdccipaa.Frame (Rw Tb noRow LeasesAt cell_on tableOk Asked)
open _root_.Go.Proofs.Ytcnnepmhdccipaa.Codec (lt_of_heap frozen_of heap_set)

def cf0 : Cf := ⟨0, 0, 0, 0, 0, 0, 1, 0, [(2, 10)]⟩
def t0 : Tb := ⟨5, []⟩
theorem al1 : mint t0 3 9 cf0 = (⟨5, [⟨3, 8, 9, []⟩]⟩, 0) := by rfl
theorem al2 : grant ⟨5, [⟨3, 8, 9, []⟩]⟩ 3 1 6 = (⟨5, [⟨3, 2, 9, [(1, 6)]⟩]⟩, 6) := by rfl
theorem al3 : settle ⟨5, [⟨3, 2, 9, [(1, 6)]⟩]⟩ 3 1 4 = (⟨5, [⟨3, 4, 9, []⟩]⟩, 4) := by rfl
theorem al4 : mint ⟨5, [⟨3, 4, 9, []⟩]⟩ 4 9 cf0 = (⟨5, [⟨3, 4, 9, []⟩]⟩, 3) := by rfl
theorem al5 : findRow ⟨5, [⟨3, 4, 9, []⟩]⟩ 3 = ⟨3, 4, 9, []⟩ ∧ findIs ⟨5, [⟨3, 4, 9, []⟩]⟩ 3 = true := ⟨rfl, rfl⟩
theorem al6 : held ⟨5, [⟨3, 2, 9, [(1, 6)]⟩]⟩ 1 = [3] := by rfl
theorem al7 : look t0 3 99 2 10 = ⟨3, 10, 99, []⟩ := by rfl

theorem field_avail (k a m : Int) (p : Option Addr) (n c : Nat) (w : World) : (Instr.field 38 (.agg #[.int .i64 k, .int .i64 a, .int .i64 m, .slice p n c]) 1).run Try.prog w = .ok (.int .i64 a) w := by kernel_rfl
set_option maxRecDepth 100000 in
set_option maxHeartbeats 4000000 in
theorem alive_way {I : Nat → Tb → Prop} (inv : Inv I) (P : Way9 I) (w : World) : Calls Try.prog 7 #[] w (Asked w true) := by
  have i0 : I 0 t0 := inv.first (by decide)
  have nn : ∀ x : Int, -100 ≤ x ∧ x ≤ 100 → Num x := fun x h => by unfold Num; omega
  have i1 := inv.mint cf0 i0 (nn 3 (by omega)) (nn 9 (by omega)) (by decide)
  rw [al1] at i1
  have i2 := inv.grant 1 6 i1 (nn 3 (by omega))
  rw [al2] at i2
  have i3 := inv.settle 1 4 i2 (nn 3 (by omega))
  rw [al3] at i3
  have M0 := Lib.hid (((Mem.start w).box #[.int .i64 2, .int .i64 10] 44).box #[.int .i64 0, .int .i64 0, .int .i64 0, .int .i64 0, .int .i64 0, .int .i64 0, .int .i64 1, .int .i64 0, .slice (some ⟨w.heap.size, 0, none⟩) 1 1] 27 |>.box #[.int .i64 5, .slice none 0 0] 24)
  simp only [size_alloc] at M0
  have hz : ∀ u, u.heap[w.heap.size]? = some (.cells #[.int .i64 2, .int .i64 10] 44 (0, 0)) → RatesAt u (some ⟨w.heap.size, 0, none⟩) [(2, 10)] := fun u hu => by
    obtain ⟨h0, h1, -⟩ := box2 hu
    refine .inr ⟨w.heap.size, 0, rfl, fun j hj => ?_⟩
    obtain rfl : j = 0 := by simpa using hj
    exact ⟨h0, h1⟩
  have c1 := fun u (hu : RatesAt u (some ⟨w.heap.size, 0, none⟩) [(2, 10)]) => open_tab ((P.mint (t := t0) none 0 3 9 cf0 (some ⟨w.heap.size, 0, none⟩) 1 u i0 (by omega) (nn 3 (by omega)) (nn 9 (by omega)) (by decide) (.inl rfl) hu).mono fun _ _ h => h.near)
  have c2 := fun u p c (hu : RowsAt u p [⟨3, 8, 9, []⟩]) => open_tab ((P.grant (t := ⟨5, [⟨3, 8, 9, []⟩]⟩) p c 3 1 6 u i1 (by omega) (nn 3 (by omega)) (nn 1 (by omega)) (nn 6 (by omega)) hu).mono fun _ _ h => h.near)
  have c3 := fun u p c (hu : RowsAt u p [⟨3, 2, 9, [(1, 6)]⟩]) => open_tab ((P.settle (t := ⟨5, [⟨3, 2, 9, [(1, 6)]⟩]⟩) p c 3 1 4 u i2 (by omega) (nn 3 (by omega)) (nn 1 (by omega)) (nn 4 (by omega)) hu).mono fun _ _ h => h.near)
  have c4 := fun u p c (hr : RowsAt u p [⟨3, 4, 9, []⟩]) (hu : RatesAt u (some ⟨w.heap.size, 0, none⟩) [(2, 10)]) => open_tab ((P.mint (t := ⟨5, [⟨3, 4, 9, []⟩]⟩) p c 4 9 cf0 (some ⟨w.heap.size, 0, none⟩) 1 u i3 (by omega) (nn 4 (by omega)) (nn 9 (by omega)) (by decide) hr hu).mono fun _ _ h => h.near)
  have c5 := fun u p c (hr : RowsAt u p [⟨3, 4, 9, []⟩]) => open_row (P.find (t := ⟨5, [⟨3, 4, 9, []⟩]⟩) p c 3 u i3 (by omega) (nn 3 (by omega)) hr)
  have c6 := fun u p c (hr : RowsAt u p [⟨3, 2, 9, [(1, 6)]⟩]) => open_ints (P.held (t := ⟨5, [⟨3, 2, 9, [(1, 6)]⟩]⟩) p c 1 u i2 (by omega) (nn 1 (by omega)) hr)
  have c7 := fun u => open_row ((P.look (t := t0) none 0 3 99 2 10 u u i0 (by omega) (nn 3 (by omega)) (nn 99 (by omega)) (nn 2 (by omega)) (nn 10 (by omega)) (.inl rfl) (Below.refl _ _)).mono fun _ _ h => h.near)
  simp only [al1] at c1
  simp only [al2] at c2
  simp only [al3] at c3
  simp only [al4] at c4
  simp only [al5.1, al5.2] at c5
  simp only [al6] at c6
  simp only [al7] at c7
  simp only [tabVal, cfVal, t0, cf0, List.length_nil, List.length_cons, Nat.zero_add, id_eq] at c1 c2 c3 c4 c5 c6 c7
  have HZ := Lib.hid hz
  clear P inv i0 i1 i2 i3 nn hz
  go_enter Try.func7, Try.ntmps7
  go_wp2_with (first
    | (go_at_call 30; (with_reducible refine (c1 _ (HZ.out _ (M0.out.boxes 2 _ _ _ rfl))).mono ?_); rintro e u1 ⟨p1, k1, rfl, hr, hb⟩; have M1 := Lib.hid (((M0.out.on hb).addRows hr).box #[.int .i64 5, .slice p1 1 (k1 + 1)] 24); obtain ⟨a0, a1, -⟩ := box2 (M1.out.boxes 0 _ _ _ rfl); clear hr hb c1 M0)
    | (go_at_call 31; (with_reducible refine (c2 _ _ _ (M1.out.rows 0 _ _ rfl)).mono ?_); rintro e u2 ⟨p2, k2, rfl, hr, hb⟩; have M2 := Lib.hid (((M1.out.on hb).addRows hr).box #[.int .i64 5, .slice p2 1 (k2 + 1)] 24); obtain ⟨b0, b1, -⟩ := box2 (M2.out.boxes 0 _ _ _ rfl); clear hr hb c2 M1 a0 a1)
    | (go_at_call 32; (with_reducible refine (c3 _ _ _ (M2.out.rows 0 _ _ rfl)).mono ?_); rintro e u3 ⟨p3, k3, rfl, hr, hb⟩; have M3 := Lib.hid (((M2.out.on hb).addRows hr).box #[.int .i64 5, .slice p3 1 (k3 + 1)] 24); obtain ⟨d0, d1, -⟩ := box2 (M3.out.boxes 0 _ _ _ rfl); obtain ⟨e0, e1, e2, e3, e4, e5, e6, e7, e8⟩ := nine_cells (M3.out.boxes 4 _ _ _ rfl); clear hr hb c3 M2 b0 b1)
    | (go_at_call 30; (with_reducible refine (c4 _ _ _ (M3.out.rows 0 _ _ rfl) (HZ.out _ (M3.out.boxes 5 _ _ _ rfl))).mono ?_); rintro e u4 ⟨p4, k4, rfl, hr, hb⟩; have M4 := Lib.hid ((M3.out.on hb).box #[.int .i64 5, .slice p4 1 (k4 + 1)] 24); obtain ⟨d0, d1, -⟩ := box2 (M4.out.boxes 1 _ _ _ rfl); clear hr hb c4 M3 e0 e1 e2 e3 e4 e5 e6 e7 e8)
    | (go_at_call 11; (with_reducible refine (c5 _ _ _ (M4.out.rows 0 _ _ rfl)).mono ?_); rintro e u5 ⟨p5, k5, rfl, hr, hb⟩; have M5 := Lib.hid ((M4.out.on hb).box #[.int .i64 3, .int .i64 4, .int .i64 9, .slice p5 0 k5] 38); obtain ⟨x0, x1, x2, x3, -⟩ := box4 (M5.out.boxes 0 _ _ _ rfl); obtain ⟨b0, b1, -⟩ := box2 (M5.out.boxes 3 _ _ _ rfl); obtain ⟨e0, e1, e2, e3, e4, e5, e6, e7, e8⟩ := nine_cells (M5.out.boxes 6 _ _ _ rfl); obtain ⟨t0, t1, -⟩ := box2 (M5.out.boxes 5 _ _ _ rfl); obtain ⟨r0, r1, -⟩ := box2 (M5.out.boxes 7 _ _ _ rfl); clear hr hb c5 M4 d0 d1))
  have MD := Lib.hid M5.out.drew
  go_region_held3 (fun u => u.cell? ⟨u5.heap.size, 1, none⟩ = some (.int .i64 4) ∧ u.cell? ⟨u5.heap.size, 2, none⟩ = some (.int .i64 9) ∧ u.cell? ⟨u2.heap.size, 0, none⟩ = some (.int .i64 5) ∧ u.cell? ⟨u2.heap.size, 1, none⟩ = some (.slice p2 1 (k2 + 1)) ∧ u.cell? ⟨w.heap.size + 1 + 1, 0, none⟩ = some (.int .i64 5) ∧ u.cell? ⟨w.heap.size + 1 + 1, 1, none⟩ = some (.slice none 0 0) ∧ u.cell? ⟨w.heap.size + 1, 8, none⟩ = some (.slice (some ⟨w.heap.size, 0, none⟩) 1 1) ∧ u.cell? ⟨w.heap.size, 0, none⟩ = some (.int .i64 2) ∧ u.cell? ⟨w.heap.size, 1, none⟩ = some (.int .i64 10)) (first | assumption | exact SL.out | exact ⟨x1, x2, b0, b1, t0, t1, e8, r0, r1⟩) (first
    | (go_at_call 17; (with_reducible refine (c6 _ _ _ (MD.out.rows 1 _ _ rfl)).mono ?_); rintro e u6 ⟨p6, k6, rfl, -, hb⟩; have M6 := Lib.hid (MD.out.on hb); have SL := Lib.hid (And.intro (box4 (M6.out.boxes 0 _ _ _ rfl)).2.1 (And.intro (box4 (M6.out.boxes 0 _ _ _ rfl)).2.2.1 (And.intro (box2 (M6.out.boxes 3 _ _ _ rfl)).1 (And.intro (box2 (M6.out.boxes 3 _ _ _ rfl)).2.1 (And.intro (box2 (M6.out.boxes 5 _ _ _ rfl)).1 (And.intro (box2 (M6.out.boxes 5 _ _ _ rfl)).2.1 (And.intro (nine_cells (M6.out.boxes 6 _ _ _ rfl)).2.2.2.2.2.2.2.2 (And.intro (box2 (M6.out.boxes 7 _ _ _ rfl)).1 (box2 (M6.out.boxes 7 _ _ _ rfl)).2.1)))))))); clear hb)
    | (go_at_call 14; (with_reducible refine (c7 _).mono ?_); rintro e u7 ⟨p7, k7, rfl, -, hb⟩; have hfa := fun w => field_avail 3 10 99 p7 0 k7 w; have M7 := Lib.hid (M6.out.on hb); have SL := Lib.hid (And.intro (box4 (M7.out.boxes 0 _ _ _ rfl)).2.1 (And.intro (box4 (M7.out.boxes 0 _ _ _ rfl)).2.2.1 (And.intro (box2 (M7.out.boxes 3 _ _ _ rfl)).1 (And.intro (box2 (M7.out.boxes 3 _ _ _ rfl)).2.1 (And.intro (box2 (M7.out.boxes 5 _ _ _ rfl)).1 (And.intro (box2 (M7.out.boxes 5 _ _ _ rfl)).2.1 (And.intro (nine_cells (M7.out.boxes 6 _ _ _ rfl)).2.2.2.2.2.2.2.2 (And.intro (box2 (M7.out.boxes 7 _ _ _ rfl)).1 (box2 (M7.out.boxes 7 _ _ _ rfl)).2.1)))))))); clear hb))
  all_goals
    go_wp2
    go_ret
    exact ⟨rfl, M7.out.below⟩
end Go.Proofs.Ytcnnepmhdccipaa.Ledger
