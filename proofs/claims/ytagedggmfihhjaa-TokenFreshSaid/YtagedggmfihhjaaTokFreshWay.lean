/-
  TokenFresh returns true, whatever the program's package token is, if its calls do what is asked of them.
-/
import Derived.Test.YtagedggmfihhjaaTokLine
namespace Go.Proofs.Ytagedggmfihhjaa.Token
open Go.RowKit
open _root_.Go.Proofs.Ytagedggmfihhjaa.Frame (Rw Tb Tk noRow LeasesAt RowAt RowsAt cell_on Asked tokenOk)
open _root_.Go.Proofs.Ytagedggmfihhjaa.Codec (Ints lt_of_heap frozen_of heap_set)

theorem same_tok (t : Tk) : Frame.sameToken t t = true := by
  have hi : Frame.sameInts t.stamps t.stamps = true := by
    unfold Frame.sameInts
    rw [beq_self_eq_true, Bool.true_and]
    exact Frame.allTo_true fun j _ => by simp
  simp [Frame.sameToken, hi, same_table]
theorem fresh_rows (gen n node now : Int) : (fresh gen n node now).1.table.rows = [] := by
  unfold fresh
  split
  · rfl
  · split <;> rfl
theorem fresh_stamps (gen n node now : Int) : (fresh gen n node now).1.stamps.length ≤ 64 := by
  unfold fresh
  split
  · simp [noTk]
  · split
    · simp only [freshTk, firsts_len]; omega
    · simp [noTk]

set_option maxRecDepth 100000 in
set_option maxHeartbeats 4000000 in
theorem fresh_way (P : Way10) (x0 x1 x2 x3 a0 a1 b0 b1 : Int) (W : World) (h0 : Num x0) (h1 : Num x1) (h2 : Num x2) (h3 : Num x3) :
    Calls Try.prog 3 #[.agg #[.int .i64 x0, .int .i64 x1, .int .i64 x2, .int .i64 x3], .agg #[.int .i64 a0, .int .i64 a1], .agg #[.int .i64 b0, .int .i64 b1]] W (Asked W true) := by
  have hal := alive_way P
  have c1 := fun u => open_new (P.fresh x0 x1 x2 x3 u h0 h1 h2 h3)
  have c2 := fun u => open_new (rfresh_any x0 x1 x2 x3 u)
  have c3 := fun u => P.newer a0 a1 b0 b1 u
  have c4 := fun u => rnewer_any a0 a1 b0 b1 u
  have hfr := fresh_rows x0 x1 x2 x3
  have hfs := fresh_stamps x0 x1 x2 x3
  generalize newer (a0, a1) (b0, b1) = nw at *
  generalize fresh x0 x1 x2 x3 = TE at *
  obtain ⟨⟨tg, th, st, ⟨ts, tr⟩⟩, E⟩ := TE
  simp only at hfr hfs c1 c2
  subst hfr
  have hsame := fun (u : World) p q c d k m (i1 : Ints u p st) (i2 : Ints u q st) => Frame.sametoken_any ⟨tg, th, st, ⟨ts, []⟩⟩ ⟨tg, th, st, ⟨ts, []⟩⟩ p none q none c k d m u (by simp only; omega) (by simp) i1 i2 (.inl rfl) (.inl rfl) (fun r hr => by cases hr)
  rw [same_tok] at hsame
  simp only [List.length_nil] at c1 c2 hsame
  generalize st.length = sn at *
  have M0 := Lib.hid ((((Mem.start W).box #[.int .i64 x0, .int .i64 x1, .int .i64 x2, .int .i64 x3] 22).box #[.int .i64 a0, .int .i64 a1] 23).box #[.int .i64 b0, .int .i64 b1] 23)
  simp only [size_alloc] at M0
  have hE : (E == E) = true := beq_self_eq_true E
  have hN : (nw == nw) = true := beq_self_eq_true nw
  obtain ⟨y0, y1, y2, y3, -⟩ := box4 (M0.out.boxes 2 _ _ _ rfl)
  clear P h0 h1 h2 h3
  go_enter Try.func3, Try.ntmps3
  go_wp2_with (first
    | (go_at_call 6; (with_reducible refine (c1 _).mono ?_); rintro e u1 ⟨p1, q1, k1, rfl, hi, -, -, hb⟩; have M1 := Lib.hid ((M0.out.on hb).box #[.int .i64 tg, .int .i64 th, .slice p1 sn q1, .int .i64 ts, .slice none 0 k1] 29); have I1 := Lib.hid (hi.below ((Below.refl _ _).alloc (Nat.le_refl _) (.cells #[.int .i64 tg, .int .i64 th, .slice p1 sn q1, .int .i64 ts, .slice none 0 k1] 29))); clear y0 y1 y2 y3; obtain ⟨y0, y1, y2, y3, -⟩ := box4 (M1.out.boxes 3 _ _ _ rfl); clear hi hb M0 c1)
    | (go_at_call 7; (with_reducible refine (c2 _).mono ?_); rintro e u2 ⟨p2, q2, k2, rfl, hi, -, -, hb⟩; have M2 := Lib.hid ((M1.out.on hb).box #[.int .i64 tg, .int .i64 th, .slice p2 sn q2, .int .i64 ts, .slice none 0 k2] 29); have I2 := Lib.hid ((I1.out.below hb).below ((Below.refl _ _).alloc (Nat.le_refl _) (.cells #[.int .i64 tg, .int .i64 th, .slice p2 sn q2, .int .i64 ts, .slice none 0 k2] 29))); have J2 := Lib.hid (hi.below ((Below.refl _ _).alloc (Nat.le_refl _) (.cells #[.int .i64 tg, .int .i64 th, .slice p2 sn q2, .int .i64 ts, .slice none 0 k2] 29))); clear y0 y1 y2 y3; obtain ⟨y0, y1, y2, y3, y4⟩ := box5 (M2.out.boxes 0 _ _ _ rfl); obtain ⟨z0, z1, z2, z3, z4⟩ := box5 (M2.out.boxes 1 _ _ _ rfl); clear hi hb M1 I1 c2)
    | (go_at_call 8; (with_reducible refine (hsame _ _ _ _ _ _ _ I2.out J2.out).mono ?_); rintro e u3 ⟨rfl, hb⟩; have M3 := Lib.hid (M2.out.on hb); clear y0 y1 y2 y3 y4 z0 z1 z2 z3 z4 hb M2 I2 J2))
  have MD := Lib.hid M3.out.drew
  obtain ⟨y0, y1, -⟩ := box2 (M3.out.boxes 3 _ _ _ rfl)
  obtain ⟨z0, z1, -⟩ := box2 (M3.out.boxes 2 _ _ _ rfl)
  go_region_held3 (fun u => u.cell? ⟨W.heap.size + 1, 0, none⟩ = some (.int .i64 a0) ∧ u.cell? ⟨W.heap.size + 1, 1, none⟩ = some (.int .i64 a1) ∧ u.cell? ⟨W.heap.size + 1 + 1, 0, none⟩ = some (.int .i64 b0) ∧ u.cell? ⟨W.heap.size + 1 + 1, 1, none⟩ = some (.int .i64 b1)) (first | assumption | exact SL.out | exact ⟨y0, y1, z0, z1⟩) (first
    | (go_at_call 9; (with_reducible refine (c3 _).mono ?_); rintro e u4 ⟨rfl, hb⟩; have M4 := Lib.hid (MD.out.on hb); have SL := Lib.hid (And.intro (box2 (M4.out.boxes 3 _ _ _ rfl)).1 (And.intro (box2 (M4.out.boxes 3 _ _ _ rfl)).2.1 (And.intro (box2 (M4.out.boxes 2 _ _ _ rfl)).1 (box2 (M4.out.boxes 2 _ _ _ rfl)).2.1))); clear hb)
    | (go_at_call 10; (with_reducible refine (c4 _).mono ?_); rintro e u5 ⟨rfl, hb⟩; have M5 := Lib.hid (M4.out.on hb); have SL := Lib.hid (And.intro (box2 (M5.out.boxes 3 _ _ _ rfl)).1 (And.intro (box2 (M5.out.boxes 3 _ _ _ rfl)).2.1 (And.intro (box2 (M5.out.boxes 2 _ _ _ rfl)).1 (box2 (M5.out.boxes 2 _ _ _ rfl)).2.1))); clear hb))
  all_goals
    clear y0 y1 z0 z1
    go_wp2_with (go_at_call 11; (with_reducible refine (hal _).mono ?_); rintro e u6 ⟨rfl, hb⟩; have M6 := Lib.hid (M5.out.on hb); clear hb)
    go_ret
    exact ⟨rfl, M6.out.below⟩
end Go.Proofs.Ytagedggmfihhjaa.Token
