/-
  TokenFresh and TokenLine return true, whatever the program's package token is, if its calls do what is asked of them; the live question.
-/
import Derived.Test.YtagedggmfihhjaaTokFresh
import Derived.Test.YtagedggmfihhjaaFrmFits
import Derived.Test.YtagedggmfihhjaaFrameSameToken
import Derived.Deep.RegionHeld3
namespace Go.Proofs.Ytagedggmfihhjaa.Token
open Go.RowKit
open _root_.Go.Proofs.Ytagedggmfihhjaa.Frame (Rw Tb Tk noRow LeasesAt RowAt RowsAt cell_on Asked tokenOk)
open _root_.Go.Proofs.Ytagedggmfihhjaa.Codec (Ints lt_of_heap frozen_of heap_set)

def tk1 : Tk := ⟨7, 0, [-1, 20, -1], ⟨20, []⟩⟩
def tk2 : Tk := ⟨7, 0, [-1, 20, 24], ⟨20, []⟩⟩
def tk3 : Tk := ⟨7, 1, [-1, 20, 24], ⟨20, []⟩⟩
theorem nth_two : Ring.nth [20, 24] 2 = 20 := by simp [Ring.nth, Ring.srt, List.mergeSort, List.MergeSort.Internal.splitInTwo]
theorem al1 : fresh 7 3 1 20 = (tk1, 0) := by rfl
theorem al2 : valid [-1, 20, -1] 20 5 = false := by decide
theorem al3 : stamped tk1 2 24 = (tk2, 0) := by rfl
theorem al4 : passed tk2 = (tk3, 0) := by rfl
theorem al5 : upto [-1, 20, 24] 5 = 25 := by
  have e : given [-1, 20, 24] = [20, 24] := by decide
  have m : Ring.maj ([-1, 20, 24] : List Int).length = 2 := by decide
  unfold upto
  rw [m, e, nth_two]
  decide
theorem al6 : valid [-1, 20, 24] 25 5 = true := by unfold valid; rw [al5]; decide
theorem al7 : valid [-1, 20, 24] 26 5 = false := by unfold valid; rw [al5]; decide
theorem al8 : newer (7, 1) (7, 0) = true := by decide
/-! What tells, opened. -/
theorem open_new {P : Program} {F : Nat} {args : Array Value} {u : World} {t : Tk} {mk : Value → Value} (h : Calls P F args u (TellsNew u t mk)) : Calls P F args u fun e w' => ∃ ps cs c, e = .returned (mk (.agg #[.int .i64 t.gen, .int .i64 t.hop, .slice ps t.stamps.length cs, .int .i64 t.table.start, .slice none t.table.rows.length c])) ∧ Ints w' ps t.stamps ∧ (t.stamps = [] ∨ ∃ b o, ps = some ⟨b, o, none⟩ ∧ u.heap.size ≤ b) ∧ t.table.rows = [] ∧ Below u.heap.size u w' := h
theorem open_tok {P : Program} {F : Nat} {args : Array Value} {u : World} {t : Tk} {mk : Value → Value} (h : Calls P F args u (TellsTok u t mk)) : Calls P F args u fun e w' => ∃ ps cs p c, e = .returned (mk (.agg #[.int .i64 t.gen, .int .i64 t.hop, .slice ps t.stamps.length cs, .int .i64 t.table.start, .slice p t.table.rows.length c])) ∧ Ints w' ps t.stamps ∧ RowsAt w' p t.table.rows ∧ Below u.heap.size u w' := h
theorem ints_cell {w : World} {p : Option Addr} {l : List Int} (h : Ints w p l) {j : Nat} (hj : j < l.length) : ∃ b o, p = some ⟨b, o, none⟩ ∧ w.cell? ⟨b, o + j, none⟩ = some (.int .i64 (l.getD j 0)) := by
  rcases h with h | ⟨b, o, e, hc⟩
  · rw [h] at hj; simp at hj
  · exact ⟨b, o, e, hc j hj⟩
set_option maxRecDepth 100000 in
set_option maxHeartbeats 4000000 in
theorem alive_way (P : Way10) (w : World) : Calls Try.prog 11 #[] w (Asked w true) := by
  have nn : ∀ x : Int, -100 ≤ x ∧ x ≤ 100 → Num x := fun x h => by unfold Num; omega
  have c1 := fun u => open_new (P.fresh 7 3 1 20 u (nn _ (by omega)) (nn _ (by omega)) (nn _ (by omega)) (nn _ (by omega)))
  have c2 := fun u p c q k (h : Ints u p [-1, 20, -1]) => P.valid tk1 p c q k 20 5 u (by decide) (nn _ (by omega)) (nn _ (by omega)) h
  have c3 := fun u p c q k (h : Ints u p [-1, 20, -1]) => open_tok (P.stamp tk1 p c q k 2 24 u (by decide) (by decide) (fun r hr => by cases hr) (nn _ (by omega)) (nn _ (by omega)) h (.inl rfl))
  have c4 := fun u p c q k (h : Ints u p [-1, 20, 24]) => open_tok (P.pass tk2 p c q k u (by decide) (by decide) (fun r hr => by cases hr) (nn 0 (by omega)) h (.inl rfl))
  have c5 := fun u p c q k (h : Ints u p [-1, 20, 24]) => P.upto tk2 p c q k 5 u (by decide) (nn _ (by omega)) h
  have c6 := fun u p c q k (h : Ints u p [-1, 20, 24]) => P.valid tk2 p c q k 25 5 u (by decide) (nn _ (by omega)) (nn _ (by omega)) h
  have c7 := fun u p c q k (h : Ints u p [-1, 20, 24]) => P.valid tk2 p c q k 26 5 u (by decide) (nn _ (by omega)) (nn _ (by omega)) h
  have c8 := fun u p c q k => P.at_ tk3 p c q k u
  have c9 := fun u p c q k => P.at_ tk2 p c q k u
  have c10 := fun u => P.newer 7 1 7 0 u
  simp only [al1, al3, al4] at c1 c3 c4
  simp only [tokVal, tk1, tk2, tk3, al2, al5, al6, al7, al8, List.length_cons, List.length_nil, Nat.zero_add, Nat.reduceAdd] at c1 c2 c3 c4 c5 c6 c7 c8 c9 c10
  have M0 := Lib.hid (Mem.start w)
  clear P nn
  go_enter Try.func11, Try.ntmps11
  go_wp2_with (first
    | (go_at_call 6; (with_reducible refine (c1 _).mono ?_); rintro e u1 ⟨p1, c1', k1, rfl, hi, -, -, hb⟩; have M1 := Lib.hid ((M0.out.on hb).box #[.int .i64 7, .int .i64 0, .slice p1 3 c1', .int .i64 20, .slice none 0 k1] 29); have I1 := Lib.hid (hi.below ((Below.refl _ _).alloc (Nat.le_refl _) (.cells #[.int .i64 7, .int .i64 0, .slice p1 3 c1', .int .i64 20, .slice none 0 k1] 29))); obtain ⟨a0, a1, a2, a3, a4⟩ := box5 (M1.out.boxes 0 _ _ _ rfl); clear hi hb M0 c1)
    | (go_at_call 14; (with_reducible refine (c2 _ _ _ _ _ I1.out).mono ?_); rintro e u2 ⟨rfl, hb⟩; have M2 := Lib.hid (M1.out.on hb); have I2 := Lib.hid (I1.out.below hb); clear a0 a1 a2 a3 a4; obtain ⟨a0, a1, a2, a3, a4⟩ := box5 (M2.out.boxes 0 _ _ _ rfl); clear hb M1 I1 c2)
    | (go_at_call 26; (with_reducible refine (c3 _ _ _ _ _ I2.out).mono ?_); rintro e u3 ⟨p2, c2, r2, k2, rfl, hi, -, hb⟩; have M3 := Lib.hid ((M2.out.on hb).box #[.int .i64 7, .int .i64 0, .slice p2 3 c2, .int .i64 20, .slice r2 0 k2] 29); have I3 := Lib.hid ((I2.out.below hb).below ((Below.refl _ _).alloc (Nat.le_refl _) (.cells #[.int .i64 7, .int .i64 0, .slice p2 3 c2, .int .i64 20, .slice r2 0 k2] 29))); have J3 := Lib.hid (hi.below ((Below.refl _ _).alloc (Nat.le_refl _) (.cells #[.int .i64 7, .int .i64 0, .slice p2 3 c2, .int .i64 20, .slice r2 0 k2] 29))); clear a0 a1 a2 a3 a4; obtain ⟨a0, a1, a2, a3, a4⟩ := box5 (M3.out.boxes 0 _ _ _ rfl); clear hi hb M2 I2 c3)
    | (go_at_call 18; (with_reducible refine (c4 _ _ _ _ _ J3.out).mono ?_); rintro e u4 ⟨p3, c3, r3, k3, rfl, -, -, hb⟩; have M4 := Lib.hid ((M3.out.on hb).box #[.int .i64 7, .int .i64 1, .slice p3 3 c3, .int .i64 20, .slice r3 0 k3] 29); have I4 := Lib.hid ((I3.out.below hb).below ((Below.refl _ _).alloc (Nat.le_refl _) (.cells #[.int .i64 7, .int .i64 1, .slice p3 3 c3, .int .i64 20, .slice r3 0 k3] 29))); have J4 := Lib.hid ((J3.out.below hb).below ((Below.refl _ _).alloc (Nat.le_refl _) (.cells #[.int .i64 7, .int .i64 1, .slice p3 3 c3, .int .i64 20, .slice r3 0 k3] 29))); clear a0 a1 a2 a3 a4 hb M3 I3 J3 c4))
  obtain ⟨tb, to, rfl, x6⟩ := ints_cell I4.out (show 2 < 3 by omega)
  have x6 : (u4.alloc (.cells #[.int .i64 7, .int .i64 1, .slice p3 3 c3, .int .i64 20, .slice r3 0 k3] 29)).cell? ⟨tb, to + 2, none⟩ = some (.int .i64 (-1)) := x6
  obtain ⟨a0, a1, a2, a3, a4⟩ := box5 (M4.out.boxes 0 _ _ _ rfl)
  obtain ⟨b0, b1, b2, b3, b4⟩ := box5 (M4.out.boxes 1 _ _ _ rfl)
  obtain ⟨-, -, t2, t3, -⟩ := box5 (M4.out.boxes 2 _ _ _ rfl)
  have BD0 := Lib.hid ((Below.refl (u4.alloc (.cells #[.int .i64 7, .int .i64 1, .slice p3 3 c3, .int .i64 20, .slice r3 0 k3] 29)).heap.size (u4.alloc (.cells #[.int .i64 7, .int .i64 1, .slice p3 3 c3, .int .i64 20, .slice r3 0 k3] 29))).drew)
  go_region_held3 (fun u => u.cell? ⟨u4.heap.size, 0, none⟩ = some (.int .i64 7) ∧ u.cell? ⟨u4.heap.size, 1, none⟩ = some (.int .i64 1) ∧ u.cell? ⟨u4.heap.size, 2, none⟩ = some (.slice p3 3 c3) ∧ u.cell? ⟨u4.heap.size, 3, none⟩ = some (.int .i64 20) ∧ u.cell? ⟨u4.heap.size, 4, none⟩ = some (.slice r3 0 k3) ∧ u.cell? ⟨u3.heap.size, 0, none⟩ = some (.int .i64 7) ∧ u.cell? ⟨u3.heap.size, 1, none⟩ = some (.int .i64 0) ∧ u.cell? ⟨u3.heap.size, 2, none⟩ = some (.slice p2 3 c2) ∧ u.cell? ⟨u3.heap.size, 3, none⟩ = some (.int .i64 20) ∧ u.cell? ⟨u3.heap.size, 4, none⟩ = some (.slice r2 0 k2) ∧ u.cell? ⟨u1.heap.size, 2, none⟩ = some (.slice (some ⟨tb, to, none⟩) 3 c1') ∧ u.cell? ⟨u1.heap.size, 3, none⟩ = some (.int .i64 20) ∧ u.cell? ⟨tb, to + 2, none⟩ = some (.int .i64 (-1))) (first | assumption | exact SL.out | exact ⟨a0, a1, a2, a3, a4, b0, b1, b2, b3, b4, t2, t3, x6⟩) (first
    | (go_at_call 27; (with_reducible refine (c5 _ _ _ _ _ (J4.out.below BD0.out)).mono ?_); rintro e v1 ⟨rfl, hb⟩; have B1 := Lib.hid (BD0.out.trans (hb.mono BD0.out.size)); have N1 := Lib.hid (M4.out.on B1.out); have SL := Lib.hid (And.intro ((box5 (N1.out.boxes 0 _ _ _ rfl)).1) (And.intro ((box5 (N1.out.boxes 0 _ _ _ rfl)).2.1) (And.intro ((box5 (N1.out.boxes 0 _ _ _ rfl)).2.2.1) (And.intro ((box5 (N1.out.boxes 0 _ _ _ rfl)).2.2.2.1) (And.intro ((box5 (N1.out.boxes 0 _ _ _ rfl)).2.2.2.2) (And.intro ((box5 (N1.out.boxes 1 _ _ _ rfl)).1) (And.intro ((box5 (N1.out.boxes 1 _ _ _ rfl)).2.1) (And.intro ((box5 (N1.out.boxes 1 _ _ _ rfl)).2.2.1) (And.intro ((box5 (N1.out.boxes 1 _ _ _ rfl)).2.2.2.1) (And.intro ((box5 (N1.out.boxes 1 _ _ _ rfl)).2.2.2.2) (And.intro ((box5 (N1.out.boxes 2 _ _ _ rfl)).2.2.1) (And.intro ((box5 (N1.out.boxes 2 _ _ _ rfl)).2.2.2.1) (cell_on x6 B1.out))))))))))))); clear hb)
    | (go_at_call 14; (with_reducible refine (c6 _ _ _ _ _ (J4.out.below B1.out)).mono ?_); rintro e v2 ⟨rfl, hb⟩; have B2 := Lib.hid (B1.out.trans (hb.mono B1.out.size)); have N2 := Lib.hid (M4.out.on B2.out); have SL := Lib.hid (And.intro ((box5 (N2.out.boxes 0 _ _ _ rfl)).1) (And.intro ((box5 (N2.out.boxes 0 _ _ _ rfl)).2.1) (And.intro ((box5 (N2.out.boxes 0 _ _ _ rfl)).2.2.1) (And.intro ((box5 (N2.out.boxes 0 _ _ _ rfl)).2.2.2.1) (And.intro ((box5 (N2.out.boxes 0 _ _ _ rfl)).2.2.2.2) (And.intro ((box5 (N2.out.boxes 1 _ _ _ rfl)).1) (And.intro ((box5 (N2.out.boxes 1 _ _ _ rfl)).2.1) (And.intro ((box5 (N2.out.boxes 1 _ _ _ rfl)).2.2.1) (And.intro ((box5 (N2.out.boxes 1 _ _ _ rfl)).2.2.2.1) (And.intro ((box5 (N2.out.boxes 1 _ _ _ rfl)).2.2.2.2) (And.intro ((box5 (N2.out.boxes 2 _ _ _ rfl)).2.2.1) (And.intro ((box5 (N2.out.boxes 2 _ _ _ rfl)).2.2.2.1) (cell_on x6 B2.out))))))))))))); clear hb)
    | (go_at_call 14; (with_reducible refine (c7 _ _ _ _ _ (J4.out.below B2.out)).mono ?_); rintro e v3 ⟨rfl, hb⟩; have B3 := Lib.hid (B2.out.trans (hb.mono B2.out.size)); have N3 := Lib.hid (M4.out.on B3.out); have SL := Lib.hid (And.intro ((box5 (N3.out.boxes 0 _ _ _ rfl)).1) (And.intro ((box5 (N3.out.boxes 0 _ _ _ rfl)).2.1) (And.intro ((box5 (N3.out.boxes 0 _ _ _ rfl)).2.2.1) (And.intro ((box5 (N3.out.boxes 0 _ _ _ rfl)).2.2.2.1) (And.intro ((box5 (N3.out.boxes 0 _ _ _ rfl)).2.2.2.2) (And.intro ((box5 (N3.out.boxes 1 _ _ _ rfl)).1) (And.intro ((box5 (N3.out.boxes 1 _ _ _ rfl)).2.1) (And.intro ((box5 (N3.out.boxes 1 _ _ _ rfl)).2.2.1) (And.intro ((box5 (N3.out.boxes 1 _ _ _ rfl)).2.2.2.1) (And.intro ((box5 (N3.out.boxes 1 _ _ _ rfl)).2.2.2.2) (And.intro ((box5 (N3.out.boxes 2 _ _ _ rfl)).2.2.1) (And.intro ((box5 (N3.out.boxes 2 _ _ _ rfl)).2.2.2.1) (cell_on x6 B3.out))))))))))))); clear hb)
    | (go_at_call 19; (with_reducible refine (c8 _ _ _ _ _).mono ?_); rintro e v4 ⟨rfl, hb⟩; have B4 := Lib.hid (B3.out.trans (hb.mono B3.out.size)); have N4 := Lib.hid (M4.out.on B4.out); have SL := Lib.hid (And.intro ((box5 (N4.out.boxes 0 _ _ _ rfl)).1) (And.intro ((box5 (N4.out.boxes 0 _ _ _ rfl)).2.1) (And.intro ((box5 (N4.out.boxes 0 _ _ _ rfl)).2.2.1) (And.intro ((box5 (N4.out.boxes 0 _ _ _ rfl)).2.2.2.1) (And.intro ((box5 (N4.out.boxes 0 _ _ _ rfl)).2.2.2.2) (And.intro ((box5 (N4.out.boxes 1 _ _ _ rfl)).1) (And.intro ((box5 (N4.out.boxes 1 _ _ _ rfl)).2.1) (And.intro ((box5 (N4.out.boxes 1 _ _ _ rfl)).2.2.1) (And.intro ((box5 (N4.out.boxes 1 _ _ _ rfl)).2.2.2.1) (And.intro ((box5 (N4.out.boxes 1 _ _ _ rfl)).2.2.2.2) (And.intro ((box5 (N4.out.boxes 2 _ _ _ rfl)).2.2.1) (And.intro ((box5 (N4.out.boxes 2 _ _ _ rfl)).2.2.2.1) (cell_on x6 B4.out))))))))))))); clear hb)
    | (go_at_call 19; (with_reducible refine (c9 _ _ _ _ _).mono ?_); rintro e v5 ⟨rfl, hb⟩; have B5 := Lib.hid (B4.out.trans (hb.mono B4.out.size)); have N5 := Lib.hid (M4.out.on B5.out); have SL := Lib.hid (And.intro ((box5 (N5.out.boxes 0 _ _ _ rfl)).1) (And.intro ((box5 (N5.out.boxes 0 _ _ _ rfl)).2.1) (And.intro ((box5 (N5.out.boxes 0 _ _ _ rfl)).2.2.1) (And.intro ((box5 (N5.out.boxes 0 _ _ _ rfl)).2.2.2.1) (And.intro ((box5 (N5.out.boxes 0 _ _ _ rfl)).2.2.2.2) (And.intro ((box5 (N5.out.boxes 1 _ _ _ rfl)).1) (And.intro ((box5 (N5.out.boxes 1 _ _ _ rfl)).2.1) (And.intro ((box5 (N5.out.boxes 1 _ _ _ rfl)).2.2.1) (And.intro ((box5 (N5.out.boxes 1 _ _ _ rfl)).2.2.2.1) (And.intro ((box5 (N5.out.boxes 1 _ _ _ rfl)).2.2.2.2) (And.intro ((box5 (N5.out.boxes 2 _ _ _ rfl)).2.2.1) (And.intro ((box5 (N5.out.boxes 2 _ _ _ rfl)).2.2.2.1) (cell_on x6 B5.out))))))))))))); clear hb)
    | (go_at_call 9; (with_reducible refine (c10 _).mono ?_); rintro e v6 ⟨rfl, hb⟩; have B6 := Lib.hid (B5.out.trans (hb.mono B5.out.size)); have N6 := Lib.hid (M4.out.on B6.out); have SL := Lib.hid (And.intro ((box5 (N6.out.boxes 0 _ _ _ rfl)).1) (And.intro ((box5 (N6.out.boxes 0 _ _ _ rfl)).2.1) (And.intro ((box5 (N6.out.boxes 0 _ _ _ rfl)).2.2.1) (And.intro ((box5 (N6.out.boxes 0 _ _ _ rfl)).2.2.2.1) (And.intro ((box5 (N6.out.boxes 0 _ _ _ rfl)).2.2.2.2) (And.intro ((box5 (N6.out.boxes 1 _ _ _ rfl)).1) (And.intro ((box5 (N6.out.boxes 1 _ _ _ rfl)).2.1) (And.intro ((box5 (N6.out.boxes 1 _ _ _ rfl)).2.2.1) (And.intro ((box5 (N6.out.boxes 1 _ _ _ rfl)).2.2.2.1) (And.intro ((box5 (N6.out.boxes 1 _ _ _ rfl)).2.2.2.2) (And.intro ((box5 (N6.out.boxes 2 _ _ _ rfl)).2.2.1) (And.intro ((box5 (N6.out.boxes 2 _ _ _ rfl)).2.2.2.1) (cell_on x6 B6.out))))))))))))); clear hb))
  all_goals
    go_wp2
    go_ret
    exact ⟨rfl, N6.out.below⟩
end Go.Proofs.Ytagedggmfihhjaa.Token
