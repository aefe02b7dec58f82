/-
  TokenLine returns true, whatever the program's package token is, if its calls do what is asked of them.
-/
import Derived.Test.YtagedggmfihhjaaTokLine
import Derived.Laws.StructEq
namespace Go.Proofs.Ytagedggmfihhjaa.Token
open Go.RowKit
open _root_.Go.Proofs.Ytagedggmfihhjaa.Frame (Rw Tb Tk noRow LeasesAt RowAt RowsAt cell_on Asked tokenOk fitsTk)
open _root_.Go.Proofs.Ytagedggmfihhjaa.Codec (Ints lt_of_heap frozen_of heap_set)

theorem eq_place (x y x' y' : Int) (w : World) : (Op.equalIn 10000 36 (.agg #[.int .i64 x, .int .i64 y]) (.agg #[.int .i64 x', .int .i64 y'])).run Try.prog w = .ok (x == x' && y == y') w := by
  rw [run_equalIn_agg w 9999 _ _ _ (by kernel_rfl) (by kernel_rfl)]
  have e : ∀ (a b : Int) (w : World), (Op.equalIn 9999 3 (.int .i64 a) (.int .i64 b)).run Try.prog w = .ok (a == b) w := fun a b w => run_equalIn_int w 9998 _ _ _ a b Try.underlying3
  cases h : (x == x')
  · simp [Program.fieldsOf, Try.underlying36, Op.eqFields, part, isAgg, run_underlying Try.underlying3, e, h]
  · by_cases k : y = y'
    · simp [Program.fieldsOf, Try.underlying36, Op.eqFields, part, isAgg, run_underlying Try.underlying3, e, h, k]
    · simp [Program.fieldsOf, Try.underlying36, Op.eqFields, part, isAgg, run_underlying Try.underlying3, e, h, k]
theorem neq_place (x y x' y' : Int) (w : World) : (binOp .neq 36 (.agg #[.int .i64 x, .int .i64 y]) (.agg #[.int .i64 x', .int .i64 y'])).run Try.prog w = .ok (.bool (!(x == x' && y == y'))) w := by
  rw [run_neq_struct, eq_place]; rfl
theorem box6 {w : World} {b : Nat} {v0 v1 v2 v3 v4 v5 : Value} {T : TypeId} (h : w.heap[b]? = some (.cells #[v0, v1, v2, v3, v4, v5] T (0, 0))) : w.cell? ⟨b, 0, none⟩ = some v0 ∧ w.cell? ⟨b, 1, none⟩ = some v1 ∧ w.cell? ⟨b, 2, none⟩ = some v2 ∧ w.cell? ⟨b, 3, none⟩ = some v3 ∧ w.cell? ⟨b, 4, none⟩ = some v4 ∧ w.cell? ⟨b, 5, none⟩ = some v5 :=
  ⟨by rw [cell_of_row w b 0 _ _ (0, 0) h]; rfl, by rw [cell_of_row w b 1 _ _ (0, 0) h]; rfl, by rw [cell_of_row w b 2 _ _ (0, 0) h]; rfl, by rw [cell_of_row w b 3 _ _ (0, 0) h]; rfl, by rw [cell_of_row w b 4 _ _ (0, 0) h]; rfl, by rw [cell_of_row w b 5 _ _ (0, 0) h]; rfl⟩
set_option maxRecDepth 100000 in
set_option maxHeartbeats 8000000 in
theorem line_core (hal : ∀ w, Calls Try.prog 11 #[] w (Asked w true)) (x0 x1 y0 y1 z0 z1 tg th ts ug uh us E : Int) (ps p : Option Addr) (sn cs rn c un vn : Nat) (W : World) (ft a b cc d ne nw : Bool)
    (hf : ∀ u, Below W.heap.size W u → Calls Try.prog 17 #[.agg #[.int .i64 tg, .int .i64 th, .slice ps sn cs, .int .i64 ts, .slice p rn c]] u (Asked u ft))
    (hn1 : ∀ u, Calls Try.prog 9 #[.agg #[.int .i64 x0, .int .i64 x1], .agg #[.int .i64 y0, .int .i64 y1]] u (Asked u a))
    (hn2 : ∀ u, Calls Try.prog 9 #[.agg #[.int .i64 y0, .int .i64 y1], .agg #[.int .i64 x0, .int .i64 x1]] u (Asked u b))
    (hn3 : ∀ u, Calls Try.prog 9 #[.agg #[.int .i64 y0, .int .i64 y1], .agg #[.int .i64 z0, .int .i64 z1]] u (Asked u cc))
    (hn4 : ∀ u, Calls Try.prog 9 #[.agg #[.int .i64 x0, .int .i64 x1], .agg #[.int .i64 z0, .int .i64 z1]] u (Asked u d))
    (hp : ft = true → ∀ u, Below W.heap.size W u → Calls Try.prog 18 #[.agg #[.int .i64 tg, .int .i64 th, .slice ps sn cs, .int .i64 ts, .slice p rn c]] u fun e u' => ∃ q k r m, e = .returned (.tuple #[.agg #[.int .i64 ug, .int .i64 uh, .slice q un k, .int .i64 us, .slice r vn m], .int .i64 E]) ∧ Below u.heap.size u u')
    (ha1 : ∀ u q k r m, Calls Try.prog 19 #[.agg #[.int .i64 ug, .int .i64 uh, .slice q un k, .int .i64 us, .slice r vn m]] u fun e u' => e = .returned (.agg #[.int .i64 ug, .int .i64 uh]) ∧ Below u.heap.size u u')
    (ha2 : ∀ u, Calls Try.prog 19 #[.agg #[.int .i64 tg, .int .i64 th, .slice ps sn cs, .int .i64 ts, .slice p rn c]] u fun e u' => e = .returned (.agg #[.int .i64 tg, .int .i64 th]) ∧ Below u.heap.size u u')
    (hn5 : ∀ u, Calls Try.prog 9 #[.agg #[.int .i64 ug, .int .i64 uh], .agg #[.int .i64 tg, .int .i64 th]] u (Asked u nw))
    (hE : (E == 0) = false ∨ (E == 0) = true ∧ nw = true) (hne : ∀ w, (binOp .neq 36 (.agg #[.int .i64 x0, .int .i64 x1]) (.agg #[.int .i64 y0, .int .i64 y1])).run Try.prog w = .ok (.bool ne) w)
    (hl : (a = true ∧ b = false ∧ ne = true ∧ (cc = false ∨ cc = true ∧ d = true)) ∨ (a = false ∧ b = true ∧ ne = true) ∨ (a = false ∧ b = false ∧ ne = false)) :
    Calls Try.prog 5 #[.agg #[.int .i64 x0, .int .i64 x1, .int .i64 y0, .int .i64 y1, .int .i64 z0, .int .i64 z1], .agg #[.int .i64 tg, .int .i64 th, .slice ps sn cs, .int .i64 ts, .slice p rn c]] W (Asked W true) := by
  have M0 := Lib.hid (((Mem.start W).box #[.int .i64 x0, .int .i64 x1, .int .i64 y0, .int .i64 y1, .int .i64 z0, .int .i64 z1] 48).box #[.int .i64 tg, .int .i64 th, .slice ps sn cs, .int .i64 ts, .slice p rn c] 29)
  simp only [size_alloc] at M0
  obtain ⟨a0, a1, a2, a3, a4, a5⟩ := box6 (M0.out.boxes 1 _ _ _ rfl)
  obtain ⟨t0, t1, t2, t3, t4⟩ := box5 (M0.out.boxes 0 _ _ _ rfl)
  go_enter Try.func5, Try.ntmps5
  cases ft
  · go_wp2_with (first
      | (go_at_call 17; (with_reducible refine (hf _ M0.out.below).mono ?_); rintro e u1 ⟨rfl, hb⟩; have M1 := Lib.hid (M0.out.on hb); clear hb)
      | (go_at_call 11; (with_reducible refine (hal _).mono ?_); rintro e u2 ⟨rfl, hb⟩; have M2 := Lib.hid (M1.out.on hb); clear hb))
    go_ret
    exact ⟨rfl, M2.out.below⟩
  · have hp2 := hp rfl
    clear hp
    go_wp2_with (first
      | (go_at_call 17; (with_reducible refine (hf _ M0.out.below).mono ?_); rintro e u1 ⟨rfl, hb⟩; have M1 := Lib.hid (M0.out.on hb); clear hb M0 a0 a1 a2 a3 a4 a5 t0 t1 t2 t3 t4 hf; obtain ⟨a0, a1, a2, a3, a4, a5⟩ := box6 (M1.out.boxes 1 _ _ _ rfl))
      | (go_at_call 9; (with_reducible refine (hn1 _).mono ?_); rintro e u2 ⟨rfl, hb⟩; have M2 := Lib.hid (M1.out.on hb); clear hb M1 a0 a1 a2 a3 a4 a5 hn1; obtain ⟨a0, a1, a2, a3, a4, a5⟩ := box6 (M2.out.boxes 1 _ _ _ rfl))
      | (go_at_call 9; (with_reducible refine (hn2 _).mono ?_); rintro e u3 ⟨rfl, hb⟩; have M3 := Lib.hid (M2.out.on hb); clear hb M2 a0 a1 a2 a3 a4 a5 hn2; obtain ⟨a0, a1, a2, a3, a4, a5⟩ := box6 (M3.out.boxes 1 _ _ _ rfl))
      | (go_at_call 9; (with_reducible refine (hn3 _).mono ?_); rintro e u4 ⟨rfl, hb⟩; have M4 := Lib.hid (M3.out.on hb); clear hb M3 a0 a1 a2 a3 a4 a5 hn3; obtain ⟨a0, a1, a2, a3, a4, a5⟩ := box6 (M4.out.boxes 1 _ _ _ rfl))
      | (go_at_call 9; (with_reducible refine (hn4 _).mono ?_); rintro e u5 ⟨rfl, hb⟩; have M5 := Lib.hid (M4.out.on hb); clear hb M4 a0 a1 a2 a3 a4 a5 hn4; obtain ⟨t0, t1, t2, t3, t4⟩ := box5 (M5.out.boxes 0 _ _ _ rfl))
      | (go_at_call 18; (with_reducible refine (hp2 _ M5.out.below).mono ?_); rintro e u6 ⟨q, k, r, m, rfl, hb⟩; have M6 := Lib.hid ((M5.out.on hb).box #[.int .i64 ug, .int .i64 uh, .slice q un k, .int .i64 us, .slice r vn m] 29); clear hb M5 t0 t1 t2 t3 t4 hp2))
    rcases hE with hE | ⟨hE, rfl⟩
    · have MD := Lib.hid M6.out.drew
      go_region_with fail
      all_goals
        rcases hl with ⟨rfl, rfl, rfl, rfl | ⟨rfl, rfl⟩⟩ | ⟨rfl, rfl, rfl⟩ | ⟨rfl, rfl, rfl⟩
        all_goals
          go_wp2_with (go_at_call 11; (with_reducible refine (hal _).mono ?_); rintro e v9 ⟨rfl, hb⟩; have MT := Lib.hid (MD.out.on hb); clear hb; obtain ⟨a0, a1, a2, a3, a4, a5⟩ := box6 (MT.out.boxes 2 _ _ _ rfl))
          go_ret
          exact ⟨rfl, MT.out.below⟩
    · obtain ⟨b0, b1, b2, b3, b4⟩ := box5 (M6.out.boxes 0 _ _ _ rfl)
      obtain ⟨t0, t1, t2, t3, t4⟩ := box5 (M6.out.boxes 1 _ _ _ rfl)
      have MD := Lib.hid M6.out.drew
      go_region_held3 (fun v => v.cell? ⟨u6.heap.size, 0, none⟩ = some (.int .i64 ug) ∧ v.cell? ⟨u6.heap.size, 1, none⟩ = some (.int .i64 uh) ∧ v.cell? ⟨u6.heap.size, 2, none⟩ = some (.slice q un k) ∧ v.cell? ⟨u6.heap.size, 3, none⟩ = some (.int .i64 us) ∧ v.cell? ⟨u6.heap.size, 4, none⟩ = some (.slice r vn m) ∧ v.cell? ⟨W.heap.size + 1, 0, none⟩ = some (.int .i64 tg) ∧ v.cell? ⟨W.heap.size + 1, 1, none⟩ = some (.int .i64 th) ∧ v.cell? ⟨W.heap.size + 1, 2, none⟩ = some (.slice ps sn cs) ∧ v.cell? ⟨W.heap.size + 1, 3, none⟩ = some (.int .i64 ts) ∧ v.cell? ⟨W.heap.size + 1, 4, none⟩ = some (.slice p rn c)) (first | assumption | exact SL.out | exact ⟨b0, b1, b2, b3, b4, t0, t1, t2, t3, t4⟩) (first
        | (go_at_call 19; (with_reducible refine (ha1 _ _ _ _ _).mono ?_); rintro e v1 ⟨rfl, hb⟩; have M7 := Lib.hid (MD.out.on hb); have SL := Lib.hid (And.intro ((box5 (M7.out.boxes 0 _ _ _ rfl)).1) (And.intro ((box5 (M7.out.boxes 0 _ _ _ rfl)).2.1) (And.intro ((box5 (M7.out.boxes 0 _ _ _ rfl)).2.2.1) (And.intro ((box5 (M7.out.boxes 0 _ _ _ rfl)).2.2.2.1) (And.intro ((box5 (M7.out.boxes 0 _ _ _ rfl)).2.2.2.2) (And.intro ((box5 (M7.out.boxes 1 _ _ _ rfl)).1) (And.intro ((box5 (M7.out.boxes 1 _ _ _ rfl)).2.1) (And.intro ((box5 (M7.out.boxes 1 _ _ _ rfl)).2.2.1) (And.intro ((box5 (M7.out.boxes 1 _ _ _ rfl)).2.2.2.1) ((box5 (M7.out.boxes 1 _ _ _ rfl)).2.2.2.2)))))))))); clear hb)
        | (go_at_call 19; (with_reducible refine (ha2 _).mono ?_); rintro e v2 ⟨rfl, hb⟩; have M8 := Lib.hid (M7.out.on hb); have SL := Lib.hid (And.intro ((box5 (M8.out.boxes 0 _ _ _ rfl)).1) (And.intro ((box5 (M8.out.boxes 0 _ _ _ rfl)).2.1) (And.intro ((box5 (M8.out.boxes 0 _ _ _ rfl)).2.2.1) (And.intro ((box5 (M8.out.boxes 0 _ _ _ rfl)).2.2.2.1) (And.intro ((box5 (M8.out.boxes 0 _ _ _ rfl)).2.2.2.2) (And.intro ((box5 (M8.out.boxes 1 _ _ _ rfl)).1) (And.intro ((box5 (M8.out.boxes 1 _ _ _ rfl)).2.1) (And.intro ((box5 (M8.out.boxes 1 _ _ _ rfl)).2.2.1) (And.intro ((box5 (M8.out.boxes 1 _ _ _ rfl)).2.2.2.1) ((box5 (M8.out.boxes 1 _ _ _ rfl)).2.2.2.2)))))))))); clear hb)
        | (go_at_call 9; (with_reducible refine (hn5 _).mono ?_); rintro e v3 ⟨rfl, hb⟩; have M9 := Lib.hid (M8.out.on hb); have SL := Lib.hid (And.intro ((box5 (M9.out.boxes 0 _ _ _ rfl)).1) (And.intro ((box5 (M9.out.boxes 0 _ _ _ rfl)).2.1) (And.intro ((box5 (M9.out.boxes 0 _ _ _ rfl)).2.2.1) (And.intro ((box5 (M9.out.boxes 0 _ _ _ rfl)).2.2.2.1) (And.intro ((box5 (M9.out.boxes 0 _ _ _ rfl)).2.2.2.2) (And.intro ((box5 (M9.out.boxes 1 _ _ _ rfl)).1) (And.intro ((box5 (M9.out.boxes 1 _ _ _ rfl)).2.1) (And.intro ((box5 (M9.out.boxes 1 _ _ _ rfl)).2.2.1) (And.intro ((box5 (M9.out.boxes 1 _ _ _ rfl)).2.2.2.1) ((box5 (M9.out.boxes 1 _ _ _ rfl)).2.2.2.2)))))))))); clear hb))
      all_goals
        clear b0 b1 b2 b3 b4 t0 t1 t2 t3 t4
        rcases hl with ⟨rfl, rfl, rfl, rfl | ⟨rfl, rfl⟩⟩ | ⟨rfl, rfl, rfl⟩ | ⟨rfl, rfl, rfl⟩
        all_goals
          go_wp2_with (go_at_call 11; (with_reducible refine (hal _).mono ?_); rintro e v9 ⟨rfl, hb⟩; have MT := Lib.hid (M9.out.on hb); clear hb; obtain ⟨a0, a1, a2, a3, a4, a5⟩ := box6 (MT.out.boxes 2 _ _ _ rfl))
          go_ret
          exact ⟨rfl, MT.out.below⟩
/-- Of all arguments. -/
theorem line_way (P : Way10) (x0 x1 y0 y1 z0 z1 : Int) (t : Tk) (ps p : Option Addr) (cs c : Nat) (W : World) (hm : (t.stamps.length : Int) ≤ 9223372036854775807) (hn : (t.table.rows.length : Int) ≤ 9223372036854775807) (hi : Ints W ps t.stamps) (hr : RowsAt W p t.table.rows) (hh : Num t.hop) :
    Calls Try.prog 5 #[.agg #[.int .i64 x0, .int .i64 x1, .int .i64 y0, .int .i64 y1, .int .i64 z0, .int .i64 z1], tokVal t ps cs p c] W (Asked W true) := by
  refine line_core (alive_way P) x0 x1 y0 y1 z0 z1 t.gen t.hop t.table.start (passed t).1.gen (passed t).1.hop (passed t).1.table.start (passed t).2 ps p t.stamps.length cs t.table.rows.length c (passed t).1.stamps.length (passed t).1.table.rows.length W (fitsTk t) (newer (x0, x1) (y0, y1)) (newer (y0, y1) (x0, x1)) (newer (y0, y1) (z0, z1)) (newer (x0, x1) (z0, z1)) (!(x0 == y0 && x1 == y1)) (newer ((passed t).1.gen, (passed t).1.hop) (t.gen, t.hop))
    (fun u hu => Frame.fits_token t ps p cs c u hm hn (hr.below hu)) (fun u => P.newer _ _ _ _ u) (fun u => P.newer _ _ _ _ u) (fun u => P.newer _ _ _ _ u) (fun u => P.newer _ _ _ _ u) ?_ (fun u q k r m => P.at_ (passed t).1 q k r m u) (fun u => P.at_ t ps cs p c u) (fun u => P.newer _ _ _ _ u) ?_ (fun w => neq_place _ _ _ _ w) ?_
  · intro hf u hu
    simp only [fitsTk, Bool.and_eq_true, decide_eq_true_eq] at hf
    obtain ⟨⟨h1, h2⟩, h3⟩ := hf
    have h4 : ∀ r ∈ t.table.rows, r.out.length ≤ 100 := fun r hr => by
      obtain ⟨j, hj, e⟩ := List.mem_iff_getElem.1 hr
      rw [Frame.allTo, List.all_eq_true] at h3
      have h5 := of_decide_eq_true (h3 j (List.mem_range.2 hj))
      have e2 : t.table.rows.getD j noRow = r := by simp [List.getD, hj, e]
      rwa [e2] at h5
    exact (open_tok (P.pass t ps cs p c u h1 h2 h4 hh (hi.below hu) (hr.below hu))).mono fun _ _ ⟨q, k, r, m, e, _, _, hb⟩ => ⟨q, k, r, m, e, hb⟩
  · unfold passed
    split
    · exact .inl rfl
    · exact .inr ⟨rfl, by rw [newer_iff]; exact .inr ⟨rfl, by show t.hop < t.hop + 1; omega⟩⟩
  · have h1 := newer_one (x0, x1) (y0, y1)
    simp only at h1
    cases ha : newer (x0, x1) (y0, y1) with
    | true =>
      have hb := newer_no ha
      rw [ha, hb] at h1
      refine .inl ⟨rfl, hb, by rw [← h1]; rfl, ?_⟩
      cases hc : newer (y0, y1) (z0, z1) with
      | false => exact .inl rfl
      | true => exact .inr ⟨rfl, newer_trans ha hc⟩
    | false =>
      cases hb : newer (y0, y1) (x0, x1) with
      | true => rw [ha, hb] at h1; exact .inr (.inl ⟨rfl, rfl, by rw [← h1]; rfl⟩)
      | false => rw [ha, hb] at h1; exact .inr (.inr ⟨rfl, rfl, by rw [← h1]; rfl⟩)
end Go.Proofs.Ytagedggmfihhjaa.Token
