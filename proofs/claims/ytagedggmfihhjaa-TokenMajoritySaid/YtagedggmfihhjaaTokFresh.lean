/-
  The document's Fresh (annonaref10), of any numbers.
-/
import Derived.Test.YtagedggmfihhjaaTokWay
import Derived.Test.YtagedggmfihhjaaFrameToken
namespace Go.Proofs.Ytagedggmfihhjaa.Token
open Go.RowKit
open _root_.Go.Proofs.Ytagedggmfihhjaa.Frame (Rw Tb Tk noRow LeasesAt RowAt RowsAt cell_on Asked tokenOk)
open _root_.Go.Proofs.Ytagedggmfihhjaa.Codec (Ints lt_of_heap frozen_of heap_set)

theorem box5f {w : World} {b : Nat} {v0 v1 v2 v3 v4 : Value} {T : TypeId} (h : w.heap[b]? = some (.cells #[v0, v1, v2, v3, v4] T (0, 0))) : w.cell? ⟨b, 0, none⟩ = some v0 ∧ w.cell? ⟨b, 1, none⟩ = some v1 ∧ w.cell? ⟨b, 2, none⟩ = some v2 ∧ w.cell? ⟨b, 3, none⟩ = some v3 ∧ w.cell? ⟨b, 4, none⟩ = some v4 ∧ ∀ o, w.frozen? ⟨b, o, none⟩ = false := by
  obtain ⟨h0, h1, h2, h3, h4⟩ := box5 h
  exact ⟨h0, h1, h2, h3, h4, fun _ => frozen_of h⟩
/-- What lies while stamps are laid. -/
structure Fst (w : World) (gen now : Int) (v : Value) (l : List Int) (u : World) : Prop where
  own : OwnI w.heap.size u v l
  res : u.heap[w.heap.size]? = some (.cells #[.int .i64 0, .int .i64 0, .slice none 0 0, .int .i64 0, .slice none 0 0] 29 (0, 0))
  box : u.heap[w.heap.size + 1]? = some (.cells #[.int .i64 gen, .int .i64 0, v, .int .i64 now, .slice none 0 0] 29 (0, 0))
  below : Below w.heap.size w u
theorem Fst.on {w u u' : World} {gen now : Int} {v : Value} {l : List Int} (h : Fst w gen now v l u) (hb : Below u.heap.size u u') : Fst w gen now v l u' :=
  ⟨own_keep h.own fun b e => by obtain ⟨cur, hc⟩ := own_heap h.own e; exact hb.block b (lt_of_heap hc), (hb.block _ (lt_of_heap h.res)).trans h.res, (hb.block _ (lt_of_heap h.box)).trans h.box, h.below.trans (hb.mono h.below.size)⟩
theorem token_int : (29 : TypeId) ≠ 3 := by decide
/-- A stamp is appended, and kept. -/
theorem Fst.push {w u u' : World} {gen now : Int} {v v' : Value} {l l' : List Int} (h : Fst w gen now v l u) (ho : OwnI w.heap.size u' v' l') (hg : u.grownBy u' v.ownBlock) (ha : v'.ownBlock = v.ownBlock ∨ v'.ownBlock = some u.heap.size) :
    Fst w gen now v' l' (u'.setCell ⟨w.heap.size + 1, 2, none⟩ v') ∧ u'.cell? ⟨w.heap.size + 1, 2, none⟩ = some v ∧ u'.frozen? ⟨w.heap.size + 1, 2, none⟩ = false := by
  have hne : ∀ {g : Nat} {vs : Array Value}, u.heap[g]? = some (.cells vs 29 (0, 0)) → v.ownBlock ≠ some g := fun hv e => by
    obtain ⟨cur, hc⟩ := own_heap h.own e
    rw [hv] at hc
    simp only [Option.some.injEq, Obj.cells.injEq] at hc
    exact token_int hc.2.1
  have hk : ∀ {g : Nat} {vs : Array Value}, u.heap[g]? = some (.cells vs 29 (0, 0)) → u'.heap[g]? = some (.cells vs 29 (0, 0)) := fun {g vs} hv => (hg.block g (lt_of_heap hv) (fun e => hne hv e.symm)).trans hv
  have hb := hk h.box
  have h2 : (u'.setCell ⟨w.heap.size + 1, 2, none⟩ v').heap[w.heap.size + 1]? = some (.cells #[.int .i64 gen, .int .i64 0, v', .int .i64 now, .slice none 0 0] 29 (0, 0)) := by rw [heap_set _ 2 _ _ hb]; rfl
  have hbw : Below w.heap.size w u' := h.below.grown hg h.below.size (fun k e => (World.ownsRow.lt h.own k e).1)
  refine ⟨⟨own_keep ho fun b e => ?_, (Below.heap_setCell _ _ _ _ (by simp)).trans (hk h.res), h2, hbw.setCell (by simp) _⟩, (box5f hb).2.2.1, frozen_of hb⟩
  refine Below.heap_setCell _ _ _ _ ?_
  rintro rfl
  rcases ha with ha | ha
  · exact hne h.box (by rw [← ha]; exact e)
  · have := lt_of_heap h.box
    rw [ha] at e
    simp only [Option.some.injEq] at e
    omega

theorem own_ints {B : Nat} {u : World} {p : Option Addr} {n c : Nat} {l : List Int} (h : OwnI B u (.slice p n c) l) : Ints u p l := by
  obtain ⟨p', c', e, hc⟩ := OwnI.ints h
  simp only [Value.slice.injEq] at e
  obtain ⟨rfl, -, -⟩ := e
  by_cases h0 : l = []
  · exact .inl h0
  · obtain ⟨b, o, e, -⟩ := hc 0 (List.length_pos_iff.2 h0)
    refine .inr ⟨b, o, e, fun k hk => ?_⟩
    obtain ⟨b', o', e', hcell⟩ := hc k hk
    rw [e] at e'
    simp only [Option.some.injEq, Addr.mk.injEq, and_true] at e'
    obtain ⟨rfl, rfl⟩ := e'
    exact hcell
/-- The result is set. -/
theorem Fst.out {w u : World} {gen now : Int} {v : Value} {l : List Int} (h : Fst w gen now v l u) (y0 y1 y2 y3 y4 : Value) : OwnI w.heap.size (((((u.setCell ⟨w.heap.size, 0, none⟩ y0).setCell ⟨w.heap.size, 1, none⟩ y1).setCell ⟨w.heap.size, 2, none⟩ y2).setCell ⟨w.heap.size, 3, none⟩ y3).setCell ⟨w.heap.size, 4, none⟩ y4) v l ∧ Below w.heap.size w (((((u.setCell ⟨w.heap.size, 0, none⟩ y0).setCell ⟨w.heap.size, 1, none⟩ y1).setCell ⟨w.heap.size, 2, none⟩ y2).setCell ⟨w.heap.size, 3, none⟩ y3).setCell ⟨w.heap.size, 4, none⟩ y4) := by
  refine ⟨own_keep h.own fun b e => ?_, ((((h.below.setCell (Nat.le_refl _) _).setCell (Nat.le_refl _) _).setCell (Nat.le_refl _) _).setCell (Nat.le_refl _) _).setCell (Nat.le_refl _) _⟩
  have hne : b ≠ w.heap.size := by
    rintro rfl
    obtain ⟨cur, hc⟩ := own_heap h.own e
    rw [h.res] at hc
    simp only [Option.some.injEq, Obj.cells.injEq] at hc
    exact token_int hc.2.1
  exact (Below.heap_setCell _ _ _ _ hne).trans ((Below.heap_setCell _ _ _ _ hne).trans ((Below.heap_setCell _ _ _ _ hne).trans ((Below.heap_setCell _ _ _ _ hne).trans (Below.heap_setCell _ _ _ _ hne))))

set_option maxRecDepth 100000 in
set_option maxHeartbeats 4000000 in
theorem fresh_out (gen n node now : Int) (w : World) (h : n < 1 ∨ 1 ≤ n ∧ (64 < n ∨ n ≤ 64 ∧ (node < 0 ∨ 0 ≤ node ∧ n ≤ node))) :
    Calls Try.prog 7 #[.int .i64 gen, .int .i64 n, .int .i64 node, .int .i64 now] w (TellsNew w noTk (fun v => .tuple #[v, .int .i64 1])) := by
  have M0 := Lib.hid ((Mem.start w).box #[.int .i64 0, .int .i64 0, .slice none 0 0, .int .i64 0, .slice none 0 0] 29)
  obtain ⟨d0, d1, d2, d3, d4⟩ := box5 (M0.out.boxes 0 _ _ _ rfl)
  rcases h with h1 | ⟨h1, h2 | ⟨h2, h3 | ⟨h3, h4⟩⟩⟩
  all_goals
    go_enter Try.func7, Try.ntmps7
    go_wp2
    refine bodyPost_ret (v := .tuple #[.agg #[.int .i64 0, .int .i64 0, .slice none 0 0, .int .i64 0, .slice none 0 0], .int .i64 1]) (by simp [results, Try.results7, go_sem, d0, d1, d2, d3, d4]) rfl ?_
    exact ⟨none, 0, 0, rfl, .inl rfl, .inl rfl, rfl, M0.out.below⟩
theorem firsts_succ (j : Nat) (node now : Int) : firsts (j + 1) node now = firsts j node now ++ [if (j : Int) = node then now else -1] := by simp [firsts, List.range_succ]
theorem firsts_len (j : Nat) (node now : Int) : (firsts j node now).length = j := by simp [firsts]
set_option maxRecDepth 100000 in
set_option maxHeartbeats 4000000 in
theorem fresh_in (gen n node now : Int) (m : Nat) (w : World) (hm : n = (m : Int)) (h1 : 1 ≤ n) (h2 : n ≤ 64) (h3 : 0 ≤ node) (h4 : node < n) (ok R : Bool) (hR : R = (ok && decide (0 ≤ now)))
    (ht : ∀ (u : World) (p : Option Addr) (c : Nat), Ints u p (firsts m node now) → Calls Try.prog 22 #[.agg #[.int .i64 gen, .int .i64 0, .slice p m c, .int .i64 now, .slice none 0 0]] u (Asked u ok)) :
    Calls Try.prog 7 #[.int .i64 gen, .int .i64 n, .int .i64 node, .int .i64 now] w (TellsNew w (if R then freshTk gen m node now else noTk) (fun v => .tuple #[v, .int .i64 (if R then 0 else 1)])) := by
  have F0 := Lib.hid (show Fst w gen now (.slice none 0 0) (firsts 0 node now) ((w.alloc (.cells #[.int .i64 0, .int .i64 0, .slice none 0 0, .int .i64 0, .slice none 0 0] 29)).alloc (.cells #[.int .i64 gen, .int .i64 0, .slice none 0 0, .int .i64 now, .slice none 0 0] 29)) from by
    have M := ((Mem.start w).box #[.int .i64 0, .int .i64 0, .slice none 0 0, .int .i64 0, .slice none 0 0] 29).box #[.int .i64 gen, .int .i64 0, .slice none 0 0, .int .i64 now, .slice none 0 0] 29
    simp only [size_alloc] at M
    exact ⟨World.ownsRow_nil _ _ _ _, M.boxes 1 _ _ _ rfl, M.boxes 0 _ _ _ rfl, M.below⟩)
  have HR := Lib.hid hR
  clear hR
  go_enter Try.func7, Try.ntmps7
  go_wp2
  go_loopw [11] (fun i wr => ∃ (j : Nat) (p : Option Addr) (c : Nat), j ≤ m ∧ i = .int .i64 (j : Int) ∧ Hid (Fst w gen now (.slice p j c) (firsts j node now) wr)) (fun i _ => m - (intOf i).toNat)
  case atStart => exact ⟨0, none, 0, by omega, rfl, F0⟩
  case round =>
    obtain ⟨j, p, c, hj, rfl, hF⟩ := hrel
    clear F0
    have hlen := firsts_len j node now
    by_cases hlt : j < m
    · have hs := Lib.hid (firsts_succ j node now)
      have FA := Lib.hid (fun (x : Int) => hF.out.on ((Below.refl _ _).alloc (Nat.le_refl _) (.cells #[.int .i64 x] 3)))
      obtain ⟨b0, b1, b2, b3, b4, ff⟩ := box5f hF.out.box
      have f2 := ff 2
      have hlt' : (j : Int) < n := by omega
      generalize firsts j node now = L at *
      clear ff
      by_cases he : (j : Int) = node
      · have hs2 := Lib.hid (hs.out.trans (by rw [if_pos he]))
        have he' : ((j : Int) == node) = true := beq_iff_eq.2 he
        clear he hs
        go_wp2_with (at_builtin; refine push_int rfl (.tmp 42) (.tmp 44) rfl w.heap.size (.slice p j c) rfl L j hlen (FA.out (now)).own (FA.out (now)).below.size _ (now) rfl (heap_alloc_new _ _) (by omega) ?_; intro q1 d1 w4 R4 G4 A4; obtain ⟨hf, c2, f2⟩ := (FA.out (now)).push R4.out G4 A4; have F4 := Lib.hid hf; clear hf R4 G4 A4 FA b0 b1 b2 b3 b4)
        go_roundw
        case rel => exact ⟨j + 1, q1, d1, by omega, by go_num, by rw [hs2.out]; exact F4⟩
        case measure => simp [intOf]; omega
      · have hs2 := Lib.hid (hs.out.trans (by rw [if_neg he]))
        have he' : ((j : Int) == node) = false := beq_eq_false_iff_ne.2 he
        clear he hs
        go_wp2_with (at_builtin; refine push_int rfl (.tmp 48) (.tmp 49) rfl w.heap.size (.slice p j c) rfl L j hlen (FA.out (-1)).own (FA.out (-1)).below.size _ (-1) rfl (heap_alloc_new _ _) (by omega) ?_; intro q1 d1 w4 R4 G4 A4; obtain ⟨hf, c2, f2⟩ := (FA.out (-1)).push R4.out G4 A4; have F4 := Lib.hid hf; clear hf R4 G4 A4 FA b0 b1 b2 b3 b4)
        go_roundw
        case rel => exact ⟨j + 1, q1, d1, by omega, by go_num, by rw [hs2.out]; exact F4⟩
        case measure => simp [intOf]; omega
    · obtain rfl : j = m := by omega
      have hi : Ints wr p (firsts j node now) := own_ints hF.out.own
      have hnew : firsts j node now = [] ∨ ∃ b o, p = some ⟨b, o, none⟩ ∧ w.heap.size ≤ b := by
        rcases hF.out.own.2 with ⟨_, h0⟩ | ⟨g, cap, cur, e, h1, -⟩
        · exact .inl (List.eq_nil_of_length_eq_zero (by omega))
        · simp only [Value.slice.injEq] at e
          exact .inr ⟨g, 0, e.1, h1⟩
      have HI := Lib.hid hi
      have HN := Lib.hid hnew
      obtain ⟨b0, b1, b2, b3, b4, -⟩ := box5f hF.out.box
      have hcase : (ok = false ∧ R = false) ∨ (ok = true ∧ now < 0 ∧ R = false) ∨ (ok = true ∧ 0 ≤ now ∧ R = true) := by
        rw [HR.out]
        cases ok <;> by_cases h0 : 0 ≤ now <;> simp [h0] <;> omega
      have HL := Lib.hid hlen
      clear hi hnew hlen
      rcases hcase with ⟨rfl, rfl⟩ | ⟨rfl, hn0, rfl⟩ | ⟨rfl, hn0, rfl⟩
      all_goals
        go_wp2_with (go_at_call 22; (with_reducible refine (ht _ _ _ HI.out).mono ?_); rintro e u4 ⟨rfl, hb⟩; have F4 := Lib.hid (hF.out.on hb); have HI2 := Lib.hid (HI.out.below hb); clear hb b0 b1 b2 b3 b4; obtain ⟨b0, b1, b2, b3, b4, -⟩ := box5f F4.out.box; obtain ⟨d0, d1, d2, d3, d4, ff⟩ := box5f F4.out.res; have g0 := ff 0; have g1 := ff 1; have g2 := ff 2; have g3 := ff 3; have g4 := ff 4; clear ff)
      · refine bodyPost_ret (v := .tuple #[.agg #[.int .i64 0, .int .i64 0, .slice none 0 0, .int .i64 0, .slice none 0 0], .int .i64 1]) (by simp [results, Try.results7, go_sem, d0, d1, d2, d3, d4]) rfl ?_
        exact ⟨none, 0, 0, rfl, .inl rfl, .inl rfl, rfl, (F4.out.out _ _ _ _ _).2⟩
      · refine bodyPost_ret (v := .tuple #[.agg #[.int .i64 0, .int .i64 0, .slice none 0 0, .int .i64 0, .slice none 0 0], .int .i64 1]) (by simp [results, Try.results7, go_sem, d0, d1, d2, d3, d4]) rfl ?_
        exact ⟨none, 0, 0, rfl, .inl rfl, .inl rfl, rfl, (F4.out.out _ _ _ _ _).2⟩
      · refine bodyPost_ret (v := .tuple #[.agg #[.int .i64 gen, .int .i64 0, .slice p j c, .int .i64 now, .slice none 0 0], .int .i64 0]) (by simp [results, Try.results7, go_sem, d0, d1, d2, d3, d4]) rfl ?_
        obtain ⟨k1, k2⟩ := F4.out.out (.int .i64 gen) (.int .i64 0) (.slice p j c) (.int .i64 now) (.slice none 0 0)
        exact ⟨p, c, 0, by simp only [tokVal, freshTk, HL.out]; rfl, own_ints k1, HN.out, rfl, k2⟩
theorem rfresh_any (gen n node now : Int) (w : World) : Calls Try.prog 7 #[.int .i64 gen, .int .i64 n, .int .i64 node, .int .i64 now] w (TellsNew w (fresh gen n node now).1 (fun v => .tuple #[v, .int .i64 (fresh gen n node now).2])) := by
  by_cases h : n < 1 ∨ 64 < n ∨ node < 0 ∨ n ≤ node
  · have e : fresh gen n node now = (noTk, 1) := by unfold fresh; rw [if_pos h]
    rw [e]
    exact fresh_out gen n node now w (by omega)
  · have hm : n = ((n.toNat : Nat) : Int) := by omega
    have ht := fun (u : World) (p : Option Addr) (c : Nat) (hi : Ints u p (firsts n.toNat node now)) => Frame.token_any (freshTk gen n.toNat node now) p none c 0 u (by simp only [freshTk, firsts_len]; omega) hi (.inl rfl) (fun r hr => by cases hr)
    have e : fresh gen n node now = (if (tokenOk (freshTk gen n.toNat node now) && decide (0 ≤ now)) = true then freshTk gen n.toNat node now else noTk, if (tokenOk (freshTk gen n.toNat node now) && decide (0 ≤ now)) = true then 0 else 1) := by
      unfold fresh
      rw [if_neg h]
      by_cases h1 : tokenOk (freshTk gen n.toNat node now) = true <;> by_cases h2 : 0 ≤ now <;> simp [h1, h2]
    rw [e]
    refine fresh_in gen n node now n.toNat w hm (by omega) (by omega) (by omega) (by omega) _ _ rfl fun u p c hi => ?_
    have := ht u p c hi
    simp only [freshTk, firsts_len] at this
    exact this
end Go.Proofs.Ytagedggmfihhjaa.Token
