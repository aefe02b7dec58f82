/-
  slices.Clone at ints, leases and rows, and the program's Clone: each returns a new one with the same; of what lay when the call began nothing has turned; at most 1000 of each.
-/
import Derived.Test.YtkdjhphakopfeaaFrmLie
import Derived.WalkSpells
import Derived.Laws.OwnMore
namespace Go.Proofs.Ytkdjhphakopfeaa.Frame
open Go.RowKit Codec

/-- A new row: what a call tells that makes one. -/
def MadeRow (E : TypeId) (size : Nat) (w : World) (n : Nat) (xs : List Value) (e : Ending) (w' : World) : Prop :=
  ∃ v, e = .returned v ∧ w'.ownsRow w.heap.size E size v n xs ∧ Below w.heap.size w w'

theorem info_ints : (Try.prog.info? 3).map (fun i => (i.zero, i.size, i.bytes)) = some (some (.int .i64 0), 1, 8) := by kernel_rfl
theorem eq_nil_ints (w : World) (a : Option Addr) (n c n' c' : Nat) : (binOp .eql 34 (.slice a n c) (.slice none n' c')).run Try.prog w = .ok (.bool a.isNone) w := Lib.run_eql_slice_nil w _ _ a n c n' c' Try.underlying34
set_option maxRecDepth 100000 in
theorem clone_nil_ints (n c : Nat) (w : World) : Calls Try.prog 47 #[.slice none n c] w fun e w' => e = .returned (.slice none 0 0) ∧ w = w' := by
  have hq := fun (w : World) a n c n' c' => eq_nil_ints w a n c n' c'
  go_enter Try.func47, Try.ntmps47
  go_wp2
  go_ret
  exact ⟨rfl, rfl⟩
set_option maxRecDepth 100000 in
theorem clone_some_ints (a : Addr) (n c : Nat) (xs : List Value) (w : World) (hn : n ≤ 1000) (hx : xs.length = n * 1) (hc : ∀ j u, xs[j]? = some u → w.cell? (a.add j) = some u) (h1 : ∀ u ∈ xs, u.oneCell' = true) :
    Calls Try.prog 47 #[.slice (some a) n c] w (MadeRow 3 1 w n xs) := by
  obtain ⟨i0, hi, hz0, hz1, hz2⟩ := info_parts info_ints
  have hb : Below w.heap.size w (w.alloc (.cells #[] 3)) := (Below.refl _ _).alloc (Nat.le_refl _) _
  have HC := Lib.hid (show ∀ j u, xs[j]? = some u → (w.alloc (.cells #[] 3)).cell? (a.add j) = some u from fun j u h => (hb.cell (World.block_lt_of_cell? _ _ (hc j u h))).trans (hc j u h))
  have H1 := Lib.hid h1
  have HX := Lib.hid hx
  clear hc h1 hx
  have hown : (w.alloc (.cells #[] 3)).ownsRow w.heap.size 3 1 (.slice (some ⟨w.heap.size, 0, none⟩) 0 0) 0 [] := World.ownsRow_made w #[] 0 (Nat.le_refl _) (Nat.zero_le _) rfl
  have hq := fun (w : World) a n c n' c' => eq_nil_ints w a n c n' c'
  go_enter Try.func47, Try.ntmps47
  go_wp2_with (at_builtin; refine wpList_append_own _ rfl (.tmp 5) (.tmp 6) 34 rfl w.heap.size 3 i0 (.int .i64 0) 1 8 Try.underlying34 hi hz0 hz1 hz2 rfl (by decide) _ _ _ rfl hown a n c xs rfl HX.out HC.out H1.out (by unfold maxLen; omega) (by omega) (by simp) ?_)
  intro v w1 ho hg _
  have hb1 := hb.grown hg (by simp) (fun k hk => by simp [Value.ownBlock] at hk; omega)
  have HO := Lib.hid ho
  clear hg hown HC ho
  go_wp2
  go_ret
  exact ⟨v, rfl, HO.out, hb1⟩

theorem info_leases : (Try.prog.info? 97).map (fun i => (i.zero, i.size, i.bytes)) = some (some (.agg #[.int .i64 0, .int .i64 0]), 2, 16) := by kernel_rfl
theorem eq_nil_leases (w : World) (a : Option Addr) (n c n' c' : Nat) : (binOp .eql 87 (.slice a n c) (.slice none n' c')).run Try.prog w = .ok (.bool a.isNone) w := Lib.run_eql_slice_nil w _ _ a n c n' c' Try.underlying87
set_option maxRecDepth 100000 in
theorem clone_nil_leases (n c : Nat) (w : World) : Calls Try.prog 49 #[.slice none n c] w fun e w' => e = .returned (.slice none 0 0) ∧ w = w' := by
  have hq := fun (w : World) a n c n' c' => eq_nil_leases w a n c n' c'
  go_enter Try.func49, Try.ntmps49
  go_wp2
  go_ret
  exact ⟨rfl, rfl⟩
set_option maxRecDepth 100000 in
theorem clone_some_leases (a : Addr) (n c : Nat) (xs : List Value) (w : World) (hn : n ≤ 1000) (hx : xs.length = n * 2) (hc : ∀ j u, xs[j]? = some u → w.cell? (a.add j) = some u) (h1 : ∀ u ∈ xs, u.oneCell' = true) :
    Calls Try.prog 49 #[.slice (some a) n c] w (MadeRow 97 2 w n xs) := by
  obtain ⟨i0, hi, hz0, hz1, hz2⟩ := info_parts info_leases
  have hb : Below w.heap.size w (w.alloc (.cells #[] 97)) := (Below.refl _ _).alloc (Nat.le_refl _) _
  have HC := Lib.hid (show ∀ j u, xs[j]? = some u → (w.alloc (.cells #[] 97)).cell? (a.add j) = some u from fun j u h => (hb.cell (World.block_lt_of_cell? _ _ (hc j u h))).trans (hc j u h))
  have H1 := Lib.hid h1
  have HX := Lib.hid hx
  clear hc h1 hx
  have hown : (w.alloc (.cells #[] 97)).ownsRow w.heap.size 97 2 (.slice (some ⟨w.heap.size, 0, none⟩) 0 0) 0 [] := World.ownsRow_made w #[] 0 (Nat.le_refl _) (Nat.zero_le _) rfl
  have hq := fun (w : World) a n c n' c' => eq_nil_leases w a n c n' c'
  go_enter Try.func49, Try.ntmps49
  go_wp2_with (at_builtin; refine wpList_append_own _ rfl (.tmp 5) (.tmp 6) 87 rfl w.heap.size 97 i0 (.agg #[.int .i64 0, .int .i64 0]) 2 16 Try.underlying87 hi hz0 hz1 hz2 rfl (by decide) _ _ _ rfl hown a n c xs rfl HX.out HC.out H1.out (by unfold maxLen; omega) (by omega) (by simp) ?_)
  intro v w1 ho hg _
  have hb1 := hb.grown hg (by simp) (fun k hk => by simp [Value.ownBlock] at hk; omega)
  have HO := Lib.hid ho
  clear hg hown HC ho
  go_wp2
  go_ret
  exact ⟨v, rfl, HO.out, hb1⟩

theorem info_rows : (Try.prog.info? 89).map (fun i => (i.zero, i.size, i.bytes)) = some (some (.agg #[.int .i64 0, .int .i64 0, .int .i64 0, .slice none 0 0]), 4, 48) := by kernel_rfl
theorem eq_nil_rows (w : World) (a : Option Addr) (n c n' c' : Nat) : (binOp .eql 35 (.slice a n c) (.slice none n' c')).run Try.prog w = .ok (.bool a.isNone) w := Lib.run_eql_slice_nil w _ _ a n c n' c' Try.underlying35
set_option maxRecDepth 100000 in
theorem clone_nil_rows (n c : Nat) (w : World) : Calls Try.prog 48 #[.slice none n c] w fun e w' => e = .returned (.slice none 0 0) ∧ w = w' := by
  have hq := fun (w : World) a n c n' c' => eq_nil_rows w a n c n' c'
  go_enter Try.func48, Try.ntmps48
  go_wp2
  go_ret
  exact ⟨rfl, rfl⟩
set_option maxRecDepth 100000 in
theorem clone_some_rows (a : Addr) (n c : Nat) (xs : List Value) (w : World) (hn : n ≤ 1000) (hx : xs.length = n * 4) (hc : ∀ j u, xs[j]? = some u → w.cell? (a.add j) = some u) (h1 : ∀ u ∈ xs, u.oneCell' = true) :
    Calls Try.prog 48 #[.slice (some a) n c] w (MadeRow 89 4 w n xs) := by
  obtain ⟨i0, hi, hz0, hz1, hz2⟩ := info_parts info_rows
  have hb : Below w.heap.size w (w.alloc (.cells #[] 89)) := (Below.refl _ _).alloc (Nat.le_refl _) _
  have HC := Lib.hid (show ∀ j u, xs[j]? = some u → (w.alloc (.cells #[] 89)).cell? (a.add j) = some u from fun j u h => (hb.cell (World.block_lt_of_cell? _ _ (hc j u h))).trans (hc j u h))
  have H1 := Lib.hid h1
  have HX := Lib.hid hx
  clear hc h1 hx
  have hown : (w.alloc (.cells #[] 89)).ownsRow w.heap.size 89 4 (.slice (some ⟨w.heap.size, 0, none⟩) 0 0) 0 [] := World.ownsRow_made w #[] 0 (Nat.le_refl _) (Nat.zero_le _) rfl
  have hq := fun (w : World) a n c n' c' => eq_nil_rows w a n c n' c'
  go_enter Try.func48, Try.ntmps48
  go_wp2_with (at_builtin; refine wpList_append_own _ rfl (.tmp 5) (.tmp 6) 35 rfl w.heap.size 89 i0 (.agg #[.int .i64 0, .int .i64 0, .int .i64 0, .slice none 0 0]) 4 48 Try.underlying35 hi hz0 hz1 hz2 rfl (by decide) _ _ _ rfl hown a n c xs rfl HX.out HC.out H1.out (by unfold maxLen; omega) (by omega) (by simp) ?_)
  intro v w1 ho hg _
  have hb1 := hb.grown hg (by simp) (fun k hk => by simp [Value.ownBlock] at hk; omega)
  have HO := Lib.hid ho
  clear hg hown HC ho
  go_wp2
  go_ret
  exact ⟨v, rfl, HO.out, hb1⟩

/-- What is owned, its cells. -/
theorem own_at {w : World} {B n size : Nat} {E : TypeId} {v : Value} {xs : List Value} (h : w.ownsRow B E size v n xs) (hn : 0 < n) :
    ∃ g c, v = .slice (some ⟨g, 0, none⟩) n c ∧ B ≤ g ∧ (∃ cs z, w.heap[g]? = some (.cells cs E z)) ∧ (∀ o, w.frozen? ⟨g, o, none⟩ = false) ∧ ∀ j u, xs[j]? = some u → w.cell? ⟨g, j, none⟩ = some u := by
  rcases h.2 with ⟨_, h0⟩ | ⟨g, cap, cur, rfl, h1, h2, h3, h4, h5, h6⟩
  · omega
  · refine ⟨g, cap, rfl, h1, ⟨cur, _, h2⟩, fun o => frozen_of h2, fun j u hu => ?_⟩
    have := h.cells (g := g) rfl j u hu
    rwa [add_at, Nat.zero_add] at this
theorem own_slice {w : World} {B n size : Nat} {E : TypeId} {v : Value} {xs : List Value} (h : w.ownsRow B E size v n xs) : ∃ p c, v = .slice p n c := by
  rcases h.2 with ⟨rfl, rfl⟩ | ⟨g, cap, cur, rfl, _⟩
  · exact ⟨none, 0, rfl⟩
  · exact ⟨_, cap, rfl⟩

theorem own_at2 {w : World} {B n size : Nat} {E : TypeId} {v : Value} {xs : List Value} (h : w.ownsRow B E size v n xs) (hn : 0 < n) :
    ∃ g c, v = .slice (some ⟨g, 0, none⟩) n c ∧ B ≤ g ∧ (∃ cs, w.heap[g]? = some (.cells cs E (0, 0))) ∧ ∀ j u, xs[j]? = some u → w.cell? ⟨g, j, none⟩ = some u := by
  rcases h.2 with ⟨_, h0⟩ | ⟨g, cap, cur, rfl, h1, h2, h3, h4, h5, h6⟩
  · omega
  · refine ⟨g, cap, rfl, h1, ⟨cur, h2⟩, fun j u hu => ?_⟩
    have := h.cells (g := g) rfl j u hu
    rwa [add_at, Nat.zero_add] at this
/-- Ints in a block of their own, behind B. -/
def OwnS (B : Nat) (w : World) (p : Option Addr) (l : List Int) : Prop := l = [] ∨ ∃ g cs, p = some ⟨g, 0, none⟩ ∧ B ≤ g ∧ w.heap[g]? = some (.cells cs 3 (0, 0)) ∧ ∀ j, j < l.length → w.cell? ⟨g, j, none⟩ = some (.int .i64 (l.getD j 0))
theorem OwnS.ints {B : Nat} {w : World} {p : Option Addr} {l : List Int} (h : OwnS B w p l) : Ints w p l := by
  rcases h with h | ⟨g, cs, h, _, _, hc⟩
  · exact .inl h
  · exact .inr ⟨g, 0, h, fun j hj => by rw [Nat.zero_add]; exact hc j hj⟩
theorem OwnS.lower {B B' : Nat} {w : World} {p : Option Addr} {l : List Int} (h : OwnS B w p l) (hB : B' ≤ B) : OwnS B' w p l := by
  rcases h with h | ⟨g, cs, h, hg, h2, hc⟩
  · exact .inl h
  · exact .inr ⟨g, cs, h, Nat.le_trans hB hg, h2, hc⟩
theorem OwnS.keep {B B' : Nat} {w w' : World} {p : Option Addr} {l : List Int} (h : OwnS B w p l) (k : Kp B' 3 w w') : OwnS B w' p l := by
  rcases h with h | ⟨g, cs, h, hg, h2, hc⟩
  · exact .inl h
  · exact .inr ⟨g, cs, h, hg, k.2.2 g cs _ h2, fun j hj => ((show Lies2 B' 3 w g from .inr ⟨cs, _, h2⟩).cell k).trans (hc j hj)⟩
/-- A new list of ints. -/
def NewInts (w : World) (l : List Int) (e : Ending) (w' : World) : Prop := ∃ p c, e = .returned (.slice p l.length c) ∧ OwnS w.heap.size w' p l ∧ Below w.heap.size w w'
theorem clone_ints (p : Option Addr) (l : List Int) (c : Nat) (w : World) (hn : l.length ≤ 1000) (h : Ints w p l) (hp : p = none → l = []) :
    Calls Try.prog 47 #[.slice p l.length c] w (NewInts w l) := by
  cases p with
  | none =>
    obtain rfl := hp rfl
    refine (clone_nil_ints 0 c w).mono ?_
    rintro e w' ⟨rfl, rfl⟩
    exact ⟨none, 0, rfl, .inl rfl, Below.refl _ _⟩
  | some a =>
    rcases h with rfl | ⟨b, o, e, hc⟩
    · refine (clone_some_ints a 0 c [] w (by omega) rfl (by simp) (by simp)).mono ?_
      rintro e w' ⟨v, rfl, ho, hb⟩
      obtain ⟨q, d, rfl⟩ := own_slice ho
      exact ⟨q, d, rfl, .inl rfl, hb⟩
    · simp only [Option.some.injEq] at e
      subst e
      refine (clone_some_ints _ l.length c (l.map (Value.int .i64)) w hn (by simp) (fun j u hu => ?_) (by simp; intro x _; rfl)).mono ?_
      · rw [add_at]
        simp only [List.getElem?_map] at hu
        have hj : j < l.length := by
          by_cases hj : j < l.length
          · exact hj
          · rw [List.getElem?_eq_none (by omega)] at hu; simp at hu
        rw [List.getElem?_eq_getElem hj] at hu
        simp only [Option.map_some, Option.some.injEq] at hu
        rw [hc j hj, ← hu]
        simp [List.getD, hj]
      · rintro e w' ⟨v, rfl, ho, hb⟩
        obtain ⟨q, d, hv⟩ := own_slice ho
        subst hv
        refine ⟨q, d, rfl, ?_, hb⟩
        by_cases h0 : l = []
        · exact .inl h0
        · obtain ⟨g, c', hv, hg, ⟨cs, hcs⟩, hat⟩ := own_at2 ho (List.length_pos_iff.2 h0)
          simp only [Value.slice.injEq] at hv
          refine .inr ⟨g, cs, hv.1, hg, hcs, fun j hj => ?_⟩
          exact hat j _ (by simp [List.getD, hj])
/-- A new list of leases. -/
def NewLeases (w : World) (l : List (Int × Int)) (e : Ending) (w' : World) : Prop := ∃ p c, e = .returned (.slice p l.length c) ∧ LeasesS 0 w' p l ∧ Below w.heap.size w w'
theorem none_nil {w : World} {p : Option Addr} {l : List (Int × Int)} (h : LeasesAt w p l) (hp : p = none) : l = [] := by
  rcases h with h | ⟨b, o, h, _⟩
  · exact h
  · rw [hp] at h; cases h
theorem clone_leases (p : Option Addr) (l : List (Int × Int)) (c : Nat) (w : World) (hn : l.length ≤ 1000) (h : LeasesAt w p l) :
    Calls Try.prog 49 #[.slice p l.length c] w (NewLeases w l) := by
  cases p with
  | none =>
    obtain rfl := none_nil h rfl
    refine (clone_nil_leases 0 c w).mono ?_
    rintro e w' ⟨rfl, rfl⟩
    exact ⟨none, 0, rfl, .inl rfl, Below.refl _ _⟩
  | some a =>
    rcases h with rfl | ⟨b, o, e, hc⟩
    · refine (clone_some_leases a 0 c [] w (by omega) rfl (by simp) (by simp)).mono ?_
      rintro e w' ⟨v, rfl, ho, hb⟩
      obtain ⟨q, d, rfl⟩ := own_slice ho
      exact ⟨q, d, rfl, .inl rfl, hb⟩
    · simp only [Option.some.injEq] at e
      subst e
      obtain ⟨xs, x1, x2, x3, x4⟩ := cells_of w b o (l.length * 2) (fun j hj => by
        have h1 := hc (j / 2) (by omega)
        by_cases hm : j % 2 = 0
        · exact ⟨_, by rw [show o + j = o + j / 2 * 2 by omega]; exact h1.1, rfl⟩
        · exact ⟨_, by rw [show o + j = o + j / 2 * 2 + 1 by omega]; exact h1.2, rfl⟩)
      refine (clone_some_leases _ l.length c xs w hn x1 x2 x4).mono ?_
      rintro e w' ⟨v, rfl, ho, hb⟩
      obtain ⟨q, d, hv⟩ := own_slice ho
      subst hv
      refine ⟨q, d, rfl, ?_, hb⟩
      by_cases h0 : l = []
      · exact .inl h0
      · obtain ⟨g, c', hv, hg, hcs, _, hat⟩ := own_at ho (List.length_pos_iff.2 h0)
        simp only [Value.slice.injEq] at hv
        refine .inr ⟨g, 0, hv.1, .inr hcs, fun j hj => ?_⟩
        have h1 := hc j hj
        obtain ⟨u, hu, hcu⟩ := x3 (j * 2) (by omega)
        obtain ⟨u', hu', hcu'⟩ := x3 (j * 2 + 1) (by omega)
        rw [Nat.zero_add, hat _ _ hu, hat _ _ hu', ← h1.1, ← h1.2, ← hcu, Nat.add_assoc, ← hcu']
        exact ⟨rfl, rfl⟩
/-- A new list of rows, whose leases are those that were there. -/
def NewRows (B : Nat) (w : World) (l : List Rw) (e : Ending) (w' : World) : Prop :=
  ∃ p c, e = .returned (.slice p l.length c) ∧ Below w.heap.size w w' ∧ (l = [] ∨ ∃ g, p = some ⟨g, 0, none⟩ ∧ w.heap.size ≤ g ∧ (∃ cs, w'.heap[g]? = some (.cells cs 89 (0, 0))) ∧ ∀ j, j < l.length → RowS B w' g (j * 4) (l.getD j noRow))
theorem own_mark {w : World} {B n size : Nat} {E : TypeId} {g c : Nat} {xs : List Value} (h : w.ownsRow B E size (.slice (some ⟨g, 0, none⟩) n c) n xs) : ∃ cs, w.heap[g]? = some (.cells cs E (0, 0)) := by
  rcases h.2 with ⟨h0, _⟩ | ⟨g', cap, cur, h0, h1, h2, _⟩
  · cases h0
  · simp only [Value.slice.injEq, Option.some.injEq, Addr.mk.injEq] at h0
    rw [h0.1.1]
    exact ⟨cur, h2⟩
theorem clone_rows (B : Nat) (p : Option Addr) (l : List Rw) (c : Nat) (w : World) (hB : B ≤ w.heap.size) (hn : l.length ≤ 1000) (h : RowsS B w p l) :
    Calls Try.prog 48 #[.slice p l.length c] w (NewRows B w l) := by
  cases p with
  | none =>
    obtain rfl : l = [] := by
      rcases h with h | ⟨b, o, h, _⟩
      · exact h
      · cases h
    refine (clone_nil_rows 0 c w).mono ?_
    rintro e w' ⟨rfl, rfl⟩
    exact ⟨none, 0, rfl, Below.refl _ _, .inl rfl⟩
  | some a =>
    rcases h with rfl | ⟨b, o, e, _, hc⟩
    · refine (clone_some_rows a 0 c [] w (by omega) rfl (by simp) (by simp)).mono ?_
      rintro e w' ⟨v, rfl, ho, hb⟩
      obtain ⟨q, d, rfl⟩ := own_slice ho
      exact ⟨q, d, rfl, hb, .inl rfl⟩
    · simp only [Option.some.injEq] at e
      subst e
      obtain ⟨xs, x1, x2, x3, x4⟩ := cells_of w b o (l.length * 4) (fun j hj => by
        obtain ⟨h0, h1, h2, p, c, h3, _⟩ := hc (j / 4) (by omega)
        have hm : j % 4 = 0 ∨ j % 4 = 1 ∨ j % 4 = 2 ∨ j % 4 = 3 := by omega
        rcases hm with hm | hm | hm | hm
        · exact ⟨_, by rw [show o + j = o + j / 4 * 4 by omega]; exact h0, rfl⟩
        · exact ⟨_, by rw [show o + j = o + j / 4 * 4 + 1 by omega]; exact h1, rfl⟩
        · exact ⟨_, by rw [show o + j = o + j / 4 * 4 + 2 by omega]; exact h2, rfl⟩
        · exact ⟨_, by rw [show o + j = o + j / 4 * 4 + 3 by omega]; exact h3, rfl⟩)
      refine (clone_some_rows _ l.length c xs w hn x1 x2 x4).mono ?_
      rintro e w' ⟨v, rfl, ho, hb⟩
      obtain ⟨q, d, hv⟩ := own_slice ho
      subst hv
      refine ⟨q, d, rfl, hb, ?_⟩
      by_cases h0 : l = []
      · exact .inl h0
      · obtain ⟨g, c', hv, hg, hcs, _, hat⟩ := own_at ho (List.length_pos_iff.2 h0)
        rw [hv] at ho
        simp only [Value.slice.injEq] at hv
        refine .inr ⟨g, hv.1, hg, own_mark ho, fun j hj => ?_⟩
        obtain ⟨k0, k1, k2, p, c, k3, k4⟩ := hc j hj
        obtain ⟨u0, y0, z0⟩ := x3 (j * 4) (by omega)
        obtain ⟨u1, y1, z1⟩ := x3 (j * 4 + 1) (by omega)
        obtain ⟨u2, y2, z2⟩ := x3 (j * 4 + 2) (by omega)
        obtain ⟨u3, y3, z3⟩ := x3 (j * 4 + 3) (by omega)
        refine ⟨?_, ?_, ?_, p, c, ?_, k4.keep (.below hb hB)⟩
        · rw [hat _ _ y0, ← z0]; exact k0
        · rw [hat _ _ y1, ← z1, ← Nat.add_assoc]; exact k1
        · rw [hat _ _ y2, ← z2, ← Nat.add_assoc]; exact k2
        · rw [hat _ _ y3, ← z3, ← Nat.add_assoc]; exact k3
end Go.Proofs.Ytkdjhphakopfeaa.Frame
