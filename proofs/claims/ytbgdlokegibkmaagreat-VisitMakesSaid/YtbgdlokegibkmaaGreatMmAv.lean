/-
  slices.Clone at ints, leases and rows, and the program's Clone: each returns a new one with the same; of what lay when the call began nothing has turned; at most 1000 of each.
  The program's Clone, of any token of at most 1000 stamps, rows, and leases of a row: it returns a new one with the same; of what lay when the call began nothing has turned.
-/
import Derived.WalkSpells
import Derived.Laws.OwnMore
import Derived.Deep.RegionHeld3
import Derived.Test.YtbgdlokegibkmaaGreatMmAg
namespace Go.Proofs.YtbgdlokegibkmaaGreat.Frame
open Go.RowKit Codec
/-- A new row: what a call tells that makes one. -/
def MadeRow (E : TypeId) (size : Nat) (w : World) (n : Nat) (xs : List Value) (e : Ending) (w' : World) : Prop :=
  ∃ v, e = .returned v ∧ w'.ownsRow w.heap.size E size v n xs ∧ Below w.heap.size w w'
theorem info_ints : (Tryz.prog.info? 3).map (fun i => (i.zero, i.size, i.bytes)) = some (some (.int .i64 0), 1, 8) := by kernel_rfl
theorem eq_nil_ints (w : World) (a : Option Addr) (n c n' c' : Nat) : (binOp .eql 25 (.slice a n c) (.slice none n' c')).run Tryz.prog w = .ok (.bool a.isNone) w := Lib.run_eql_slice_nil w _ _ a n c n' c' Tryz.underlying25
set_option maxRecDepth 100000 in
theorem clone_nil_ints (n c : Nat) (w : World) : Calls Tryz.prog 97 #[.slice none n c] w fun e w' => e = .returned (.slice none 0 0) ∧ w = w' := by
  have hq := fun (w : World) a n c n' c' => eq_nil_ints w a n c n' c'
  go_enter Tryz.func97, Tryz.ntmps97
  go_wp2
  go_ret
  exact ⟨rfl, rfl⟩
set_option maxRecDepth 100000 in
theorem clone_some_ints (a : Addr) (n c : Nat) (xs : List Value) (w : World) (hn : n ≤ 1000) (hx : xs.length = n * 1) (hc : ∀ j u, xs[j]? = some u → w.cell? (a.add j) = some u) (h1 : ∀ u ∈ xs, u.oneCell' = true) :
    Calls Tryz.prog 97 #[.slice (some a) n c] w (MadeRow 3 1 w n xs) := by
  obtain ⟨i0, hi, hz0, hz1, hz2⟩ := info_parts info_ints
  have hb : Below w.heap.size w (w.alloc (.cells #[] 3)) := (Below.refl _ _).alloc (Nat.le_refl _) _
  have HC := Lib.hid (show ∀ j u, xs[j]? = some u → (w.alloc (.cells #[] 3)).cell? (a.add j) = some u from fun j u h => (hb.cell (World.block_lt_of_cell? _ _ (hc j u h))).trans (hc j u h))
  have H1 := Lib.hid h1
  have HX := Lib.hid hx
  clear hc h1 hx
  have hown : (w.alloc (.cells #[] 3)).ownsRow w.heap.size 3 1 (.slice (some ⟨w.heap.size, 0, none⟩) 0 0) 0 [] := World.ownsRow_made w #[] 0 (Nat.le_refl _) (Nat.zero_le _) rfl
  have hq := fun (w : World) a n c n' c' => eq_nil_ints w a n c n' c'
  go_enter Tryz.func97, Tryz.ntmps97
  go_wp2_with (at_builtin; refine wpList_append_own _ rfl (.tmp 5) (.tmp 6) 25 rfl w.heap.size 3 i0 (.int .i64 0) 1 8 Tryz.underlying25 hi hz0 hz1 hz2 rfl (by decide) _ _ _ rfl hown a n c xs rfl HX.out HC.out H1.out (by unfold maxLen; omega) (by omega) (by simp) ?_)
  intro v w1 ho hg _
  have hb1 := hb.grown hg (by simp) (fun k hk => by simp [Value.ownBlock] at hk; omega)
  have HO := Lib.hid ho
  clear hg hown HC ho
  go_wp2
  go_ret
  exact ⟨v, rfl, HO.out, hb1⟩
theorem info_leases : (Tryz.prog.info? 141).map (fun i => (i.zero, i.size, i.bytes)) = some (some (.agg #[.int .i64 0, .int .i64 0]), 2, 16) := by kernel_rfl
theorem eq_nil_leases (w : World) (a : Option Addr) (n c n' c' : Nat) : (binOp .eql 78 (.slice a n c) (.slice none n' c')).run Tryz.prog w = .ok (.bool a.isNone) w := Lib.run_eql_slice_nil w _ _ a n c n' c' Tryz.underlying78
set_option maxRecDepth 100000 in
theorem clone_nil_leases (n c : Nat) (w : World) : Calls Tryz.prog 99 #[.slice none n c] w fun e w' => e = .returned (.slice none 0 0) ∧ w = w' := by
  have hq := fun (w : World) a n c n' c' => eq_nil_leases w a n c n' c'
  go_enter Tryz.func99, Tryz.ntmps99
  go_wp2
  go_ret
  exact ⟨rfl, rfl⟩
set_option maxRecDepth 100000 in
theorem clone_some_leases (a : Addr) (n c : Nat) (xs : List Value) (w : World) (hn : n ≤ 1000) (hx : xs.length = n * 2) (hc : ∀ j u, xs[j]? = some u → w.cell? (a.add j) = some u) (h1 : ∀ u ∈ xs, u.oneCell' = true) :
    Calls Tryz.prog 99 #[.slice (some a) n c] w (MadeRow 141 2 w n xs) := by
  obtain ⟨i0, hi, hz0, hz1, hz2⟩ := info_parts info_leases
  have hb : Below w.heap.size w (w.alloc (.cells #[] 141)) := (Below.refl _ _).alloc (Nat.le_refl _) _
  have HC := Lib.hid (show ∀ j u, xs[j]? = some u → (w.alloc (.cells #[] 141)).cell? (a.add j) = some u from fun j u h => (hb.cell (World.block_lt_of_cell? _ _ (hc j u h))).trans (hc j u h))
  have H1 := Lib.hid h1
  have HX := Lib.hid hx
  clear hc h1 hx
  have hown : (w.alloc (.cells #[] 141)).ownsRow w.heap.size 141 2 (.slice (some ⟨w.heap.size, 0, none⟩) 0 0) 0 [] := World.ownsRow_made w #[] 0 (Nat.le_refl _) (Nat.zero_le _) rfl
  have hq := fun (w : World) a n c n' c' => eq_nil_leases w a n c n' c'
  go_enter Tryz.func99, Tryz.ntmps99
  go_wp2_with (at_builtin; refine wpList_append_own _ rfl (.tmp 5) (.tmp 6) 78 rfl w.heap.size 141 i0 (.agg #[.int .i64 0, .int .i64 0]) 2 16 Tryz.underlying78 hi hz0 hz1 hz2 rfl (by decide) _ _ _ rfl hown a n c xs rfl HX.out HC.out H1.out (by unfold maxLen; omega) (by omega) (by simp) ?_)
  intro v w1 ho hg _
  have hb1 := hb.grown hg (by simp) (fun k hk => by simp [Value.ownBlock] at hk; omega)
  have HO := Lib.hid ho
  clear hg hown HC ho
  go_wp2
  go_ret
  exact ⟨v, rfl, HO.out, hb1⟩
theorem info_rows : (Tryz.prog.info? 80).map (fun i => (i.zero, i.size, i.bytes)) = some (some (.agg #[.int .i64 0, .int .i64 0, .int .i64 0, .slice none 0 0]), 4, 48) := by kernel_rfl
theorem eq_nil_rows (w : World) (a : Option Addr) (n c n' c' : Nat) : (binOp .eql 26 (.slice a n c) (.slice none n' c')).run Tryz.prog w = .ok (.bool a.isNone) w := Lib.run_eql_slice_nil w _ _ a n c n' c' Tryz.underlying26
set_option maxRecDepth 100000 in
theorem clone_nil_rows (n c : Nat) (w : World) : Calls Tryz.prog 98 #[.slice none n c] w fun e w' => e = .returned (.slice none 0 0) ∧ w = w' := by
  have hq := fun (w : World) a n c n' c' => eq_nil_rows w a n c n' c'
  go_enter Tryz.func98, Tryz.ntmps98
  go_wp2
  go_ret
  exact ⟨rfl, rfl⟩
set_option maxRecDepth 100000 in
theorem clone_some_rows (a : Addr) (n c : Nat) (xs : List Value) (w : World) (hn : n ≤ 1000) (hx : xs.length = n * 4) (hc : ∀ j u, xs[j]? = some u → w.cell? (a.add j) = some u) (h1 : ∀ u ∈ xs, u.oneCell' = true) :
    Calls Tryz.prog 98 #[.slice (some a) n c] w (MadeRow 80 4 w n xs) := by
  obtain ⟨i0, hi, hz0, hz1, hz2⟩ := info_parts info_rows
  have hb : Below w.heap.size w (w.alloc (.cells #[] 80)) := (Below.refl _ _).alloc (Nat.le_refl _) _
  have HC := Lib.hid (show ∀ j u, xs[j]? = some u → (w.alloc (.cells #[] 80)).cell? (a.add j) = some u from fun j u h => (hb.cell (World.block_lt_of_cell? _ _ (hc j u h))).trans (hc j u h))
  have H1 := Lib.hid h1
  have HX := Lib.hid hx
  clear hc h1 hx
  have hown : (w.alloc (.cells #[] 80)).ownsRow w.heap.size 80 4 (.slice (some ⟨w.heap.size, 0, none⟩) 0 0) 0 [] := World.ownsRow_made w #[] 0 (Nat.le_refl _) (Nat.zero_le _) rfl
  have hq := fun (w : World) a n c n' c' => eq_nil_rows w a n c n' c'
  go_enter Tryz.func98, Tryz.ntmps98
  go_wp2_with (at_builtin; refine wpList_append_own _ rfl (.tmp 5) (.tmp 6) 26 rfl w.heap.size 80 i0 (.agg #[.int .i64 0, .int .i64 0, .int .i64 0, .slice none 0 0]) 4 48 Tryz.underlying26 hi hz0 hz1 hz2 rfl (by decide) _ _ _ rfl hown a n c xs rfl HX.out HC.out H1.out (by unfold maxLen; omega) (by omega) (by simp) ?_)
  intro v w1 ho hg _
  have hb1 := hb.grown hg (by simp) (fun k hk => by simp [Value.ownBlock] at hk; omega)
  have HO := Lib.hid ho
  clear hg hown HC ho
  go_wp2
  go_ret
  exact ⟨v, rfl, HO.out, hb1⟩
/-- What is owned, its cells. -/
theorem own_at {w : World} {B n size : Nat} {E : TypeId} {v : Value} {xs : List Value} (h : w.ownsRow B E size v n xs) (hn : 0 < n) :
    ∃ g c, v = .slice (some ⟨g, 0, none⟩) n c ∧ B ≤ g ∧ (∃ cs z, w.heap[g]? = some (.cells cs E z)) ∧ (∀ o, w.frozen? ⟨g, o, none⟩ = false) ∧ ∀ j u, xs[j]? = some u → w.cell? ⟨g, j, none⟩ = some u := by
  rcases h.2 with ⟨_, h0⟩ | ⟨g, cap, cur, rfl, h1, h2, h3, h4, h5, h6⟩
  · omega
  · refine ⟨g, cap, rfl, h1, ⟨cur, _, h2⟩, fun o => frozen_of h2, fun j u hu => ?_⟩
    have := h.cells (g := g) rfl j u hu
    rwa [add_at, Nat.zero_add] at this
theorem own_slice {w : World} {B n size : Nat} {E : TypeId} {v : Value} {xs : List Value} (h : w.ownsRow B E size v n xs) : ∃ p c, v = .slice p n c := by
  rcases h.2 with ⟨rfl, rfl⟩ | ⟨g, cap, cur, rfl, _⟩
  · exact ⟨none, 0, rfl⟩
  · exact ⟨_, cap, rfl⟩
/-- A capacity is a length at least. -/
theorem own_cap {w : World} {B n size : Nat} {E : TypeId} {v : Value} {xs : List Value} (h : w.ownsRow B E size v n xs) : ∃ p c, v = .slice p n (c + n) := by
  rcases h.2 with ⟨rfl, rfl⟩ | ⟨g, cap, cur, rfl, _, _, h3, _⟩
  · exact ⟨none, 0, rfl⟩
  · exact ⟨_, cap - n, by rw [Nat.sub_add_cancel h3]⟩
theorem own_at2 {w : World} {B n size : Nat} {E : TypeId} {v : Value} {xs : List Value} (h : w.ownsRow B E size v n xs) (hn : 0 < n) :
    ∃ g c, v = .slice (some ⟨g, 0, none⟩) n c ∧ B ≤ g ∧ (∃ cs, w.heap[g]? = some (.cells cs E (0, 0))) ∧ ∀ j u, xs[j]? = some u → w.cell? ⟨g, j, none⟩ = some u := by
  rcases h.2 with ⟨_, h0⟩ | ⟨g, cap, cur, rfl, h1, h2, h3, h4, h5, h6⟩
  · omega
  · refine ⟨g, cap, rfl, h1, ⟨cur, h2⟩, fun j u hu => ?_⟩
    have := h.cells (g := g) rfl j u hu
    rwa [add_at, Nat.zero_add] at this
/-- Ints in a block of their own, behind B. -/
def OwnS (B : Nat) (w : World) (p : Option Addr) (l : List Int) : Prop := l = [] ∨ ∃ g cs, p = some ⟨g, 0, none⟩ ∧ B ≤ g ∧ w.heap[g]? = some (.cells cs 3 (0, 0)) ∧ ∀ j, j < l.length → w.cell? ⟨g, j, none⟩ = some (.int .i64 (l.getD j 0))
theorem OwnS.ints {B : Nat} {w : World} {p : Option Addr} {l : List Int} (h : OwnS B w p l) : Ints w p l := by
  rcases h with h | ⟨g, cs, h, _, _, hc⟩
  · exact .inl h
  · exact .inr ⟨g, 0, h, fun j hj => by rw [Nat.zero_add]; exact hc j hj⟩
theorem OwnS.lower {B B' : Nat} {w : World} {p : Option Addr} {l : List Int} (h : OwnS B w p l) (hB : B' ≤ B) : OwnS B' w p l := by
  rcases h with h | ⟨g, cs, h, hg, h2, hc⟩
  · exact .inl h
  · exact .inr ⟨g, cs, h, Nat.le_trans hB hg, h2, hc⟩
theorem OwnS.keep {B B' : Nat} {w w' : World} {p : Option Addr} {l : List Int} (h : OwnS B w p l) (k : Kp B' 3 w w') : OwnS B w' p l := by
  rcases h with h | ⟨g, cs, h, hg, h2, hc⟩
  · exact .inl h
  · exact .inr ⟨g, cs, h, hg, k.2.2 g cs _ h2, fun j hj => ((show Lies2 B' 3 w g from .inr ⟨cs, _, h2⟩).cell k).trans (hc j hj)⟩
/-- A new list of ints. -/
def NewInts (w : World) (l : List Int) (e : Ending) (w' : World) : Prop := ∃ p c, e = .returned (.slice p l.length c) ∧ OwnS w.heap.size w' p l ∧ Below w.heap.size w w'
theorem clone_ints (p : Option Addr) (l : List Int) (c : Nat) (w : World) (hn : l.length ≤ 1000) (h : Ints w p l) (hp : p = none → l = []) :
    Calls Tryz.prog 97 #[.slice p l.length c] w (NewInts w l) := by
  cases p with
  | none =>
    obtain rfl := hp rfl
    refine (clone_nil_ints 0 c w).mono ?_
    rintro e w' ⟨rfl, rfl⟩
    exact ⟨none, 0, rfl, .inl rfl, Below.refl _ _⟩
  | some a =>
    rcases h with rfl | ⟨b, o, e, hc⟩
    · refine (clone_some_ints a 0 c [] w (by omega) rfl (by simp) (by simp)).mono ?_
      rintro e w' ⟨v, rfl, ho, hb⟩
      obtain ⟨q, d, rfl⟩ := own_slice ho
      exact ⟨q, d, rfl, .inl rfl, hb⟩
    · simp only [Option.some.injEq] at e
      subst e
      refine (clone_some_ints _ l.length c (l.map (Value.int .i64)) w hn (by simp) (fun j u hu => ?_) (by simp; intro x _; rfl)).mono ?_
      · rw [add_at]
        simp only [List.getElem?_map] at hu
        have hj : j < l.length := by
          by_cases hj : j < l.length
          · exact hj
          · rw [List.getElem?_eq_none (by omega)] at hu; simp at hu
        rw [List.getElem?_eq_getElem hj] at hu
        simp only [Option.map_some, Option.some.injEq] at hu
        rw [hc j hj, ← hu]
        simp [List.getD, hj]
      · rintro e w' ⟨v, rfl, ho, hb⟩
        obtain ⟨q, d, hv⟩ := own_slice ho
        subst hv
        refine ⟨q, d, rfl, ?_, hb⟩
        by_cases h0 : l = []
        · exact .inl h0
        · obtain ⟨g, c', hv, hg, ⟨cs, hcs⟩, hat⟩ := own_at2 ho (List.length_pos_iff.2 h0)
          simp only [Value.slice.injEq] at hv
          refine .inr ⟨g, cs, hv.1, hg, hcs, fun j hj => ?_⟩
          exact hat j _ (by simp [List.getD, hj])
/-- A new list of leases. -/
def NewLeases (w : World) (l : List (Int × Int)) (e : Ending) (w' : World) : Prop := ∃ p c, e = .returned (.slice p l.length (c + l.length)) ∧ LeasesS 0 w' p l ∧ Below w.heap.size w w'
theorem none_nil {w : World} {p : Option Addr} {l : List (Int × Int)} (h : LeasesAt w p l) (hp : p = none) : l = [] := by
  rcases h with h | ⟨b, o, h, _⟩
  · exact h
  · rw [hp] at h; cases h
theorem clone_leases (p : Option Addr) (l : List (Int × Int)) (c : Nat) (w : World) (hn : l.length ≤ 1000) (h : LeasesAt w p l) :
    Calls Tryz.prog 99 #[.slice p l.length c] w (NewLeases w l) := by
  cases p with
  | none =>
    obtain rfl := none_nil h rfl
    refine (clone_nil_leases 0 c w).mono ?_
    rintro e w' ⟨rfl, rfl⟩
    exact ⟨none, 0, rfl, .inl rfl, Below.refl _ _⟩
  | some a =>
    rcases h with rfl | ⟨b, o, e, hc⟩
    · refine (clone_some_leases a 0 c [] w (by omega) rfl (by simp) (by simp)).mono ?_
      rintro e w' ⟨v, rfl, ho, hb⟩
      obtain ⟨q, d, rfl⟩ := own_cap ho
      exact ⟨q, d, rfl, .inl rfl, hb⟩
    · simp only [Option.some.injEq] at e
      subst e
      obtain ⟨xs, x1, x2, x3, x4⟩ := cells_of w b o (l.length * 2) (fun j hj => by
        have h1 := hc (j / 2) (by omega)
        by_cases hm : j % 2 = 0
        · exact ⟨_, by rw [show o + j = o + j / 2 * 2 by omega]; exact h1.1, rfl⟩
        · exact ⟨_, by rw [show o + j = o + j / 2 * 2 + 1 by omega]; exact h1.2, rfl⟩)
      refine (clone_some_leases _ l.length c xs w hn x1 x2 x4).mono ?_
      rintro e w' ⟨v, rfl, ho, hb⟩
      obtain ⟨q, d, hv⟩ := own_cap ho
      subst hv
      refine ⟨q, d, rfl, ?_, hb⟩
      by_cases h0 : l = []
      · exact .inl h0
      · obtain ⟨g, c', hv, hg, hcs, _, hat⟩ := own_at ho (List.length_pos_iff.2 h0)
        simp only [Value.slice.injEq] at hv
        refine .inr ⟨g, 0, hv.1, .inr hcs, fun j hj => ?_⟩
        have h1 := hc j hj
        obtain ⟨u, hu, hcu⟩ := x3 (j * 2) (by omega)
        obtain ⟨u', hu', hcu'⟩ := x3 (j * 2 + 1) (by omega)
        rw [Nat.zero_add, hat _ _ hu, hat _ _ hu', ← h1.1, ← h1.2, ← hcu, Nat.add_assoc, ← hcu']
        exact ⟨rfl, rfl⟩
/-- A new list of rows, whose leases are those that were there. -/
def NewRows (B : Nat) (w : World) (l : List Rw) (e : Ending) (w' : World) : Prop :=
  ∃ p c, e = .returned (.slice p l.length (c + l.length)) ∧ Below w.heap.size w w' ∧ (l = [] ∨ ∃ g, p = some ⟨g, 0, none⟩ ∧ w.heap.size ≤ g ∧ (∃ cs, w'.heap[g]? = some (.cells cs 80 (0, 0))) ∧ ∀ j, j < l.length → RowS B w' g (j * 4) (l.getD j noRow))
theorem own_mark {w : World} {B n size : Nat} {E : TypeId} {g c : Nat} {xs : List Value} (h : w.ownsRow B E size (.slice (some ⟨g, 0, none⟩) n c) n xs) : ∃ cs, w.heap[g]? = some (.cells cs E (0, 0)) := by
  rcases h.2 with ⟨h0, _⟩ | ⟨g', cap, cur, h0, h1, h2, _⟩
  · cases h0
  · simp only [Value.slice.injEq, Option.some.injEq, Addr.mk.injEq] at h0
    rw [h0.1.1]
    exact ⟨cur, h2⟩
theorem clone_rows (B : Nat) (p : Option Addr) (l : List Rw) (c : Nat) (w : World) (hB : B ≤ w.heap.size) (hn : l.length ≤ 1000) (h : RowsS B w p l) :
    Calls Tryz.prog 98 #[.slice p l.length c] w (NewRows B w l) := by
  cases p with
  | none =>
    obtain rfl : l = [] := by
      rcases h with h | ⟨b, o, h, _⟩
      · exact h
      · cases h
    refine (clone_nil_rows 0 c w).mono ?_
    rintro e w' ⟨rfl, rfl⟩
    exact ⟨none, 0, rfl, Below.refl _ _, .inl rfl⟩
  | some a =>
    rcases h with rfl | ⟨b, o, e, _, hc⟩
    · refine (clone_some_rows a 0 c [] w (by omega) rfl (by simp) (by simp)).mono ?_
      rintro e w' ⟨v, rfl, ho, hb⟩
      obtain ⟨q, d, rfl⟩ := own_cap ho
      exact ⟨q, d, rfl, hb, .inl rfl⟩
    · simp only [Option.some.injEq] at e
      subst e
      obtain ⟨xs, x1, x2, x3, x4⟩ := cells_of w b o (l.length * 4) (fun j hj => by
        obtain ⟨h0, h1, h2, p, c, h3, _⟩ := hc (j / 4) (by omega)
        have hm : j % 4 = 0 ∨ j % 4 = 1 ∨ j % 4 = 2 ∨ j % 4 = 3 := by omega
        rcases hm with hm | hm | hm | hm
        · exact ⟨_, by rw [show o + j = o + j / 4 * 4 by omega]; exact h0, rfl⟩
        · exact ⟨_, by rw [show o + j = o + j / 4 * 4 + 1 by omega]; exact h1, rfl⟩
        · exact ⟨_, by rw [show o + j = o + j / 4 * 4 + 2 by omega]; exact h2, rfl⟩
        · exact ⟨_, by rw [show o + j = o + j / 4 * 4 + 3 by omega]; exact h3, rfl⟩)
      refine (clone_some_rows _ l.length c xs w hn x1 x2 x4).mono ?_
      rintro e w' ⟨v, rfl, ho, hb⟩
      obtain ⟨q, d, hv⟩ := own_cap ho
      subst hv
      refine ⟨q, d, rfl, hb, ?_⟩
      by_cases h0 : l = []
      · exact .inl h0
      · obtain ⟨g, c', hv, hg, hcs, _, hat⟩ := own_at ho (List.length_pos_iff.2 h0)
        rw [hv] at ho
        simp only [Value.slice.injEq] at hv
        refine .inr ⟨g, hv.1, hg, own_mark ho, fun j hj => ?_⟩
        obtain ⟨k0, k1, k2, p, c, k3, k4⟩ := hc j hj
        obtain ⟨u0, y0, z0⟩ := x3 (j * 4) (by omega)
        obtain ⟨u1, y1, z1⟩ := x3 (j * 4 + 1) (by omega)
        obtain ⟨u2, y2, z2⟩ := x3 (j * 4 + 2) (by omega)
        obtain ⟨u3, y3, z3⟩ := x3 (j * 4 + 3) (by omega)
        refine ⟨?_, ?_, ?_, p, c, ?_, k4.keep (.below hb hB)⟩
        · rw [hat _ _ y0, ← z0]; exact k0
        · rw [hat _ _ y1, ← z1, ← Nat.add_assoc]; exact k1
        · rw [hat _ _ y2, ← z2, ← Nat.add_assoc]; exact k2
        · rw [hat _ _ y3, ← z3, ← Nat.add_assoc]; exact k3
end Go.Proofs.YtbgdlokegibkmaaGreat.Frame

namespace Go.Proofs.YtbgdlokegibkmaaGreat.Frame
open Go.RowKit Codec
theorem RowsS.of {w : World} {p : Option Addr} {l : List Rw} (h : RowsAt w p l) : RowsS w.heap.size w p l := by
  by_cases h0 : l = []
  · exact .inl h0
  · rcases h with h | ⟨b, o, h, hc⟩
    · exact .inl h
    · exact .inr ⟨b, o, h, .inl (World.block_lt_of_cell? _ _ (hc 0 (List.length_pos_iff.2 h0)).1), fun j hj => .of (hc j hj)⟩
/-- Each row's leases have a capacity that is their number at least. -/
def CapsAt (w : World) (p : Option Addr) (l : List Rw) : Prop := ∀ g o, p = some ⟨g, o, none⟩ → ∀ j, j < l.length → ∃ q c, w.cell? ⟨g, o + j * 4 + 3, none⟩ = some (.slice q (l.getD j noRow).out.length (c + (l.getD j noRow).out.length))
/-- How it stands while rows are cloned. -/
structure ClSt (w : World) (t : Tk) (p1 p3 : Option Addr) (c1 c3 j : Nat) (wr : World) : Prop where
  below : Below w.heap.size w wr
  box : wr.heap[w.heap.size]? = some (.cells #[.int .i64 t.gen, .int .i64 t.hop, .slice p1 t.stamps.length c1, .int .i64 t.table.start, .slice p3 t.table.rows.length c3] 30 (0, 0))
  out : wr.heap[w.heap.size + 1]? = some (.cells #[.int .i64 0, .int .i64 0, .slice none 0 0, .int .i64 0, .slice none 0 0] 30 (0, 0))
  stamps : OwnS w.heap.size wr p1 t.stamps
  rows : t.table.rows = [] ∨ ∃ g, p3 = some ⟨g, 0, none⟩ ∧ w.heap.size ≤ g ∧ (∃ cs, wr.heap[g]? = some (.cells cs 80 (0, 0))) ∧ ∀ j, j < t.table.rows.length → RowS w.heap.size wr g (j * 4) (t.table.rows.getD j noRow)
  done : ∀ i, i < j → i < t.table.rows.length → ∀ g, p3 = some ⟨g, 0, none⟩ → RowS 0 wr g (i * 4) (t.table.rows.getD i noRow)
  caps : ∀ i, i < j → i < t.table.rows.length → ∀ g, p3 = some ⟨g, 0, none⟩ → ∃ q c, wr.cell? ⟨g, i * 4 + 3, none⟩ = some (.slice q (t.table.rows.getD i noRow).out.length (c + (t.table.rows.getD i noRow).out.length))
theorem Kp.lower {B B' : Nat} {T : TypeId} {w w' : World} (h : Kp B T w w') (hB : B' ≤ B) : Kp B' T w w' := ⟨Nat.le_trans hB h.1, fun g hg => h.2.1 g (by omega), h.2.2⟩
theorem LeasesS.from0 {B : Nat} {w : World} {p : Option Addr} {l : List (Int × Int)} (h : LeasesS 0 w p l) : LeasesS B w p l := h.lower (Nat.zero_le _)
theorem ClSt.step {w wr u : World} {t : Tk} {p1 p3 q : Option Addr} {c1 c3 d g j : Nat} (S : ClSt w t p1 p3 c1 c3 j wr) (hp : p3 = some ⟨g, 0, none⟩) (hj : j < t.table.rows.length) (hb : Below wr.heap.size wr u) (hl : LeasesS 0 u q (t.table.rows.getD j noRow).out) (hd : ∃ d', d' + (t.table.rows.getD j noRow).out.length = d) :
    ClSt w t p1 p3 c1 c3 (j + 1) (u.setCell ⟨g, j * 4 + 3, none⟩ (.slice q (t.table.rows.getD j noRow).out.length d)) := by
  have hbw : w.heap.size ≤ wr.heap.size := S.below.size
  rcases S.rows with h0 | ⟨g', e, hg, ⟨cs, hcs⟩, hr⟩
  · rw [h0] at hj; simp at hj
  · rw [hp] at e
    simp only [Option.some.injEq, Addr.mk.injEq, and_true] at e
    subst e
    have hgr := lt_of_heap hcs
    have hcs' : u.heap[g]? = some (.cells cs 80 (0, 0)) := (hb.block g hgr).trans hcs
    have hbox := (hb.block _ (lt_of_heap S.box)).trans S.box
    have hout := (hb.block _ (lt_of_heap S.out)).trans S.out
    have n1 : w.heap.size ≠ g := by
      intro e
      rw [e, hcs'] at hbox
      simp at hbox
    have n2 : w.heap.size + 1 ≠ g := by
      intro e
      rw [e, hcs'] at hout
      simp at hout
    have kp : ∀ T, T ≠ 80 → Kp w.heap.size T u (u.setCell ⟨g, j * 4 + 3, none⟩ (.slice q (t.table.rows.getD j noRow).out.length d)) := fun T hT => .grown hcs' (Ne.symm hT) hg (grown_set g _ _)
    have kb : ∀ T, Kp w.heap.size T wr u := fun T => .below hb hbw
    have far : ∀ o v, o ≠ j * 4 + 3 → u.cell? ⟨g, o, none⟩ = some v → (u.setCell ⟨g, j * 4 + 3, none⟩ (.slice q (t.table.rows.getD j noRow).out.length d)).cell? ⟨g, o, none⟩ = some v := fun o v ho h => by
      rw [World.cell?_setCell_other]
      · exact h
      · intro e
        simp only [Addr.mk.injEq] at e
        omega
    have key : ∀ B0, B0 ≤ w.heap.size → ∀ i B1, (i = j ∨ B1 = B0) → B1 ≤ w.heap.size → RowS B1 wr g (i * 4) (t.table.rows.getD i noRow) → RowS B0 (u.setCell ⟨g, j * 4 + 3, none⟩ (.slice q (t.table.rows.getD j noRow).out.length d)) g (i * 4) (t.table.rows.getD i noRow) := fun B0 h0 i B1 hi h1 hR => by
      obtain ⟨k0, k1, k2, p, c, k3, k4⟩ := hR.keep (.inr ⟨cs, _, hcs⟩) ((kb _).lower h1) ((kb _).lower h1)
      refine ⟨far _ _ (by omega) k0, far _ _ (by omega) k1, far _ _ (by omega) k2, ?_⟩
      by_cases hij : i = j
      · subst hij
        exact ⟨q, d, World.cell?_setCell_same _ _ _ k3, hl.from0.keep ((kp _ (by decide)).lower h0)⟩
      · obtain rfl : B1 = B0 := hi.resolve_left hij
        exact ⟨p, c, far _ _ (by omega) k3, k4.keep ((kp _ (by decide)).lower h0)⟩
    refine ⟨(S.below.trans (hb.mono hbw)).setCell (p := ⟨g, j * 4 + 3, none⟩) hg _, ?_, ?_, (S.stamps.keep (kb _)).keep (kp _ (by decide)), ?_, ?_, ?_⟩
    · rw [heap_setCell_other _ _ _ _ (by exact n1)]; exact hbox
    · rw [heap_setCell_other _ _ _ _ (by exact n2)]; exact hout
    · exact .inr ⟨g, hp, hg, ⟨_, heap_set g _ _ _ hcs'⟩, fun i hi => key _ (Nat.le_refl _) i _ (.inr rfl) (Nat.le_refl _) (hr i hi)⟩
    · intro i hi hi2 g2 hp2
      rw [hp] at hp2
      simp only [Option.some.injEq, Addr.mk.injEq, and_true] at hp2
      subst hp2
      by_cases hij : i = j
      · exact key 0 (Nat.zero_le _) i _ (.inl hij) (Nat.le_refl _) (hr i hi2)
      · exact key 0 (Nat.zero_le _) i 0 (.inr rfl) (Nat.zero_le _) (S.done i (by omega) hi2 g hp)
    · intro i hi hi2 g2 hp2
      rw [hp] at hp2
      simp only [Option.some.injEq, Addr.mk.injEq, and_true] at hp2
      subst hp2
      by_cases hij : i = j
      · subst hij
        obtain ⟨d', rfl⟩ := hd
        obtain ⟨-, -, -, p, c, k3, -⟩ := (hr i hi2).keep (.inr ⟨cs, _, hcs⟩) (kb _) (kb _)
        exact ⟨q, d', World.cell?_setCell_same _ _ _ k3⟩
      · obtain ⟨q2, c2, hc2⟩ := S.caps i (by omega) hi2 g hp
        exact ⟨q2, c2, far _ _ (by omega) ((hb.cell (p := ⟨g, i * 4 + 3, none⟩) hgr).trans hc2)⟩
theorem ClSt.start {w w2 w3 : World} {t : Tk} {p1 p3 p : Option Addr} {c1 c3 c : Nat} (hb2 : Below w.heap.size w w2)
    (hs : w2.heap[w.heap.size]? = some (.cells #[.int .i64 t.gen, .int .i64 t.hop, .slice p1 t.stamps.length c1, .int .i64 t.table.start, .slice p t.table.rows.length c] 30 (0, 0)))
    (hr : w2.heap[w.heap.size + 1]? = some (.cells #[.int .i64 0, .int .i64 0, .slice none 0 0, .int .i64 0, .slice none 0 0] 30 (0, 0)))
    (hi : OwnS w.heap.size w2 p1 t.stamps) (hb3 : Below w2.heap.size w2 w3)
    (hnew : t.table.rows = [] ∨ ∃ g, p3 = some ⟨g, 0, none⟩ ∧ w2.heap.size ≤ g ∧ (∃ cs, w3.heap[g]? = some (.cells cs 80 (0, 0))) ∧ ∀ j, j < t.table.rows.length → RowS w.heap.size w3 g (j * 4) (t.table.rows.getD j noRow)) :
    ClSt w t p1 p3 c1 c3 0 (w3.setCell ⟨w.heap.size, 4, none⟩ (.slice p3 t.table.rows.length c3)) := by
  have hs3 := (hb3.block _ (lt_of_heap hs)).trans hs
  have hr3 := (hb3.block _ (lt_of_heap hr)).trans hr
  have kp : ∀ T, T ≠ 30 → Kp w.heap.size T w3 (w3.setCell ⟨w.heap.size, 4, none⟩ (.slice p3 t.table.rows.length c3)) := fun T hT => .grown hs3 (Ne.symm hT) (Nat.le_refl _) (grown_set _ _ _)
  refine ⟨(hb2.trans (hb3.mono hb2.size)).setCell (p := ⟨w.heap.size, 4, none⟩) (Nat.le_refl _) _, heap_set _ _ _ _ hs3, ?_, (hi.keep (.below hb3 hb2.size)).keep (kp _ (by decide)), ?_, fun i hi0 => by omega, fun i hi0 => by omega⟩
  · rw [heap_setCell_other _ _ _ _ (by simp)]; exact hr3
  · rcases hnew with h0 | ⟨g, hp, hg, ⟨cs, hcs⟩, hrows⟩
    · exact .inl h0
    · have := lt_of_heap hs
      refine .inr ⟨g, hp, by omega, ⟨cs, ?_⟩, fun j hj => (hrows j hj).keep (.inr ⟨cs, _, hcs⟩) (kp _ (by decide)) (kp _ (by decide))⟩
      rw [heap_setCell_other _ _ _ _ (by simp; omega)]; exact hcs
/-- Behind the first store. -/
structure ClMid (w w2 : World) (t : Tk) (p1 p : Option Addr) (c1 c : Nat) : Prop where
  below : Below w.heap.size w w2
  box : w2.heap[w.heap.size]? = some (.cells #[.int .i64 t.gen, .int .i64 t.hop, .slice p1 t.stamps.length c1, .int .i64 t.table.start, .slice p t.table.rows.length c] 30 (0, 0))
  out : w2.heap[w.heap.size + 1]? = some (.cells #[.int .i64 0, .int .i64 0, .slice none 0 0, .int .i64 0, .slice none 0 0] 30 (0, 0))
  stamps : OwnS w.heap.size w2 p1 t.stamps
theorem ClMid.mk' {w w0 w1 : World} {t : Tk} {ps p1 p : Option Addr} {cs c1 c : Nat} (b0 : Below w.heap.size w w0) (hb1 : Below w0.heap.size w0 w1)
    (hB : w0.heap[w.heap.size]? = some (.cells #[.int .i64 t.gen, .int .i64 t.hop, .slice ps t.stamps.length cs, .int .i64 t.table.start, .slice p t.table.rows.length c] 30 (0, 0)))
    (hR : w0.heap[w.heap.size + 1]? = some (.cells #[.int .i64 0, .int .i64 0, .slice none 0 0, .int .i64 0, .slice none 0 0] 30 (0, 0)))
    (hi : OwnS w0.heap.size w1 p1 t.stamps) : ClMid w (w1.setCell ⟨w.heap.size, 2, none⟩ (.slice p1 t.stamps.length c1)) t p1 p c1 c ∧ w1.cell? ⟨w.heap.size, 2, none⟩ = some (.slice ps t.stamps.length cs) ∧ w1.cell? ⟨w.heap.size, 4, none⟩ = some (.slice p t.table.rows.length c) ∧ w1.frozen? ⟨w.heap.size, 2, none⟩ = false := by
  have hB1 := (hb1.block _ (lt_of_heap hB)).trans hB
  have hR1 := (hb1.block _ (lt_of_heap hR)).trans hR
  refine ⟨⟨(b0.trans (hb1.mono b0.size)).setCell (p := ⟨w.heap.size, 2, none⟩) (Nat.le_refl _) _, heap_set _ _ _ _ hB1, ?_, (hi.lower b0.size).keep (.grown hB1 (by decide) (Nat.le_refl _) (grown_set _ _ _))⟩, ?_, ?_, frozen_of hB1⟩
  · rw [heap_setCell_other _ _ _ _ (by simp)]; exact hR1
  · rw [cell_of_row _ _ 2 _ _ _ hB1]; rfl
  · rw [cell_of_row _ _ 4 _ _ _ hB1]; rfl
theorem ClMid.start {w w2 w3 : World} {t : Tk} {p1 p3 p : Option Addr} {c1 c3 c : Nat} (M : ClMid w w2 t p1 p c1 c) (hb3 : Below w2.heap.size w2 w3)
    (hnew : t.table.rows = [] ∨ ∃ g, p3 = some ⟨g, 0, none⟩ ∧ w2.heap.size ≤ g ∧ (∃ cs, w3.heap[g]? = some (.cells cs 80 (0, 0))) ∧ ∀ j, j < t.table.rows.length → RowS w.heap.size w3 g (j * 4) (t.table.rows.getD j noRow)) :
    ClSt w t p1 p3 c1 c3 0 (w3.setCell ⟨w.heap.size, 4, none⟩ (.slice p3 t.table.rows.length c3)) ∧ w3.cell? ⟨w.heap.size, 4, none⟩ = some (.slice p t.table.rows.length c) ∧ w3.frozen? ⟨w.heap.size, 4, none⟩ = false := by
  have hB3 := (hb3.block _ (lt_of_heap M.box)).trans M.box
  refine ⟨.start M.below M.box M.out M.stamps hb3 hnew, ?_, frozen_of hB3⟩
  rw [cell_of_row _ _ 4 _ _ _ hB3]; rfl
theorem ClSt.own {w wr u : World} {t : Tk} {p1 p3 : Option Addr} {c1 c3 : Nat} (S : ClSt w t p1 p3 c1 c3 t.table.rows.length wr) (hg : wr.grownBy u (some (w.heap.size + 1))) : OwnS w.heap.size u p1 t.stamps ∧ (RowsS 0 u p3 t.table.rows ∧ CapsAt u p3 t.table.rows) ∧ Below w.heap.size w u := by
  have kp : ∀ T, T ≠ 30 → Kp w.heap.size T wr u := fun T hT => .grown S.out (Ne.symm hT) (by omega) hg
  refine ⟨S.stamps.keep (kp _ (by decide)), ?_, S.below.grown hg S.below.size (fun k hk => by simp at hk; omega)⟩
  rcases S.rows with h | ⟨g, hp, hg', ⟨cs, hcs⟩, hr⟩
  · exact ⟨.inl h, fun g o _ j hj => by rw [h] at hj; simp at hj⟩
  · refine ⟨?_, fun g2 o hp2 j hj => ?_⟩
    rotate_left
    · rw [hp] at hp2
      simp only [Option.some.injEq, Addr.mk.injEq, and_true] at hp2
      obtain ⟨rfl, rfl⟩ := hp2
      obtain ⟨q2, c2, hc2⟩ := S.caps j hj hj g hp
      refine ⟨q2, c2, ?_⟩
      rw [Nat.zero_add]
      exact (World.cell?_of_block (a := ⟨g, j * 4 + 3, none⟩) (((kp 80 (by decide)).2.2 g cs _ hcs).trans hcs.symm)).trans hc2
    exact .inr ⟨g, 0, hp, .inr ⟨cs, _, (kp _ (by decide)).2.2 g cs _ hcs⟩, fun j hj => by rw [Nat.zero_add]; exact (S.done j hj hj g hp).keep (.inr ⟨cs, _, hcs⟩) ((kp _ (by decide)).lower (Nat.zero_le _)) ((kp _ (by decide)).lower (Nat.zero_le _))⟩
/-- Likewise, with capacities. -/
def ClonedC (w : World) (t : Tk) (e : Ending) (w' : World) : Prop :=
  ∃ ps cs p c, e = .returned (.agg #[.int .i64 t.gen, .int .i64 t.hop, .slice ps t.stamps.length cs, .int .i64 t.table.start, .slice p t.table.rows.length c]) ∧ OwnS w.heap.size w' ps t.stamps ∧ (RowsS 0 w' p t.table.rows ∧ CapsAt w' p t.table.rows ∧ ∃ c', c' + t.table.rows.length = c) ∧ Below w.heap.size w w'
set_option maxRecDepth 100000 in
set_option maxHeartbeats 2000000 in
theorem pclone_caps (t : Tk) (ps p : Option Addr) (cs c : Nat) (w : World) (hn : t.stamps.length ≤ 1000) (hm : t.table.rows.length ≤ 1000) (hr : ∀ r ∈ t.table.rows, r.out.length ≤ 1000) (hst : Ints w ps t.stamps) (hnil : ps = none → t.stamps = []) (hl : RowsAt w p t.table.rows) :
    Calls Tryz.prog 53 #[.agg #[.int .i64 t.gen, .int .i64 t.hop, .slice ps t.stamps.length cs, .int .i64 t.table.start, .slice p t.table.rows.length c]] w (ClonedC w t) := by
  obtain ⟨b0, -, -⟩ := two_boxes w #[.int .i64 t.gen, .int .i64 t.hop, .slice ps t.stamps.length cs, .int .i64 t.table.start, .slice p t.table.rows.length c] #[.int .i64 0, .int .i64 0, .slice none 0 0, .int .i64 0, .slice none 0 0] 30
  have hB : ((w.alloc (.cells #[.int .i64 t.gen, .int .i64 t.hop, .slice ps t.stamps.length cs, .int .i64 t.table.start, .slice p t.table.rows.length c] 30)).alloc (.cells #[.int .i64 0, .int .i64 0, .slice none 0 0, .int .i64 0, .slice none 0 0] 30)).heap[w.heap.size]? = some (.cells #[.int .i64 t.gen, .int .i64 t.hop, .slice ps t.stamps.length cs, .int .i64 t.table.start, .slice p t.table.rows.length c] 30 (0, 0)) := (Below.heap_alloc _ _ _ (by simp)).trans (heap_alloc_new w _)
  have hR : ((w.alloc (.cells #[.int .i64 t.gen, .int .i64 t.hop, .slice ps t.stamps.length cs, .int .i64 t.table.start, .slice p t.table.rows.length c] 30)).alloc (.cells #[.int .i64 0, .int .i64 0, .slice none 0 0, .int .i64 0, .slice none 0 0] 30)).heap[w.heap.size + 1]? = some (.cells #[.int .i64 0, .int .i64 0, .slice none 0 0, .int .i64 0, .slice none 0 0] 30 (0, 0)) := by
    have := heap_alloc_new (w.alloc (.cells #[.int .i64 t.gen, .int .i64 t.hop, .slice ps t.stamps.length cs, .int .i64 t.table.start, .slice p t.table.rows.length c] 30)) (.cells #[.int .i64 0, .int .i64 0, .slice none 0 0, .int .i64 0, .slice none 0 0] 30)
    rwa [show (w.alloc (.cells #[.int .i64 t.gen, .int .i64 t.hop, .slice ps t.stamps.length cs, .int .i64 t.table.start, .slice p t.table.rows.length c] 30)).heap.size = w.heap.size + 1 by simp] at this
  have HR := Lib.hid hR
  have HB := Lib.hid hB
  have HST := Lib.hid (show ∀ u, Below w.heap.size w u → Ints u ps t.stamps from fun u hu => hst.below hu)
  have HL := Lib.hid (show ∀ u, Below w.heap.size w u → RowsS w.heap.size u p t.table.rows from fun u hu => (RowsS.of hl).keep (.below hu (Nat.le_refl _)) (.below hu (Nat.le_refl _)))
  have HRS := Lib.hid hr
  clear hB hR hst hl hr
  have c44 := fun (u : World) (hu : Below w.heap.size w u) => clone_ints ps t.stamps cs u hn (HST.out u hu) hnil
  clear hnil
  go_enter Tryz.func53, Tryz.ntmps53
  go_wp2_with (first
    | (go_at_call 97; (with_reducible refine (c44 _ b0).mono ?_); rintro e w1 ⟨p1, c1, rfl, hi1, hb1⟩; clear c44; obtain ⟨mid, d2, d4, f2⟩ := ClMid.mk' (c1 := c1) b0 hb1 HB.out HR.out hi1; have M := Lib.hid mid; clear mid hb1 hi1)
    | (go_at_call 98; (with_reducible refine (clone_rows w.heap.size p t.table.rows c _ M.out.below.size hm (HL.out _ M.out.below)).mono ?_); rintro e w3 ⟨p3, c3', rfl, hb3, hnew⟩; generalize hc3 : c3' + t.table.rows.length = c3; have HC3 := Lib.hid (show ∃ c', c' + t.table.rows.length = c3 from ⟨c3', hc3⟩); clear hc3; obtain ⟨s0, k4, f4⟩ := M.out.start (c3 := c3) hb3 hnew; have S0 := Lib.hid s0; clear s0 hb3 hnew))
  clear d2 d4 f2 k4 f4 M b0 HB HR HST HL
  generalize w3.setCell ⟨w.heap.size, 4, none⟩ (.slice p3 t.table.rows.length c3) = w4 at S0
  go_loopw [19] (fun i wr => ∃ j : Nat, j ≤ t.table.rows.length ∧ i = .int .i64 (j : Int) ∧ Hid (ClSt w t p1 p3 c1 c3 j wr)) (fun i _ => t.table.rows.length - (intOf i).toNat)
  case atStart => exact ⟨0, by omega, rfl, S0⟩
  case round =>
    obtain ⟨j, hj, rfl, S⟩ := hrel
    have k4 : wr.cell? ⟨w.heap.size, 4, none⟩ = some (.slice p3 t.table.rows.length c3) := by rw [cell_of_row _ _ 4 _ _ _ S.out.box]; rfl
    by_cases hlt : j < t.table.rows.length
    · obtain ⟨g, rfl, hg, ⟨cs, hcs⟩, hrow⟩ : ∃ g, p3 = some ⟨g, 0, none⟩ ∧ w.heap.size ≤ g ∧ (∃ cs, wr.heap[g]? = some (.cells cs 80 (0, 0))) ∧ ∀ j, j < t.table.rows.length → RowS w.heap.size wr g (j * 4) (t.table.rows.getD j noRow) := by
        rcases S.out.rows with h | h
        · rw [h] at hlt; simp at hlt
        · exact h
      obtain ⟨d0, d1, d2, p5, c5, d3, hle⟩ := hrow j hlt
      have fz : wr.frozen? ⟨g, j * 4 + 3, none⟩ = false := frozen_of hcs
      have hout := HRS.out (t.table.rows.getD j noRow) (by simp [List.getD, hlt])
      have cle := fun (u : World) (hu : Below wr.heap.size wr u) => clone_leases p5 (t.table.rows.getD j noRow).out c5 u hout (hle.leases.below hu)
      have hst := fun (u : World) (hu : Below wr.heap.size wr u) (q : Option Addr) (d : Nat) hq hd => S.out.step (q := q) (d := d) rfl hlt hu hq hd
      have HSTEP := Lib.hid hst
      have HCS := Lib.hid hcs
      have hgl : g < wr.heap.size := lt_of_heap hcs
      have hwl : w.heap.size < wr.heap.size := lt_of_heap S.out.box
      clear hrow hle hst hcs
      generalize t.table.rows.getD j noRow = r at d0 d1 d2 d3 cle HSTEP hout
      obtain ⟨x, av, mk, out⟩ := r
      simp only at d0 d1 d2 d3 cle HSTEP hout
      have hlt' : (j : Int) < (t.table.rows.length : Int) := by omega
      go_wp2
      generalize hwa : wr.alloc (.cells #[.int .i64 x, .int .i64 av, .int .i64 mk, .slice p5 out.length c5] 80) = wa
      have ba : Below wr.heap.size wr wa := by rw [← hwa]; exact (Below.refl _ _).alloc (Nat.le_refl _) _
      have n3 : wa.cell? ⟨wr.heap.size, 3, none⟩ = some (.slice p5 out.length c5) := by
        rw [← hwa, cell_of_row _ _ 3 _ _ (0, 0) (heap_alloc_new wr _)]; rfl
      have m4 := cell_on k4 ba
      have m3 := cell_on d3 ba
      have mz : wa.frozen? ⟨g, j * 4 + 3, none⟩ = false := (ba.frozen (p := ⟨g, j * 4 + 3, none⟩) hgl).trans fz
      have hne : w.heap.size ≠ g := by
        intro e
        have h1 := S.out.box
        rw [e] at h1
        have h2 := HCS.out
        rw [h1] at h2
        simp at h2
      have hnx : wr.heap.size ≠ g := by omega
      clear hwa d0 d1 d2 d3 fz k4 hgl
      have B0 := Lib.hid ba
      clear ba
      go_region_held3 (fun u => u.cell? ⟨w.heap.size, 4, none⟩ = some (.slice (some ⟨g, 0, none⟩) t.table.rows.length c3) ∧ u.cell? ⟨wr.heap.size, 3, none⟩ = some (.slice p5 out.length c5)) (first | assumption | exact ⟨m4, n3⟩ | exact hkeep _) (first
        | (go_at_call 99; (with_reducible refine (cle _ (B0.out.drew)).mono ?_); rintro e u1 ⟨q, d', rfl, hq, hb1⟩; generalize hd : d' + out.length = d; have hb2 := undrew hb1; have o3 := cell_on m3 hb2; have oz : u1.frozen? ⟨g, j * 4 + 3, none⟩ = false := ((hb2.frozen (p := ⟨g, j * 4 + 3, none⟩) (World.block_lt_of_cell? _ _ m3)).trans mz); have o4 := cell_on m4 hb2; have l3 := cell_on n3 hb2; have hb3 := B0.out.trans (hb2.mono B0.out.size); have S1 := Lib.hid (HSTEP.out u1 hb3 q d hq ⟨d', hd⟩); clear hb1 hb2 hb3 hq m3 mz; have hkeep : ∀ v, (u1.setCell ⟨g, j * 4 + 3, none⟩ v).cell? ⟨w.heap.size, 4, none⟩ = some (.slice (some ⟨g, 0, none⟩) t.table.rows.length c3) ∧ (u1.setCell ⟨g, j * 4 + 3, none⟩ v).cell? ⟨wr.heap.size, 3, none⟩ = some (.slice p5 out.length c5) := (fun v => ⟨(World.cell?_setCell_far _ ⟨g, j * 4 + 3, none⟩ ⟨w.heap.size, 4, none⟩ v (Ne.symm hne)).trans o4, (World.cell?_setCell_far _ ⟨g, j * 4 + 3, none⟩ ⟨wr.heap.size, 3, none⟩ v (Ne.symm hnx)).trans l3⟩); have hk1 := And.intro o4 l3))
      clear hkeep hk1 o3 oz o4 l3 HSTEP cle
      go_wp2
      go_roundw
      case rel => exact ⟨j + 1, by omega, by go_num, S1⟩
      case measure => simp [intOf]; omega
    · obtain rfl : j = t.table.rows.length := by omega
      have hbox := S.out.box
      have hout := S.out.out
      have b0 : wr.cell? ⟨w.heap.size, 0, none⟩ = some (.int .i64 t.gen) := by rw [cell_of_row _ _ 0 _ _ _ hbox]; rfl
      have b1 : wr.cell? ⟨w.heap.size, 1, none⟩ = some (.int .i64 t.hop) := by rw [cell_of_row _ _ 1 _ _ _ hbox]; rfl
      have b2 : wr.cell? ⟨w.heap.size, 2, none⟩ = some (.slice p1 t.stamps.length c1) := by rw [cell_of_row _ _ 2 _ _ _ hbox]; rfl
      have b3 : wr.cell? ⟨w.heap.size, 3, none⟩ = some (.int .i64 t.table.start) := by rw [cell_of_row _ _ 3 _ _ _ hbox]; rfl
      have r0 : wr.cell? ⟨w.heap.size + 1, 0, none⟩ = some (.int .i64 0) := by rw [cell_of_row _ _ 0 _ _ _ hout]; rfl
      have r1 : wr.cell? ⟨w.heap.size + 1, 1, none⟩ = some (.int .i64 0) := by rw [cell_of_row _ _ 1 _ _ _ hout]; rfl
      have r2 : wr.cell? ⟨w.heap.size + 1, 2, none⟩ = some (.slice none 0 0) := by rw [cell_of_row _ _ 2 _ _ _ hout]; rfl
      have r3 : wr.cell? ⟨w.heap.size + 1, 3, none⟩ = some (.int .i64 0) := by rw [cell_of_row _ _ 3 _ _ _ hout]; rfl
      have r4 : wr.cell? ⟨w.heap.size + 1, 4, none⟩ = some (.slice none 0 0) := by rw [cell_of_row _ _ 4 _ _ _ hout]; rfl
      have y0 : wr.frozen? ⟨w.heap.size + 1, 0, none⟩ = false := frozen_of hout
      have y1 : wr.frozen? ⟨w.heap.size + 1, 1, none⟩ = false := frozen_of hout
      have y2 : wr.frozen? ⟨w.heap.size + 1, 2, none⟩ = false := frozen_of hout
      have y3 : wr.frozen? ⟨w.heap.size + 1, 3, none⟩ = false := frozen_of hout
      have y4 : wr.frozen? ⟨w.heap.size + 1, 4, none⟩ = false := frozen_of hout
      clear hbox hout
      go_wp2
      refine bodyPost_ret (v := .agg #[.int .i64 t.gen, .int .i64 t.hop, .slice p1 t.stamps.length c1, .int .i64 t.table.start, .slice p3 t.table.rows.length c3]) (by simp [results, Tryz.results53, go_sem, *]) rfl ?_
      obtain ⟨e1, e2, e3⟩ := S.out.own (((((grown_set (w := wr) (w.heap.size + 1) 0 (.int .i64 t.gen)).trans (grown_set (w.heap.size + 1) 1 (.int .i64 t.hop))).trans (grown_set (w.heap.size + 1) 2 (.slice p1 t.stamps.length c1))).trans (grown_set (w.heap.size + 1) 3 (.int .i64 t.table.start))).trans (grown_set (w.heap.size + 1) 4 (.slice p3 t.table.rows.length c3)))
      exact ⟨p1, c1, p3, c3, rfl, e1, ⟨e2.1, e2.2, HC3.out⟩, e3⟩
end Go.Proofs.YtbgdlokegibkmaaGreat.Frame
