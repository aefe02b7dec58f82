/-
  cmp.Compare and cmp.Or at ints; the program's later, Newer and At (package token): of any places.
-/
import Derived.Test.YtkdjhphakopfeaaTokWay
import Derived.Outline
import Derived.IntWalk
import Derived.Deep.QuietTactic
import Derived.BigQuiet
import Derived.Deep.RegionHeld3
import Derived.Laws.StructEq
namespace Go.Proofs.Ytkdjhphakopfeaa.Token
open Go.RowKit
open _root_.Go.Proofs.Ytkdjhphakopfeaa.Frame (Rw Tb Tk noRow LeasesAt RowAt RowsAt cell_on Asked tokenOk)
open _root_.Go.Proofs.Ytkdjhphakopfeaa.Codec (Ints lt_of_heap frozen_of heap_set)

/-- What compares two numbers. -/
def cmpI (x y : Int) : Int := if x < y then -1 else if y < x then 1 else 0
theorem isnan_any (x : Int) (w : World) : Calls Try.prog 63 #[.int .i64 x] w fun e w' => e = .returned (.bool false) ∧ w = w' := by
  have h : (x != x) = false := by simp
  go_enter Try.func63, Try.ntmps63
  go_wp2
  go_ret
  exact ⟨rfl, rfl⟩
theorem cmp_any (x y : Int) (w : World) : Calls Try.prog 56 #[.int .i64 x, .int .i64 y] w fun e w' => e = .returned (.int .i64 (cmpI x y)) ∧ w = w' := by
  have hcase : (x < y ∧ cmpI x y = -1) ∨ (¬ x < y ∧ y < x ∧ cmpI x y = 1) ∨ (¬ x < y ∧ ¬ y < x ∧ cmpI x y = 0) := by
    unfold cmpI
    by_cases h1 : x < y <;> by_cases h2 : y < x <;> simp [h1, h2]
  generalize cmpI x y = R at *
  rcases hcase with ⟨h1, rfl⟩ | ⟨h1, h2, rfl⟩ | ⟨h1, h2, rfl⟩
  all_goals
    go_enter Try.func56, Try.ntmps56
    go_wp2_with (go_at_call 63; (with_reducible refine (isnan_any _ _).mono ?_); rintro e w1 ⟨rfl, rfl⟩)
    go_ret
    exact ⟨rfl, rfl⟩
/-- The first of two that is not 0. -/
def orI (x y : Int) : Int := if x = 0 then y else x
theorem or_any (x y : Int) (b : Nat) (w : World) (h0 : w.cell? ⟨b, 0, none⟩ = some (.int .i64 x)) (h1 : w.cell? ⟨b, 1, none⟩ = some (.int .i64 y)) : Calls Try.prog 55 #[.slice (some ⟨b, 0, none⟩) 2 2] w fun e w' => e = .returned (.int .i64 (orI x y)) ∧ w = w' := by
  have hcase : (x != 0) = true ∧ orI x y = x ∨ (x != 0) = false ∧ (y != 0) = true ∧ orI x y = y ∨ (x != 0) = false ∧ (y != 0) = false ∧ orI x y = 0 := by
    unfold orI
    by_cases h1 : x = 0 <;> by_cases h2 : y = 0 <;> simp [h1, h2]
  generalize orI x y = R at *
  rcases hcase with ⟨h2, rfl⟩ | ⟨h2, h3, rfl⟩ | ⟨h2, h3, rfl⟩
  all_goals
    go_enter Try.func55, Try.ntmps55
    go_wp2
    refine wp_loop_rounds 3 ?_
    rw [rounds_succ]
    go_wp2
    try rw [rounds_succ]
    try go_wp2
    try rw [rounds_succ]
    try go_wp2
    go_ret
    exact ⟨rfl, rfl⟩
theorem later_iff (a b c d : Int) : newer (c, d) (a, b) = decide (orI (cmpI a c) (cmpI b d) < 0) := by
  unfold newer orI cmpI
  by_cases h1 : a < c
  · simp [h1]
  · by_cases h2 : c < a
    · simp [h1, h2, show c ≠ a by omega]
    · by_cases h3 : b < d
      · simp [h3, show c = a by omega]
      · by_cases h4 : d < b <;> simp [h1, h2, h3, h4]
theorem or_new (x y : Int) (u : World) (b : Nat) (hb : b = u.heap.size) : Calls Try.prog 55 #[.slice (some ⟨b, 0, none⟩) 2 2] (u.alloc (.cells #[.int .i64 x, .int .i64 y] 3)).drew fun e w' => e = .returned (.int .i64 (orI x y)) ∧ (u.alloc (.cells #[.int .i64 x, .int .i64 y] 3)).drew = w' := by
  subst hb
  exact or_any x y _ _ (by show (u.alloc (.cells #[.int .i64 x, .int .i64 y] 3)).cell? _ = _; rw [World.cell?_alloc_new]; rfl) (by show (u.alloc (.cells #[.int .i64 x, .int .i64 y] 3)).cell? _ = _; rw [World.cell?_alloc_new]; rfl)
set_option maxRecDepth 100000 in
theorem later_any (a b c d : Int) (w : World) : Calls Try.prog 41 #[.agg #[.int .i64 a, .int .i64 b], .agg #[.int .i64 c, .int .i64 d]] w (fun e w' => e = .returned (if newer (c, d) (a, b) then .agg #[.int .i64 c, .int .i64 d] else .agg #[.int .i64 a, .int .i64 b]) ∧ Below w.heap.size w w') := by
  have M0 := Lib.hid ((((Mem.start w).box #[.int .i64 a, .int .i64 b] 52).box #[.int .i64 c, .int .i64 d] 52).box #[.int .i64 0, .int .i64 0] 52)
  simp only [size_alloc] at M0
  obtain ⟨c0, c1, -⟩ := box2 (M0.out.boxes 1 _ _ _ rfl)
  obtain ⟨a0, a1, -⟩ := box2 (M0.out.boxes 2 _ _ _ rfl)
  have hcase : (orI (cmpI a c) (cmpI b d) < 0 ∧ newer (c, d) (a, b) = true) ∨ (¬ orI (cmpI a c) (cmpI b d) < 0 ∧ newer (c, d) (a, b) = false) := by
    rw [later_iff]
    by_cases h : orI (cmpI a c) (cmpI b d) < 0 <;> simp [h]
  generalize newer (c, d) (a, b) = R at *
  rcases hcase with ⟨hz, rfl⟩ | ⟨hz, rfl⟩
  all_goals
    go_enter Try.func41, Try.ntmps41
    go_wp2
    generalize ((w.alloc (.cells #[.int .i64 a, .int .i64 b] 52)).alloc (.cells #[.int .i64 c, .int .i64 d] 52)).alloc (.cells #[.int .i64 0, .int .i64 0] 52) = W at *
    go_region_held3 (fun u => u.cell? ⟨w.heap.size, 0, none⟩ = some (.int .i64 a) ∧ u.cell? ⟨w.heap.size, 1, none⟩ = some (.int .i64 b) ∧ u.cell? ⟨w.heap.size + 1, 0, none⟩ = some (.int .i64 c) ∧ u.cell? ⟨w.heap.size + 1, 1, none⟩ = some (.int .i64 d)) (first | exact ⟨a0, a1, c0, c1⟩ | go_keep) (first | (go_at_call 56; (with_reducible refine (cmp_any _ _ _).mono ?_); rintro e w' ⟨rfl, rfl⟩) | (go_at_call 55; (with_reducible refine (or_new _ _ _ _ ?hb).mono ?_); (case hb => simp); rintro e w' ⟨rfl, rfl⟩))
    have M1 := Lib.hid (M0.out.on (((Below.refl _ _).alloc (Nat.le_refl _) (.cells #[.int .i64 (cmpI a c), .int .i64 (cmpI b d)] 3)).drew))
    clear M0 a0 a1 c0 c1
    generalize (W.alloc (.cells #[.int .i64 (cmpI a c), .int .i64 (cmpI b d)] 3)).drew = V at *
    obtain ⟨r0, r1, ff⟩ := box2 (M1.out.boxes 0 _ _ _ rfl)
    have f0 := ff 0
    have f1 := ff 1
    obtain ⟨c0, c1, -⟩ := box2 (M1.out.boxes 1 _ _ _ rfl)
    obtain ⟨a0, a1, -⟩ := box2 (M1.out.boxes 2 _ _ _ rfl)
    have hB := Lib.hid (fun x y => ((M1.out.below.setCell (p := ⟨w.heap.size + 1 + 1, 0, none⟩) (by show w.heap.size ≤ w.heap.size + 1 + 1; omega) x).setCell (p := ⟨w.heap.size + 1 + 1, 1, none⟩) (by show w.heap.size ≤ w.heap.size + 1 + 1; omega) y))
    clear M1 ff
    generalize orI (cmpI a c) (cmpI b d) = z at *
    go_wp2
    refine bodyPost_ret (by simp [results, Try.results41, go_sem, r0, r1]) rfl ⟨rfl, hB.out _ _⟩
theorem newer_later (a b c d : Int) : newer (a, b) (c, d) = (!(a == c && b == d) && !newer (c, d) (a, b)) := by
  unfold newer
  by_cases h1 : a < c
  · simp [h1, show ¬ c < a by omega, show a ≠ c by omega]
  · by_cases h2 : c < a
    · simp [h1, h2, show c ≠ a by omega, show a ≠ c by omega]
    · obtain rfl : a = c := by omega
      by_cases h3 : b < d
      · simp [h3, show ¬ d < b by omega]
      · by_cases h4 : d < b
        · simp [h3, h4, show b ≠ d by omega]
        · simp [show b = d by omega]
theorem same_place (x y x' y' : Int) (w : World) : (Op.equalIn 10000 52 (.agg #[.int .i64 x, .int .i64 y]) (.agg #[.int .i64 x', .int .i64 y'])).run Try.prog w = .ok (x == x' && y == y') w := by
  rw [run_equalIn_agg w 9999 _ _ _ (by kernel_rfl) (by kernel_rfl)]
  have e : ∀ (a b : Int) (w : World), (Op.equalIn 9999 3 (.int .i64 a) (.int .i64 b)).run Try.prog w = .ok (a == b) w := fun a b w => run_equalIn_int w 9998 _ _ _ a b Try.underlying3
  cases h : (x == x')
  · simp [Program.fieldsOf, Try.underlying52, Op.eqFields, part, isAgg, run_underlying Try.underlying3, e, h]
  · by_cases k : y = y'
    · simp [Program.fieldsOf, Try.underlying52, Op.eqFields, part, isAgg, run_underlying Try.underlying3, e, h, k]
    · simp [Program.fieldsOf, Try.underlying52, Op.eqFields, part, isAgg, run_underlying Try.underlying3, e, h, k]
theorem place_neq (x y x' y' : Int) (w : World) : (binOp .neq 52 (.agg #[.int .i64 x, .int .i64 y]) (.agg #[.int .i64 x', .int .i64 y'])).run Try.prog w = .ok (.bool (!(x == x' && y == y'))) w := by
  rw [run_neq_struct, same_place]; rfl
theorem place_eql (x y x' y' : Int) (w : World) : (binOp .eql 52 (.agg #[.int .i64 x, .int .i64 y]) (.agg #[.int .i64 x', .int .i64 y'])).run Try.prog w = .ok (.bool (x == x' && y == y')) w := by
  rw [run_eql_struct, same_place]; rfl
set_option maxRecDepth 100000 in
theorem pnewer_any (a b c d : Int) (w : World) : Calls Try.prog 26 #[.agg #[.int .i64 a, .int .i64 b], .agg #[.int .i64 c, .int .i64 d]] w (Asked w (newer (a, b) (c, d))) := by
  have hl := fun u => later_any a b c d u
  have hne := fun u => place_neq a b c d u
  have he1 := fun u => place_eql a b a b u
  have he2 := fun u => place_eql c d a b u
  have M0 := Lib.hid (((Mem.start w).box #[.int .i64 a, .int .i64 b] 52).box #[.int .i64 c, .int .i64 d] 52)
  simp only [size_alloc] at M0
  obtain ⟨c0, c1, -⟩ := box2 (M0.out.boxes 0 _ _ _ rfl)
  obtain ⟨a0, a1, -⟩ := box2 (M0.out.boxes 1 _ _ _ rfl)
  rw [newer_later]
  generalize newer (c, d) (a, b) = R at *
  rw [show (c == a && d == b) = (a == c && b == d) by rw [Bool.eq_iff_iff]; simp; omega] at he2
  rw [beq_self_eq_true, beq_self_eq_true, Bool.and_self] at he1
  cases hq : (a == c && b == d)
  · simp only [hq, Bool.not_false, Bool.true_and] at hne he2 ⊢
    clear hq
    cases R
    · simp only [Bool.false_eq_true, if_false] at hl
      go_enter Try.func26, Try.ntmps26
      go_wp2
      generalize (w.alloc (.cells #[.int .i64 a, .int .i64 b] 52)).alloc (.cells #[.int .i64 c, .int .i64 d] 52) = W at *
      go_region_held3 (fun u => u.cell? ⟨w.heap.size, 0, none⟩ = some (.int .i64 a) ∧ u.cell? ⟨w.heap.size, 1, none⟩ = some (.int .i64 b) ∧ u.cell? ⟨w.heap.size + 1, 0, none⟩ = some (.int .i64 c) ∧ u.cell? ⟨w.heap.size + 1, 1, none⟩ = some (.int .i64 d)) (first | assumption | exact SL.out | exact ⟨a0, a1, c0, c1⟩ | go_keep) (first | (go_at_call 41; (with_reducible refine (hl _).mono ?_); rintro e w' ⟨rfl, hb⟩; have M1 := Lib.hid (M0.out.drew.on hb); have SL := Lib.hid (And.intro (box2 (M1.out.boxes 1 _ _ _ rfl)).1 (And.intro (box2 (M1.out.boxes 1 _ _ _ rfl)).2.1 (And.intro (box2 (M1.out.boxes 0 _ _ _ rfl)).1 (box2 (M1.out.boxes 0 _ _ _ rfl)).2.1))); clear hb))
      all_goals
        go_wp2
        go_ret
        exact ⟨rfl, M1.out.below⟩
    · simp only [if_true] at hl
      go_enter Try.func26, Try.ntmps26
      go_wp2
      generalize (w.alloc (.cells #[.int .i64 a, .int .i64 b] 52)).alloc (.cells #[.int .i64 c, .int .i64 d] 52) = W at *
      go_region_held3 (fun u => u.cell? ⟨w.heap.size, 0, none⟩ = some (.int .i64 a) ∧ u.cell? ⟨w.heap.size, 1, none⟩ = some (.int .i64 b) ∧ u.cell? ⟨w.heap.size + 1, 0, none⟩ = some (.int .i64 c) ∧ u.cell? ⟨w.heap.size + 1, 1, none⟩ = some (.int .i64 d)) (first | assumption | exact SL.out | exact ⟨a0, a1, c0, c1⟩ | go_keep) (first | (go_at_call 41; (with_reducible refine (hl _).mono ?_); rintro e w' ⟨rfl, hb⟩; have M1 := Lib.hid (M0.out.drew.on hb); have SL := Lib.hid (And.intro (box2 (M1.out.boxes 1 _ _ _ rfl)).1 (And.intro (box2 (M1.out.boxes 1 _ _ _ rfl)).2.1 (And.intro (box2 (M1.out.boxes 0 _ _ _ rfl)).1 (box2 (M1.out.boxes 0 _ _ _ rfl)).2.1))); clear hb))
      all_goals
        go_wp2
        go_ret
        exact ⟨rfl, M1.out.below⟩
  · simp only [hq, Bool.not_true, Bool.false_and] at hne he2 ⊢
    clear hq
    go_enter Try.func26, Try.ntmps26
    go_wp2
    generalize (w.alloc (.cells #[.int .i64 a, .int .i64 b] 52)).alloc (.cells #[.int .i64 c, .int .i64 d] 52) = W at *
    go_quiet (fail)
    go_wp2
    go_ret
    exact ⟨rfl, M0.out.below.trans ⟨rfl, rfl, rfl, Nat.le_refl _, fun _ _ => rfl⟩⟩
set_option maxRecDepth 100000 in
theorem pat_any (t : Tk) (ps : Option Addr) (cs : Nat) (p : Option Addr) (c : Nat) (w : World) : Calls Try.prog 27 #[tokVal t ps cs p c] w fun e w' => e = .returned (.agg #[.int .i64 t.gen, .int .i64 t.hop]) ∧ Below w.heap.size w w' := by
  unfold tokVal
  have M0 := Lib.hid (((Mem.start w).box #[.int .i64 t.gen, .int .i64 t.hop, .slice ps t.stamps.length cs, .int .i64 t.table.start, .slice p t.table.rows.length c] 39).box #[.int .i64 t.gen, .int .i64 t.hop] 52)
  go_enter Try.func27, Try.ntmps27
  go_wp2
  obtain ⟨r0, r1, -⟩ := box2 (M0.out.boxes 0 _ _ _ rfl)
  simp only [size_alloc] at r0 r1
  refine bodyPost_ret (v := .agg #[.int .i64 t.gen, .int .i64 t.hop]) (by simp [results, Try.results27, go_sem, r0, r1]) rfl ⟨rfl, M0.out.below⟩
end Go.Proofs.Ytkdjhphakopfeaa.Token
