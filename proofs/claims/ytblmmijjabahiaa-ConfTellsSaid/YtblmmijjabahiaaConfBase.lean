/-
  What the calls of package conf on configurations stand on: a configuration as a value, its rates in memory, its box. Any configuration, any world.
-/
import Derived.Test.YtblmmijjabahiaaConfNums
import Derived.Test.YtblmmijjabahiaaRingRow
import Derived.Below
import Derived.Deep.QuietTactic
import Derived.BigQuiet
namespace Go.Proofs.Ytblmmijjabahiaa.Conf
open Go.RowKit Ring

/-- A cell of what lay stays. -/
theorem cell_stays {w w' : World} (h : Below w.heap.size w w') {a : Addr} {v : Value} (hc : w.cell? a = some v) : w'.cell? a = some v := by
  rw [h.cell (World.block_lt_of_cell? w a hc)]
  exact hc

/-- Rates in memory: two ints each. -/
def IsRates (w : World) (p : Option Addr) (zs : List (Int × Int)) : Prop :=
  zs = [] ∨ ∃ b o, p = some ⟨b, o, none⟩ ∧ ∀ i, i < zs.length →
    w.cell? ⟨b, o + i * 2, none⟩ = some (.int .i64 (zs.getD i (0, 0)).1) ∧ w.cell? ⟨b, o + i * 2 + 1, none⟩ = some (.int .i64 (zs.getD i (0, 0)).2)
theorem IsRates.stays {w w' : World} {p : Option Addr} {zs : List (Int × Int)} (h : IsRates w p zs) (hb : Below w.heap.size w w') : IsRates w' p zs := by
  rcases h with h | ⟨b, o, hp, h⟩
  · exact .inl h
  · exact .inr ⟨b, o, hp, fun i hi => ⟨cell_stays hb (h i hi).1, cell_stays hb (h i hi).2⟩⟩

/-- A box of nine cells at a block. -/
def Nine (W : World) (g : Nat) (v0 v1 v2 v3 v4 v5 v6 v7 v8 : Value) : Prop :=
  W.cell? ⟨g, 0, none⟩ = some v0 ∧ W.cell? ⟨g, 1, none⟩ = some v1 ∧ W.cell? ⟨g, 2, none⟩ = some v2 ∧ W.cell? ⟨g, 3, none⟩ = some v3 ∧ W.cell? ⟨g, 4, none⟩ = some v4 ∧
  W.cell? ⟨g, 5, none⟩ = some v5 ∧ W.cell? ⟨g, 6, none⟩ = some v6 ∧ W.cell? ⟨g, 7, none⟩ = some v7 ∧ W.cell? ⟨g, 8, none⟩ = some v8
theorem Nine.stays {W W' : World} {g : Nat} {v0 v1 v2 v3 v4 v5 v6 v7 v8 : Value} (h : Nine W g v0 v1 v2 v3 v4 v5 v6 v7 v8) (hb : Below W.heap.size W W') : Nine W' g v0 v1 v2 v3 v4 v5 v6 v7 v8 := by
  obtain ⟨h0, h1, h2, h3, h4, h5, h6, h7, h8⟩ := h
  exact ⟨cell_stays hb h0, cell_stays hb h1, cell_stays hb h2, cell_stays hb h3, cell_stays hb h4, cell_stays hb h5, cell_stays hb h6, cell_stays hb h7, cell_stays hb h8⟩
theorem nine_new (w : World) (v0 v1 v2 v3 v4 v5 v6 v7 v8 : Value) (t : TypeId) : Nine (w.alloc (.cells #[v0, v1, v2, v3, v4, v5, v6, v7, v8] t)) w.heap.size v0 v1 v2 v3 v4 v5 v6 v7 v8 := by
  refine ⟨?_, ?_, ?_, ?_, ?_, ?_, ?_, ?_, ?_⟩ <;> (rw [World.cell?_alloc_new]; rfl)
theorem below_new (w : World) (o : Obj) : Below w.heap.size w (w.alloc o) := (Below.refl _ w).alloc (Nat.le_refl _) o

def times (sk tl va lo he : Int) : Bool := within tl 1 2147483648 && within va 1 2147483648 && within lo 1 2147483648 && within he 1 2147483648 && within sk 0 2147483648
def rooms (ke qu : Int) : Bool := within ke 1 16 && within qu 0 16
def rate1 (r : Int × Int) : Bool := within r.1 0 2147483648 && within r.2 0 2147483648
def rates (zs : List (Int × Int)) : Bool := within zs.length 1 8 && zs.all rate1
def check (n sk tl va lo he ke qu : Int) (zs : List (Int × Int)) : Int :=
  if within n 1 64 = false then 21 else if times sk tl va lo he = false then 22 else if rooms ke qu = false then 23 else if rates zs = false then 24 else 0

set_option maxRecDepth 100000 in
set_option maxHeartbeats 1000000 in
theorem rooms_any (n sk tl va lo he ke qu : Int) (p : Option Addr) (l c : Nat) (w : World) :
    Calls Try.prog 81 #[.agg #[.int .i64 n, .int .i64 sk, .int .i64 tl, .int .i64 va, .int .i64 lo, .int .i64 he, .int .i64 ke, .int .i64 qu, .slice p l c]] w fun e w' => e = .returned (.bool (rooms ke qu)) ∧ Below w.heap.size w w' := by
  rcases Bool.eq_false_or_eq_true (within ke 1 16) with h | h
  all_goals
    go_enter Try.func81, Try.ntmps81
    go_wp2_with (go_at_call 87; refine (within_any _ _ _ _).mono ?_; rintro e w' ⟨rfl, rfl⟩)
    go_ret
    exact ⟨ret_bool (by unfold rooms; rw [h]; rfl), below_new _ _⟩

set_option maxRecDepth 100000 in
set_option maxHeartbeats 1000000 in
theorem times_any (n sk tl va lo he ke qu : Int) (p : Option Addr) (l c : Nat) (w : World) :
    Calls Try.prog 80 #[.agg #[.int .i64 n, .int .i64 sk, .int .i64 tl, .int .i64 va, .int .i64 lo, .int .i64 he, .int .i64 ke, .int .i64 qu, .slice p l c]] w fun e w' => e = .returned (.bool (times sk tl va lo he)) ∧ Below w.heap.size w w' := by
  have i0 : ∀ w, (Instr.index 109 (.agg #[.int .i64 tl, .int .i64 va, .int .i64 lo, .int .i64 he]) (.int .i64 0)).run Try.prog w = .ok (.int .i64 tl) w := fun _ => by kernel_rfl
  have i1 : ∀ w, (Instr.index 109 (.agg #[.int .i64 tl, .int .i64 va, .int .i64 lo, .int .i64 he]) (.int .i64 1)).run Try.prog w = .ok (.int .i64 va) w := fun _ => by kernel_rfl
  have i2 : ∀ w, (Instr.index 109 (.agg #[.int .i64 tl, .int .i64 va, .int .i64 lo, .int .i64 he]) (.int .i64 2)).run Try.prog w = .ok (.int .i64 lo) w := fun _ => by kernel_rfl
  have i3 : ∀ w, (Instr.index 109 (.agg #[.int .i64 tl, .int .i64 va, .int .i64 lo, .int .i64 he]) (.int .i64 3)).run Try.prog w = .ok (.int .i64 he) w := fun _ => by kernel_rfl
  go_enter Try.func80, Try.ntmps80
  go_wp2
  go_loop [4, 14] (fun _ i => ∃ k : Nat, i = .int .i64 (k : Int) ∧ k ≤ 4 ∧ Hid ((1 ≤ k → within tl 1 2147483648 = true) ∧ (2 ≤ k → within va 1 2147483648 = true) ∧ (3 ≤ k → within lo 1 2147483648 = true) ∧ (4 ≤ k → within he 1 2147483648 = true))) (fun _ i => 4 - (intOf i).toNat)
  case atStart => exact ⟨0, rfl, by omega, Lib.hid ⟨fun h => absurd h (by omega), fun h => absurd h (by omega), fun h => absurd h (by omega), fun h => absurd h (by omega)⟩⟩
  case round =>
    obtain ⟨k, rfl, hk, H⟩ := hrel
    have hk' : k = 0 ∨ k = 1 ∨ k = 2 ∨ k = 3 ∨ k = 4 := by omega
    rcases hk' with rfl | rfl | rfl | rfl | rfl
    · rcases Bool.eq_false_or_eq_true (within tl 1 2147483648) with h | h
      · go_wp2_with (go_at_call 87; refine (within_any _ _ _ _).mono ?_; rintro e w' ⟨rfl, rfl⟩)
        go_round
        case rel => exact ⟨1, by go_num, by omega, Lib.hid ⟨fun _ => h, fun h => absurd h (by omega), fun h => absurd h (by omega), fun h => absurd h (by omega)⟩⟩
        case measure => simp [intOf]
      · go_wp2_with (go_at_call 87; refine (within_any _ _ _ _).mono ?_; rintro e w' ⟨rfl, rfl⟩)
        go_ret
        exact ⟨ret_bool (by unfold times; simp [h]), below_new _ _⟩
    · rcases Bool.eq_false_or_eq_true (within va 1 2147483648) with h | h
      · go_wp2_with (go_at_call 87; refine (within_any _ _ _ _).mono ?_; rintro e w' ⟨rfl, rfl⟩)
        go_round
        case rel => exact ⟨2, by go_num, by omega, Lib.hid ⟨fun _ => H.out.1 (by omega), fun _ => h, fun h => absurd h (by omega), fun h => absurd h (by omega)⟩⟩
        case measure => simp [intOf]
      · go_wp2_with (go_at_call 87; refine (within_any _ _ _ _).mono ?_; rintro e w' ⟨rfl, rfl⟩)
        go_ret
        exact ⟨ret_bool (by unfold times; simp [h]), below_new _ _⟩
    · rcases Bool.eq_false_or_eq_true (within lo 1 2147483648) with h | h
      · go_wp2_with (go_at_call 87; refine (within_any _ _ _ _).mono ?_; rintro e w' ⟨rfl, rfl⟩)
        go_round
        case rel => exact ⟨3, by go_num, by omega, Lib.hid ⟨fun _ => H.out.1 (by omega), fun _ => H.out.2.1 (by omega), fun _ => h, fun h => absurd h (by omega)⟩⟩
        case measure => simp [intOf]
      · go_wp2_with (go_at_call 87; refine (within_any _ _ _ _).mono ?_; rintro e w' ⟨rfl, rfl⟩)
        go_ret
        exact ⟨ret_bool (by unfold times; simp [h]), below_new _ _⟩
    · rcases Bool.eq_false_or_eq_true (within he 1 2147483648) with h | h
      · go_wp2_with (go_at_call 87; refine (within_any _ _ _ _).mono ?_; rintro e w' ⟨rfl, rfl⟩)
        go_round
        case rel => exact ⟨4, by go_num, by omega, Lib.hid ⟨fun _ => H.out.1 (by omega), fun _ => H.out.2.1 (by omega), fun _ => H.out.2.2.1 (by omega), fun _ => h⟩⟩
        case measure => simp [intOf]
      · go_wp2_with (go_at_call 87; refine (within_any _ _ _ _).mono ?_; rintro e w' ⟨rfl, rfl⟩)
        go_ret
        exact ⟨ret_bool (by unfold times; simp [h]), below_new _ _⟩
    · have H1 := H.out.1 (by omega); have H2 := H.out.2.1 (by omega); have H3 := H.out.2.2.1 (by omega); have H4 := H.out.2.2.2 (by omega)
      have HT := Lib.hid (show times sk tl va lo he = within sk 0 2147483648 by unfold times; simp [H1, H2, H3, H4])
      clear H H1 H2 H3 H4
      go_wp2_with (go_at_call 87; refine (within_any _ _ _ _).mono ?_; rintro e w' ⟨rfl, rfl⟩)
      go_ret
      exact ⟨ret_bool HT.out.symm, below_new _ _⟩
end Go.Proofs.Ytblmmijjabahiaa.Conf
