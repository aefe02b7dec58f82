/-
  What the calls of package conf on configurations stand on: a configuration as a value, its rates in memory, its box. Any configuration, any world.
  conf.Check, and the document's, of any configuration of at most 100 rates return the same error, and of what lay nothing has turned.
  conf.Rate and the document's Rate of any configuration and key: the rate of the key's policy and true, or a zero rate and false; which one it is, or -1; of what lay nothing has turned.
  An edge as data (its leases, items, notes), requests and answers, and what each of its calls makes and tells. Plain functions, no program.
  Words for memory: answers, the document's edge (a block of thirteen cells: its configuration, wallet, queue, estimates), and what a step of it leaves alone. No conditions beyond those that each names.
  The document's parts of an edge: no, waits, all, serve.
  Answers appended to a row of answers: a row of its own, whose rest is empty; rows and leases stay, wherever they lie.
-/
import Derived.WalkKit
import Derived.ProofKit
import Derived.OpenShut
import Derived.Below
import Derived.Deep.QuietTactic
import Derived.BigQuiet
import Derived.Laws.OwnMore
import Derived.Lib.AppendZeros
import Derived.Test.YtbgdlokegibkmaaGreatMmAa
import Derived.Test.YtbgdlokegibkmaaGreatChecked
import Derived.Test.YtbgdlokegibkmaaGreatMmAb
namespace Go.Proofs.YtbgdlokegibkmaaGreat.Conf
open Go.RowKit Ring
/-- A cell of what lay stays. -/
theorem cell_stays {w w' : World} (h : Below w.heap.size w w') {a : Addr} {v : Value} (hc : w.cell? a = some v) : w'.cell? a = some v := by
  rw [h.cell (World.block_lt_of_cell? w a hc)]
  exact hc
/-- Rates in memory: two ints each. -/
def IsRates (w : World) (p : Option Addr) (zs : List (Int × Int)) : Prop :=
  zs = [] ∨ ∃ b o, p = some ⟨b, o, none⟩ ∧ ∀ i, i < zs.length →
    w.cell? ⟨b, o + i * 2, none⟩ = some (.int .i64 (zs.getD i (0, 0)).1) ∧ w.cell? ⟨b, o + i * 2 + 1, none⟩ = some (.int .i64 (zs.getD i (0, 0)).2)
theorem IsRates.stays {w w' : World} {p : Option Addr} {zs : List (Int × Int)} (h : IsRates w p zs) (hb : Below w.heap.size w w') : IsRates w' p zs := by
  rcases h with h | ⟨b, o, hp, h⟩
  · exact .inl h
  · exact .inr ⟨b, o, hp, fun i hi => ⟨cell_stays hb (h i hi).1, cell_stays hb (h i hi).2⟩⟩
/-- A box of nine cells at a block. -/
def Nine (W : World) (g : Nat) (v0 v1 v2 v3 v4 v5 v6 v7 v8 : Value) : Prop :=
  W.cell? ⟨g, 0, none⟩ = some v0 ∧ W.cell? ⟨g, 1, none⟩ = some v1 ∧ W.cell? ⟨g, 2, none⟩ = some v2 ∧ W.cell? ⟨g, 3, none⟩ = some v3 ∧ W.cell? ⟨g, 4, none⟩ = some v4 ∧
  W.cell? ⟨g, 5, none⟩ = some v5 ∧ W.cell? ⟨g, 6, none⟩ = some v6 ∧ W.cell? ⟨g, 7, none⟩ = some v7 ∧ W.cell? ⟨g, 8, none⟩ = some v8
theorem Nine.stays {W W' : World} {g : Nat} {v0 v1 v2 v3 v4 v5 v6 v7 v8 : Value} (h : Nine W g v0 v1 v2 v3 v4 v5 v6 v7 v8) (hb : Below W.heap.size W W') : Nine W' g v0 v1 v2 v3 v4 v5 v6 v7 v8 := by
  obtain ⟨h0, h1, h2, h3, h4, h5, h6, h7, h8⟩ := h
  exact ⟨cell_stays hb h0, cell_stays hb h1, cell_stays hb h2, cell_stays hb h3, cell_stays hb h4, cell_stays hb h5, cell_stays hb h6, cell_stays hb h7, cell_stays hb h8⟩
theorem nine_new (w : World) (v0 v1 v2 v3 v4 v5 v6 v7 v8 : Value) (t : TypeId) : Nine (w.alloc (.cells #[v0, v1, v2, v3, v4, v5, v6, v7, v8] t)) w.heap.size v0 v1 v2 v3 v4 v5 v6 v7 v8 := by
  refine ⟨?_, ?_, ?_, ?_, ?_, ?_, ?_, ?_, ?_⟩ <;> (rw [World.cell?_alloc_new]; rfl)
theorem below_new (w : World) (o : Obj) : Below w.heap.size w (w.alloc o) := (Below.refl _ w).alloc (Nat.le_refl _) o
def times (sk tl va lo he : Int) : Bool := within tl 1 2147483648 && within va 1 2147483648 && within lo 1 2147483648 && within he 1 2147483648 && within sk 0 2147483648
def rooms (ke qu : Int) : Bool := within ke 1 16 && within qu 0 16
def rate1 (r : Int × Int) : Bool := within r.1 0 2147483648 && within r.2 0 2147483648
def rates (zs : List (Int × Int)) : Bool := within zs.length 1 8 && zs.all rate1
def check (n sk tl va lo he ke qu : Int) (zs : List (Int × Int)) : Int :=
  if within n 1 64 = false then 21 else if times sk tl va lo he = false then 22 else if rooms ke qu = false then 23 else if rates zs = false then 24 else 0
set_option maxRecDepth 100000 in
set_option maxHeartbeats 1000000 in
theorem rooms_any (n sk tl va lo he ke qu : Int) (p : Option Addr) (l c : Nat) (w : World) :
    Calls Tryz.prog 75 #[.agg #[.int .i64 n, .int .i64 sk, .int .i64 tl, .int .i64 va, .int .i64 lo, .int .i64 he, .int .i64 ke, .int .i64 qu, .slice p l c]] w fun e w' => e = .returned (.bool (rooms ke qu)) ∧ Below w.heap.size w w' := by
  rcases Bool.eq_false_or_eq_true (within ke 1 16) with h | h
  all_goals
    go_enter Tryz.func75, Tryz.ntmps75
    go_wp2_with (go_at_call 133; refine (within_any _ _ _ _).mono ?_; rintro e w' ⟨rfl, rfl⟩)
    go_ret
    exact ⟨ret_bool (by unfold rooms; rw [h]; rfl), below_new _ _⟩
set_option maxRecDepth 100000 in
set_option maxHeartbeats 1000000 in
theorem times_any (n sk tl va lo he ke qu : Int) (p : Option Addr) (l c : Nat) (w : World) :
    Calls Tryz.prog 74 #[.agg #[.int .i64 n, .int .i64 sk, .int .i64 tl, .int .i64 va, .int .i64 lo, .int .i64 he, .int .i64 ke, .int .i64 qu, .slice p l c]] w fun e w' => e = .returned (.bool (times sk tl va lo he)) ∧ Below w.heap.size w w' := by
  have i0 : ∀ w, (Instr.index 197 (.agg #[.int .i64 tl, .int .i64 va, .int .i64 lo, .int .i64 he]) (.int .i64 0)).run Tryz.prog w = .ok (.int .i64 tl) w := fun _ => by kernel_rfl
  have i1 : ∀ w, (Instr.index 197 (.agg #[.int .i64 tl, .int .i64 va, .int .i64 lo, .int .i64 he]) (.int .i64 1)).run Tryz.prog w = .ok (.int .i64 va) w := fun _ => by kernel_rfl
  have i2 : ∀ w, (Instr.index 197 (.agg #[.int .i64 tl, .int .i64 va, .int .i64 lo, .int .i64 he]) (.int .i64 2)).run Tryz.prog w = .ok (.int .i64 lo) w := fun _ => by kernel_rfl
  have i3 : ∀ w, (Instr.index 197 (.agg #[.int .i64 tl, .int .i64 va, .int .i64 lo, .int .i64 he]) (.int .i64 3)).run Tryz.prog w = .ok (.int .i64 he) w := fun _ => by kernel_rfl
  go_enter Tryz.func74, Tryz.ntmps74
  go_wp2
  go_loop [4, 14] (fun _ i => ∃ k : Nat, i = .int .i64 (k : Int) ∧ k ≤ 4 ∧ Hid ((1 ≤ k → within tl 1 2147483648 = true) ∧ (2 ≤ k → within va 1 2147483648 = true) ∧ (3 ≤ k → within lo 1 2147483648 = true) ∧ (4 ≤ k → within he 1 2147483648 = true))) (fun _ i => 4 - (intOf i).toNat)
  case atStart => exact ⟨0, rfl, by omega, Lib.hid ⟨fun h => absurd h (by omega), fun h => absurd h (by omega), fun h => absurd h (by omega), fun h => absurd h (by omega)⟩⟩
  case round =>
    obtain ⟨k, rfl, hk, H⟩ := hrel
    have hk' : k = 0 ∨ k = 1 ∨ k = 2 ∨ k = 3 ∨ k = 4 := by omega
    rcases hk' with rfl | rfl | rfl | rfl | rfl
    · rcases Bool.eq_false_or_eq_true (within tl 1 2147483648) with h | h
      · go_wp2_with (go_at_call 133; refine (within_any _ _ _ _).mono ?_; rintro e w' ⟨rfl, rfl⟩)
        go_round
        case rel => exact ⟨1, by go_num, by omega, Lib.hid ⟨fun _ => h, fun h => absurd h (by omega), fun h => absurd h (by omega), fun h => absurd h (by omega)⟩⟩
        case measure => simp [intOf]
      · go_wp2_with (go_at_call 133; refine (within_any _ _ _ _).mono ?_; rintro e w' ⟨rfl, rfl⟩)
        go_ret
        exact ⟨ret_bool (by unfold times; simp [h]), below_new _ _⟩
    · rcases Bool.eq_false_or_eq_true (within va 1 2147483648) with h | h
      · go_wp2_with (go_at_call 133; refine (within_any _ _ _ _).mono ?_; rintro e w' ⟨rfl, rfl⟩)
        go_round
        case rel => exact ⟨2, by go_num, by omega, Lib.hid ⟨fun _ => H.out.1 (by omega), fun _ => h, fun h => absurd h (by omega), fun h => absurd h (by omega)⟩⟩
        case measure => simp [intOf]
      · go_wp2_with (go_at_call 133; refine (within_any _ _ _ _).mono ?_; rintro e w' ⟨rfl, rfl⟩)
        go_ret
        exact ⟨ret_bool (by unfold times; simp [h]), below_new _ _⟩
    · rcases Bool.eq_false_or_eq_true (within lo 1 2147483648) with h | h
      · go_wp2_with (go_at_call 133; refine (within_any _ _ _ _).mono ?_; rintro e w' ⟨rfl, rfl⟩)
        go_round
        case rel => exact ⟨3, by go_num, by omega, Lib.hid ⟨fun _ => H.out.1 (by omega), fun _ => H.out.2.1 (by omega), fun _ => h, fun h => absurd h (by omega)⟩⟩
        case measure => simp [intOf]
      · go_wp2_with (go_at_call 133; refine (within_any _ _ _ _).mono ?_; rintro e w' ⟨rfl, rfl⟩)
        go_ret
        exact ⟨ret_bool (by unfold times; simp [h]), below_new _ _⟩
    · rcases Bool.eq_false_or_eq_true (within he 1 2147483648) with h | h
      · go_wp2_with (go_at_call 133; refine (within_any _ _ _ _).mono ?_; rintro e w' ⟨rfl, rfl⟩)
        go_round
        case rel => exact ⟨4, by go_num, by omega, Lib.hid ⟨fun _ => H.out.1 (by omega), fun _ => H.out.2.1 (by omega), fun _ => H.out.2.2.1 (by omega), fun _ => h⟩⟩
        case measure => simp [intOf]
      · go_wp2_with (go_at_call 133; refine (within_any _ _ _ _).mono ?_; rintro e w' ⟨rfl, rfl⟩)
        go_ret
        exact ⟨ret_bool (by unfold times; simp [h]), below_new _ _⟩
    · have H1 := H.out.1 (by omega); have H2 := H.out.2.1 (by omega); have H3 := H.out.2.2.1 (by omega); have H4 := H.out.2.2.2 (by omega)
      have HT := Lib.hid (show times sk tl va lo he = within sk 0 2147483648 by unfold times; simp [H1, H2, H3, H4])
      clear H H1 H2 H3 H4
      go_wp2_with (go_at_call 133; refine (within_any _ _ _ _).mono ?_; rintro e w' ⟨rfl, rfl⟩)
      go_ret
      exact ⟨ret_bool HT.out.symm, below_new _ _⟩
end Go.Proofs.YtbgdlokegibkmaaGreat.Conf

namespace Go.Proofs.YtbgdlokegibkmaaGreat.Conf
open Go.RowKit Ring
theorem all_take (zs : List (Int × Int)) (k : Nat) (h : k < zs.length) : (zs.take (k + 1)).all rate1 = ((zs.take k).all rate1 && (within (zs.getD k (0, 0)).1 0 2147483648 && within (zs.getD k (0, 0)).2 0 2147483648)) := by
  have e : zs.getD k (0, 0) = zs[k] := by simp [h]
  rw [e, List.take_succ_eq_append_getElem h, List.all_append]
  simp [rate1]
theorem all_no (zs : List (Int × Int)) (k : Nat) (h : k < zs.length) (hr : (within (zs.getD k (0, 0)).1 0 2147483648 && within (zs.getD k (0, 0)).2 0 2147483648) = false) : zs.all rate1 = false := by
  have e : zs.getD k (0, 0) = zs[k] := by simp [h]
  rw [e] at hr
  rw [List.all_eq_false]
  exact ⟨zs[k], List.getElem_mem h, by unfold rate1; rw [hr]; exact Bool.false_ne_true⟩
set_option maxRecDepth 100000 in
set_option maxHeartbeats 1000000 in
theorem rates_any (p : Option Addr) (zs : List (Int × Int)) (c : Nat) (w : World) (hl : zs.length ≤ 100) (hr : IsRates w p zs) :
    Calls Tryz.prog 76 #[.slice p zs.length c] w fun e w' => e = .returned (.bool (rates zs)) ∧ Below w.heap.size w w' := by
  rcases Bool.eq_false_or_eq_true (within zs.length 1 8) with h | h
  · rcases hr with h0 | ⟨b, o, rfl, hr⟩
    · subst h0; exact absurd h (by decide)
    have HR := Lib.hid hr; clear hr
    have HT := Lib.hid (show rates zs = zs.all rate1 by unfold rates; rw [h]; rfl)
    go_enter Tryz.func76, Tryz.ntmps76
    go_wp2_with (go_at_call 133; refine (within_any _ _ _ _).mono ?_; rintro e w' ⟨rfl, rfl⟩)
    go_loopw [11] (fun i wr => ∃ k : Nat, i = .int .i64 (k : Int) ∧ k ≤ zs.length ∧ Hid ((zs.take k).all rate1 = true) ∧ Hid (Below w.heap.size w wr)) (fun i _ => zs.length - (intOf i).toNat)
    case atStart => exact ⟨0, rfl, by omega, Lib.hid rfl, Lib.hid (Below.refl _ _)⟩
    case round =>
      obtain ⟨k, rfl, hk, HA, HB⟩ := hrel
      by_cases hlt : k < zs.length
      · have hlt' : (k : Int) < (zs.length : Int) := by omega
        have g1 : wr.cell? ⟨b, o + k * 2, none⟩ = some (.int .i64 (zs.getD k (0, 0)).1) := cell_stays HB.out (HR.out k hlt).1
        have g2 : wr.cell? ⟨b, o + k * 2 + 1, none⟩ = some (.int .i64 (zs.getD k (0, 0)).2) := cell_stays HB.out (HR.out k hlt).2
        have at1 := all_take zs k hlt
        have an := all_no zs k hlt
        have AT := Lib.hid at1; clear at1
        have AN := Lib.hid an; clear an
        generalize (zs.getD k (0, 0)).1 = x at *
        generalize (zs.getD k (0, 0)).2 = y at *
        rcases Bool.eq_false_or_eq_true (within x 0 2147483648) with h1 | h1
        · rcases Bool.eq_false_or_eq_true (within y 0 2147483648) with h2 | h2
          · go_wp2_with (go_at_call 133; refine (within_any _ _ _ _).mono ?_; rintro e w' ⟨rfl, rfl⟩)
            go_roundw
            case rel => exact ⟨k + 1, by go_num, by omega, Lib.hid (by rw [AT.out, HA.out, h1, h2]; rfl), Lib.hid (HB.out.alloc HB.out.size _)⟩
            case measure => simp only [intOf]; omega
          · go_wp2_with (go_at_call 133; refine (within_any _ _ _ _).mono ?_; rintro e w' ⟨rfl, rfl⟩)
            go_ret
            exact ⟨ret_bool (by rw [HT.out, AN.out (by rw [h1, h2]; rfl)]), HB.out.alloc HB.out.size _⟩
        · go_wp2_with (go_at_call 133; refine (within_any _ _ _ _).mono ?_; rintro e w' ⟨rfl, rfl⟩)
          go_ret
          exact ⟨ret_bool (by rw [HT.out, AN.out (by rw [h1]; rfl)]), HB.out.alloc HB.out.size _⟩
      · have hke : k = zs.length := by omega
        subst hke
        go_wp2
        go_ret
        exact ⟨ret_bool (by rw [HT.out]; have h := HA.out; rw [List.take_length] at h; rw [h]), HB.out⟩
  · have HT := Lib.hid (show rates zs = false by unfold rates; rw [h]; rfl)
    go_enter Tryz.func76, Tryz.ntmps76
    go_wp2_with (go_at_call 133; refine (within_any _ _ _ _).mono ?_; rintro e w' ⟨rfl, rfl⟩)
    go_ret
    exact ⟨ret_bool HT.out.symm, Below.refl _ _⟩
/-- How the world stands behind the box of a call's argument: what lay is as it was, and the box holds the configuration. -/
def Stand (w W : World) (n sk tl va lo he ke qu : Int) (p : Option Addr) (l c : Nat) : Prop :=
  Below w.heap.size w W ∧ Nine W w.heap.size (.int .i64 n) (.int .i64 sk) (.int .i64 tl) (.int .i64 va) (.int .i64 lo) (.int .i64 he) (.int .i64 ke) (.int .i64 qu) (.slice p l c)
theorem start (w : World) (n sk tl va lo he ke qu : Int) (p : Option Addr) (l c : Nat) : Stand w (w.alloc (.cells #[.int .i64 n, .int .i64 sk, .int .i64 tl, .int .i64 va, .int .i64 lo, .int .i64 he, .int .i64 ke, .int .i64 qu, .slice p l c] 24)) n sk tl va lo he ke qu p l c :=
  ⟨below_new _ _, nine_new _ _ _ _ _ _ _ _ _ _ _⟩
theorem Stand.step {w W W' : World} {n sk tl va lo he ke qu : Int} {p : Option Addr} {l c : Nat} (h : Stand w W n sk tl va lo he ke qu p l c) (hb : Below W.heap.size W W') : Stand w W' n sk tl va lo he ke qu p l c :=
  ⟨h.1.trans (hb.mono h.1.size), h.2.stays hb⟩
set_option maxRecDepth 100000 in
set_option maxHeartbeats 1000000 in
theorem check_core (n sk tl va lo he ke qu : Int) (p : Option Addr) (l c : Nat) (w : World) (tb rb zb : Bool) (r : Int)
    (cT : ∀ u, Stand w u n sk tl va lo he ke qu p l c → Calls Tryz.prog 74 #[.agg #[.int .i64 n, .int .i64 sk, .int .i64 tl, .int .i64 va, .int .i64 lo, .int .i64 he, .int .i64 ke, .int .i64 qu, .slice p l c]] u fun e W => e = .returned (.bool tb) ∧ Stand w W n sk tl va lo he ke qu p l c ∧ Nine W w.heap.size (.int .i64 n) (.int .i64 sk) (.int .i64 tl) (.int .i64 va) (.int .i64 lo) (.int .i64 he) (.int .i64 ke) (.int .i64 qu) (.slice p l c))
    (cR : ∀ u, Stand w u n sk tl va lo he ke qu p l c → Calls Tryz.prog 75 #[.agg #[.int .i64 n, .int .i64 sk, .int .i64 tl, .int .i64 va, .int .i64 lo, .int .i64 he, .int .i64 ke, .int .i64 qu, .slice p l c]] u fun e W => e = .returned (.bool rb) ∧ Stand w W n sk tl va lo he ke qu p l c ∧ Nine W w.heap.size (.int .i64 n) (.int .i64 sk) (.int .i64 tl) (.int .i64 va) (.int .i64 lo) (.int .i64 he) (.int .i64 ke) (.int .i64 qu) (.slice p l c))
    (cZ : ∀ u, Stand w u n sk tl va lo he ke qu p l c → Calls Tryz.prog 76 #[.slice p l c] u fun e W => e = .returned (.bool zb) ∧ Stand w W n sk tl va lo he ke qu p l c)
    (h : (within n 1 64 = false ∧ r = 21) ∨ (within n 1 64 = true ∧ tb = false ∧ r = 22) ∨ (within n 1 64 = true ∧ tb = true ∧ rb = false ∧ r = 23) ∨ (within n 1 64 = true ∧ tb = true ∧ rb = true ∧ zb = false ∧ r = 24) ∨ (within n 1 64 = true ∧ tb = true ∧ rb = true ∧ zb = true ∧ r = 0)) :
    Calls Tryz.prog 31 #[.agg #[.int .i64 n, .int .i64 sk, .int .i64 tl, .int .i64 va, .int .i64 lo, .int .i64 he, .int .i64 ke, .int .i64 qu, .slice p l c]] w fun e w' => e = .returned (.int .i64 r) ∧ Below w.heap.size w w' := by
  rcases h with ⟨h1, rfl⟩ | ⟨h1, rfl, rfl⟩ | ⟨h1, rfl, rfl, rfl⟩ | ⟨h1, rfl, rfl, rfl, rfl⟩ | ⟨h1, rfl, rfl, rfl, rfl⟩
  · go_enter Tryz.func31, Tryz.ntmps31
    go_wp2_with (first
      | (go_at_call 73; refine (isRing_any _ _).mono ?_; rintro e w' ⟨rfl, rfl⟩)
      | (go_at_call 74; (first | (with_reducible refine (cT _ hP).mono ?_) | (with_reducible refine (cT _ (start _ _ _ _ _ _ _ _ _ _ _ _)).mono ?_)); (try clear hP c0 c1 c2 c3 c4 c5 c6 c7 c8); rintro e w1 ⟨rfl, hP, c0, c1, c2, c3, c4, c5, c6, c7, c8⟩)
      | (go_at_call 75; (with_reducible refine (cR _ hP).mono ?_); (try clear hP c0 c1 c2 c3 c4 c5 c6 c7 c8); rintro e w1 ⟨rfl, hP, c0, c1, c2, c3, c4, c5, c6, c7, c8⟩)
      | (go_at_call 76; (with_reducible refine (cZ _ hP).mono ?_); (try clear hP c0 c1 c2 c3 c4 c5 c6 c7 c8); rintro e w1 ⟨rfl, hP⟩))
    go_ret
    exact ⟨rfl, below_new _ _⟩
  all_goals
    go_enter Tryz.func31, Tryz.ntmps31
    go_wp2_with (first
      | (go_at_call 73; refine (isRing_any _ _).mono ?_; rintro e w' ⟨rfl, rfl⟩)
      | (go_at_call 74; (first | (with_reducible refine (cT _ hP).mono ?_) | (with_reducible refine (cT _ (start _ _ _ _ _ _ _ _ _ _ _ _)).mono ?_)); (try clear hP c0 c1 c2 c3 c4 c5 c6 c7 c8); rintro e w1 ⟨rfl, hP, c0, c1, c2, c3, c4, c5, c6, c7, c8⟩)
      | (go_at_call 75; (with_reducible refine (cR _ hP).mono ?_); (try clear hP c0 c1 c2 c3 c4 c5 c6 c7 c8); rintro e w1 ⟨rfl, hP, c0, c1, c2, c3, c4, c5, c6, c7, c8⟩)
      | (go_at_call 76; (with_reducible refine (cZ _ hP).mono ?_); (try clear hP c0 c1 c2 c3 c4 c5 c6 c7 c8); rintro e w1 ⟨rfl, hP⟩))
    go_ret
    exact ⟨rfl, hP.1⟩
theorem check_any (n sk tl va lo he ke qu : Int) (p : Option Addr) (zs : List (Int × Int)) (c : Nat) (w : World) (hl : zs.length ≤ 100) (hr : IsRates w p zs) :
    Calls Tryz.prog 31 #[.agg #[.int .i64 n, .int .i64 sk, .int .i64 tl, .int .i64 va, .int .i64 lo, .int .i64 he, .int .i64 ke, .int .i64 qu, .slice p zs.length c]] w fun e w' => e = .returned (.int .i64 (check n sk tl va lo he ke qu zs)) ∧ Below w.heap.size w w' := by
  refine check_core n sk tl va lo he ke qu p zs.length c w (times sk tl va lo he) (rooms ke qu) (rates zs) _
    (fun u hu => (times_any n sk tl va lo he ke qu p zs.length c u).mono fun e W k => ⟨k.1, hu.step k.2, (hu.step k.2).2⟩)
    (fun u hu => (rooms_any n sk tl va lo he ke qu p zs.length c u).mono fun e W k => ⟨k.1, hu.step k.2, (hu.step k.2).2⟩)
    (fun u hu => (rates_any p zs c u hl (hr.stays hu.1)).mono fun e W k => ⟨k.1, hu.step k.2⟩) ?_
  unfold check
  rcases Bool.eq_false_or_eq_true (within n 1 64) with h1 | h1
  · rcases Bool.eq_false_or_eq_true (times sk tl va lo he) with h2 | h2
    · rcases Bool.eq_false_or_eq_true (rooms ke qu) with h3 | h3
      · rcases Bool.eq_false_or_eq_true (rates zs) with h4 | h4
        · exact .inr (.inr (.inr (.inr ⟨h1, h2, h3, h4, by simp [h1, h2, h3, h4]⟩)))
        · exact .inr (.inr (.inr (.inl ⟨h1, h2, h3, h4, by simp [h1, h2, h3, h4]⟩)))
      · exact .inr (.inr (.inl ⟨h1, h2, h3, by simp [h1, h2, h3]⟩))
    · exact .inr (.inl ⟨h1, h2, by simp [h1, h2]⟩)
  · exact .inl ⟨h1, by simp [h1]⟩
end Go.Proofs.YtbgdlokegibkmaaGreat.Conf

namespace Go.Proofs.YtbgdlokegibkmaaGreat.Conf
open Go.RowKit Ring
set_option maxRecDepth 100000 in
set_option maxHeartbeats 1000000 in
theorem rate_none (n sk tl va lo he ke qu : Int) (p : Option Addr) (l c : Nat) (key : Int) (w : World) (h : within key 0 524287 = false ∨ (within key 0 524287 = true ∧ 0 ≤ key ∧ key ≤ 524287 ∧ (l : Int) ≤ key / 65536)) :
    Calls Tryz.prog 83 #[.agg #[.int .i64 n, .int .i64 sk, .int .i64 tl, .int .i64 va, .int .i64 lo, .int .i64 he, .int .i64 ke, .int .i64 qu, .slice p l c], .int .i64 key] w fun e w' => e = .returned (.tuple #[.agg #[.int .i64 0, .int .i64 0], .bool false]) ∧ Below w.heap.size w w' := by
  rcases h with h | ⟨h, h1, h1', h2⟩
  all_goals
    go_enter Tryz.func83, Tryz.ntmps83
    go_wp2_with (go_at_call 134; refine (right_any _ _).mono ?_; rintro e w' ⟨rfl, rfl⟩)
    refine bodyPost_ret (v := .tuple #[.agg #[.int .i64 0, .int .i64 0], .bool false]) (by simp [results, Tryz.results83, go_sem]) rfl ⟨rfl, (below_new _ _).trans ((below_new _ _).mono (by simp))⟩
set_option maxRecDepth 100000 in
set_option maxHeartbeats 1000000 in
theorem rate_some (n sk tl va lo he ke qu : Int) (b o l c k : Nat) (key x y : Int) (w : World) (h : within key 0 524287 = true) (h0 : 0 ≤ key) (h0' : key ≤ 524287) (hk : key / 65536 = (k : Int)) (hl : (k : Int) < (l : Int))
    (g1 : w.cell? ⟨b, o + k * 2, none⟩ = some (.int .i64 x)) (g2 : w.cell? ⟨b, o + k * 2 + 1, none⟩ = some (.int .i64 y)) :
    Calls Tryz.prog 83 #[.agg #[.int .i64 n, .int .i64 sk, .int .i64 tl, .int .i64 va, .int .i64 lo, .int .i64 he, .int .i64 ke, .int .i64 qu, .slice (some ⟨b, o, none⟩) l c], .int .i64 key] w fun e w' => e = .returned (.tuple #[.agg #[.int .i64 x, .int .i64 y], .bool true]) ∧ Below w.heap.size w w' := by
  have g3 := cell_stays (below_new w (.cells #[.int .i64 n, .int .i64 sk, .int .i64 tl, .int .i64 va, .int .i64 lo, .int .i64 he, .int .i64 ke, .int .i64 qu, .slice (some ⟨b, o, none⟩) l c] 24)) g1
  have g4 := cell_stays (below_new w (.cells #[.int .i64 n, .int .i64 sk, .int .i64 tl, .int .i64 va, .int .i64 lo, .int .i64 he, .int .i64 ke, .int .i64 qu, .slice (some ⟨b, o, none⟩) l c] 24)) g2
  have g5 := cell_stays (below_new _ (.cells #[.int .i64 0, .int .i64 0] 77)) g3
  have g6 := cell_stays (below_new _ (.cells #[.int .i64 0, .int .i64 0] 77)) g4
  clear g1 g2 g3 g4
  go_enter Tryz.func83, Tryz.ntmps83
  go_wp2_with (go_at_call 134; refine (right_any _ _).mono ?_; rintro e w' ⟨rfl, rfl⟩)
  refine bodyPost_ret (v := .tuple #[.agg #[.int .i64 x, .int .i64 y], .bool true]) (by simp [results, Tryz.results83, go_sem]) rfl ⟨rfl, (below_new _ _).trans ((below_new _ _).mono (by simp))⟩
end Go.Proofs.YtbgdlokegibkmaaGreat.Conf

namespace Go.Proofs.YtbgdlokegibkmaaGreat.Edge
open _root_.Go.Proofs.YtbgdlokegibkmaaGreat.Lease (Lz spend)
open _root_.Go.Proofs.YtbgdlokegibkmaaGreat.Queue (It take)
open _root_.Go.Proofs.YtbgdlokegibkmaaGreat.Demand (Nt)
open _root_.Go.Proofs.YtbgdlokegibkmaaGreat.Sat (add)
/-- An answer: a name, a generation, a reason. -/
structure An where
  id : Int
  gen : Int
  why : Int
def az : An := ⟨0, 0, 0⟩
/-- A request. -/
structure Rq where
  id : Int
  key : Int
  cost : Int
  cls : Int
  wait : Int
/-- A configuration. -/
structure Cf where
  n : Int
  sk : Int
  tl : Int
  va : Int
  lo : Int
  he : Int
  ke : Int
  qu : Int
  zs : List (Int × Int)
def Cf.check (c : Cf) : Int := Conf.check c.n c.sk c.tl c.va c.lo c.he c.ke c.qu c.zs
/-- Which rate; -1: there is none. -/
def Cf.rate (c : Cf) (key : Int) : Int := if 0 ≤ key ∧ key ≤ 524287 ∧ key / 65536 < c.zs.length then key / 65536 else -1
def Cf.b (c : Cf) (key : Int) : Int := (c.zs.getD (c.rate key).toNat (0, 0)).2
/-- An edge. -/
structure Eg where
  L : List Lz
  Q : List It
  D : List Nt
def e0 : Eg := ⟨[], [], []⟩
def no (id why : Int) : List An := [⟨id, 0, why⟩]
def right (key : Int) : Prop := 0 ≤ key ∧ key ≤ 524287
instance (key : Int) : Decidable (right key) := by unfold right; infer_instance
/-- A request that may not be. -/
def bad (Q : List It) (r : Rq) : Prop := r.cost < 1 ∨ r.cls < 0 ∨ 2 < r.cls ∨ r.wait < 0 ∨ 1099511627776 < r.wait ∨ ¬ right r.key ∨ 0 ≤ Queue.place Q r.id
instance (Q : List It) (r : Rq) : Decidable (bad Q r) := by unfold bad right; infer_instance
def item (r : Rq) (now : Int) : It := ⟨r.id, r.key, r.cost, r.cls, add [now, r.wait]⟩
/-- A request that is granted at once, waits, or is denied. -/
def wait (c : Cf) (e : Eg) (r : Rq) (now : Int) : Eg × List An :=
  if r.wait = 0 then (e, no r.id 1) else if (Queue.put c.qu e.Q (item r now)).2 = 0 then (⟨e.L, (Queue.put c.qu e.Q (item r now)).1, e.D⟩, []) else (e, no r.id 2)
def ask (c : Cf) (e : Eg) (r : Rq) (now : Int) : Eg × List An :=
  if bad e.Q r then (e, no r.id 7)
  else if now < 0 ∨ 4611686018427387904 ≤ now then (e, no r.id 1)
  else if c.rate r.key < 0 then (e, no r.id 6)
  else if c.b r.key < r.cost then (e, no r.id 5)
  else if Queue.of e.Q r.key = [] ∧ (spend e.L r.key r.cost now).2.2 = true then (⟨(spend e.L r.key r.cost now).1, e.Q, e.D⟩, [⟨r.id, (spend e.L r.key r.cost now).2.1, 0⟩])
  else wait c e r now
/-- Items, the first one first, are served as far as the wallet spends. -/
def serves (key now : Int) : List It → Eg → Eg × List An
  | [], e => (e, [])
  | x :: l, e => if (spend e.L key x.cost now).2.2 = true
    then ((serves key now l ⟨(spend e.L key x.cost now).1, (take e.Q x.id).1, e.D⟩).1, ⟨x.id, (spend e.L key x.cost now).2.1, 0⟩ :: (serves key now l ⟨(spend e.L key x.cost now).1, (take e.Q x.id).1, e.D⟩).2)
    else (e, [])
def serve (e : Eg) (key now : Int) : Eg × List An := serves key now (Queue.of e.Q key) e
def grant (e : Eg) (x : Lz) (now : Int) : Eg × List An := if (Lease.put e.L x).2 = 0 then serve ⟨(Lease.put e.L x).1, e.Q, e.D⟩ x.key now else (e, [])
def close (e : Eg) (key gen : Int) : Eg × Int := (⟨(Lease.close e.L key gen).1, e.Q, if 0 ≤ (Lease.close e.L key gen).2 then e.D ++ [⟨key, (Lease.close e.L key gen).2⟩] else e.D⟩, (Lease.close e.L key gen).2)
def drop (e : Eg) (gen : Int) : Eg := ⟨(Lease.drop e.L gen).1, e.Q, e.D⟩
/-- Two lists that rise, as one. -/
def merge : List Int → List Int → List Int
  | [], b => b
  | a :: l, [] => a :: l
  | a :: l, b :: m => if a < b then a :: merge l (b :: m) else if a = b then b :: merge l m else b :: merge (a :: l) m
def keys (e : Eg) : List Int := merge (Queue.keys e.Q) (Demand.keys e.D)
def amount (c : Cf) (e : Eg) (k : Int) : Int := if 0 ≤ c.rate k then Demand.want (Demand.of e.D k) (Queue.sum e.Q k) (c.b k) else 0
def wants (c : Cf) (e : Eg) : List (Int × Int) := ((keys e).map fun k => (k, amount c e k)).filter fun p => decide (0 < p.2)
def all (l : List It) (why : Int) : List An := l.map fun x => ⟨x.id, 0, why⟩
def expire (e : Eg) (now : Int) : Eg × List An := (⟨e.L, (Queue.expire e.Q now).1, e.D⟩, all (Queue.expire e.Q now).2 3)
/-- Without some. -/
def without (Q : List It) (l : List It) : List It := l.foldl (fun s x => (take s x.id).1) Q
def refuse (e : Eg) (key why : Int) : Eg × List An := (⟨e.L, without e.Q (Queue.of e.Q key), e.D⟩, all (Queue.of e.Q key) why)
def crash (e : Eg) : Eg × List An := (e0, all e.Q 8)
/-- An act: its kind, a request, a lease, a reason, a reading. -/
structure Ac where
  kind : Int
  r : Rq
  l : Lz
  why : Int
  now : Int
/-- What an act makes, and tells. -/
def actOf (c : Cf) (e : Eg) (a : Ac) : Eg × List An × Int :=
  if a.kind % 10 = 4 then ((grant e a.l a.now).1, (grant e a.l a.now).2, 0)
  else if a.kind % 10 = 5 then ((close e a.l.key a.l.gen).1, [], (close e a.l.key a.l.gen).2)
  else if a.kind % 10 = 6 then (drop e a.l.gen, [], 0)
  else if a.kind % 10 = 7 then ((expire e a.now).1, (expire e a.now).2, 0)
  else if a.kind % 10 = 8 then ((refuse e a.l.key a.why).1, (refuse e a.l.key a.why).2, 0)
  else if a.kind % 10 = 9 then ((crash e).1, (crash e).2, 0)
  else ((ask c e a.r a.now).1, (ask c e a.r a.now).2, 0)
/-- What an edge keeps. -/
structure Good (c : Cf) (e : Eg) : Prop where
  l : Lease.Good e.L
  q : Queue.Good c.qu e.Q
  until' : ∀ x ∈ e.Q, x.til ≤ 4611686018427387904
end Go.Proofs.YtbgdlokegibkmaaGreat.Edge

namespace Go.Proofs.YtbgdlokegibkmaaGreat.Edge
open Go.RowKit
open _root_.Go.Proofs.YtbgdlokegibkmaaGreat.Codec (lt_of_heap frozen_of heap_set)
open _root_.Go.Proofs.YtbgdlokegibkmaaGreat.Kit (Enc Lies At Kept Laid Off cell_on lt_heap)
open _root_.Go.Proofs.YtbgdlokegibkmaaGreat.Lease (Lz)
open _root_.Go.Proofs.YtbgdlokegibkmaaGreat.Queue (It)
open _root_.Go.Proofs.YtbgdlokegibkmaaGreat.Demand (Nt)
def ans : Enc An := ⟨3, fun x => [.int .i64 x.id, .int .i64 x.gen, .int .i64 x.why], az, by decide, fun _ => rfl, fun x u hu => by simp at hu; rcases hu with rfl | rfl | rfl <;> rfl⟩
theorem laidA : Laid Tryz.prog ans 60 45 := ⟨Tryz.underlying45, .agg #[.int .i64 0, .int .i64 0, .int .i64 0], 24, by kernel_rfl, rfl, by decide⟩
/-- Answers that are told. -/
def Told (w : World) (v : Value) (l : List An) : Prop := ∃ p c, v = .slice p l.length c ∧ Lies ans w p l ∧ (p = none → c = 0)
theorem told_own {w : World} {B : Nat} {v : Value} {l : List An} (h : Kit.Own ans 60 B w v l) : Told w v l := by
  obtain ⟨p, c, rfl, hl⟩ := h.lies
  refine ⟨p, c, rfl, hl, ?_⟩
  rintro rfl
  rcases h.2 with ⟨e, -⟩ | ⟨g, cap, cur, e, -⟩
  · simp only [Value.slice.injEq] at e
    exact e.2.2
  · simp at e
/-- Rates that lie below a block. -/
def RatesB (B : Nat) (w : World) (p : Option Addr) (zs : List (Int × Int)) : Prop :=
  zs = [] ∨ ∃ b o, p = some ⟨b, o, none⟩ ∧ b < B ∧ ∀ i, i < zs.length →
    w.cell? ⟨b, o + i * 2, none⟩ = some (.int .i64 (zs.getD i (0, 0)).1) ∧ w.cell? ⟨b, o + i * 2 + 1, none⟩ = some (.int .i64 (zs.getD i (0, 0)).2)
theorem RatesB.on {B : Nat} {w w' : World} {p : Option Addr} {zs : List (Int × Int)} (h : RatesB B w p zs) (hb : Below B w w') : RatesB B w' p zs := by
  rcases h with h | ⟨b, o, e, hlt, hc⟩
  · exact .inl h
  · exact .inr ⟨b, o, e, hlt, fun i hi => ⟨(hb.cell (p := ⟨b, _, none⟩) hlt).trans (hc i hi).1, (hb.cell (p := ⟨b, _, none⟩) hlt).trans (hc i hi).2⟩⟩
/-- The nine cells of a configuration, at the beginning of a block. -/
structure Nine (cs : Array Value) (c : Cf) (p : Option Addr) (k : Nat) : Prop where
  c0 : cs[0]? = some (.int .i64 c.n)
  c1 : cs[1]? = some (.int .i64 c.sk)
  c2 : cs[2]? = some (.int .i64 c.tl)
  c3 : cs[3]? = some (.int .i64 c.va)
  c4 : cs[4]? = some (.int .i64 c.lo)
  c5 : cs[5]? = some (.int .i64 c.he)
  c6 : cs[6]? = some (.int .i64 c.ke)
  c7 : cs[7]? = some (.int .i64 c.qu)
  c8 : cs[8]? = some (.slice p c.zs.length k)
/-- The document's edge. -/
def Ed (B : Nat) (w : World) (v : Nat) (c : Cf) (e : Eg) : Prop := B ≤ v ∧ ∃ cs p k yL yQ yD, w.heap[v]? = some (.cells cs 97 (0, 0)) ∧ Nine cs c p k ∧ RatesB B w p c.zs ∧
  cs[9]? = some yL ∧ Lease.Own 131 B w yL e.L ∧ cs[10]? = some (.int .i64 c.qu) ∧ cs[11]? = some yQ ∧ Kit.Own Queue.item 113 B w yQ e.Q ∧ cs[12]? = some yD ∧ Kit.Own Demand.note 244 B w yD e.D
section
variable {w w' : World} {B v : Nat} {c : Cf} {e : Eg}
theorem Ed.wl (h : Ed B w v c e) : Lease2.Wl B w v 9 e.L := by
  obtain ⟨h0, cs, p, k, yL, yQ, yD, h1, h2, h3, h4, h5, h6, h7, h8, h9, h10⟩ := h
  exact ⟨h0, cs, _, yL, h1, h4, h5⟩
theorem Ed.qu (h : Ed B w v c e) : Queue2.Qu B w v 10 c.qu e.Q := by
  obtain ⟨h0, cs, p, k, yL, yQ, yD, h1, h2, h3, h4, h5, h6, h7, h8, h9, h10⟩ := h
  exact ⟨h0, cs, _, yQ, h1, h6, h7, h8⟩
theorem Ed.dm (h : Ed B w v c e) : Demand2.Dm B w v 12 e.D := by
  obtain ⟨h0, cs, p, k, yL, yQ, yD, h1, h2, h3, h4, h5, h6, h7, h8, h9, h10⟩ := h
  exact ⟨h0, cs, _, yD, h1, h9, h10⟩
/-- The configuration's cells, and the queue's. -/
theorem Ed.conf (h : Ed B w v c e) : ∃ p k, RatesB B w p c.zs ∧ w.cell? ⟨v, 0, none⟩ = some (.int .i64 c.n) ∧ w.cell? ⟨v, 1, none⟩ = some (.int .i64 c.sk) ∧ w.cell? ⟨v, 2, none⟩ = some (.int .i64 c.tl) ∧ w.cell? ⟨v, 3, none⟩ = some (.int .i64 c.va) ∧ w.cell? ⟨v, 4, none⟩ = some (.int .i64 c.lo) ∧
    w.cell? ⟨v, 5, none⟩ = some (.int .i64 c.he) ∧ w.cell? ⟨v, 6, none⟩ = some (.int .i64 c.ke) ∧ w.cell? ⟨v, 7, none⟩ = some (.int .i64 c.qu) ∧ w.cell? ⟨v, 8, none⟩ = some (.slice p c.zs.length k) := by
  obtain ⟨h0, cs, p, k, yL, yQ, yD, h1, h2, h3, h4, h5, h6, h7, h8, h9, h10⟩ := h
  have hc : ∀ i u, cs[i]? = some u → w.cell? ⟨v, i, none⟩ = some u := fun i u hu => by rw [cell_of_row w v i _ _ (0, 0) h1, hu]
  exact ⟨p, k, h3, hc _ _ h2.c0, hc _ _ h2.c1, hc _ _ h2.c2, hc _ _ h2.c3, hc _ _ h2.c4, hc _ _ h2.c5, hc _ _ h2.c6, hc _ _ h2.c7, hc _ _ h2.c8⟩
end
end Go.Proofs.YtbgdlokegibkmaaGreat.Edge

namespace Go.Proofs.YtbgdlokegibkmaaGreat.Edge
open Go.RowKit
open _root_.Go.Proofs.YtbgdlokegibkmaaGreat.Codec (lt_of_heap frozen_of heap_set)
open _root_.Go.Proofs.YtbgdlokegibkmaaGreat.Kit (Enc Lies At Kept Laid Off cell_on lt_heap take_snoc below_drewN)
open _root_.Go.Proofs.YtbgdlokegibkmaaGreat.Lease (Lz spend)
open _root_.Go.Proofs.YtbgdlokegibkmaaGreat.Queue (It take)
open _root_.Go.Proofs.YtbgdlokegibkmaaGreat.Demand (Nt)
open _root_.Go.Proofs.YtbgdlokegibkmaaGreat.Ledger (spot spot_at spot_none)
theorem lay (w : World) (o : Obj) : Below w.heap.size w (w.alloc o) := (Below.refl _ w).alloc (Nat.le_refl _) o
theorem all_len (l : List It) (why : Int) : (all l why).length = l.length := by simp [all]
theorem all_at {l : List It} {j : Nat} (why : Int) (h : j < l.length) : all (l.take (j + 1)) why = all (l.take j) why ++ [⟨(l.getD j Queue.z).id, 0, why⟩] := by
  unfold all
  rw [take_snoc Queue.z h]
  simp
/-- One element, just laid, is appended to a row of its own; what is of no such type stays. -/
theorem push_at {α : Type} {E : Enc α} {T : TypeId} {P : Program} {ST : TypeId} (L : Laid P E T ST) {u : World} {ops : Array Oper} {rest : List Oper} {o : Oper} {a : Act} {Q : Exit → Act → World → Prop} (hgd : o.guard = none) (s y : Operand)
    (ho : o.op = .call { callee := .builtin .append, args := #[s, y], argTypes := #[ST, ST] })
    (C : Nat) (wr : World) (v : Value) (hs : a.eval s = v) (l : List α) (n : Nat) (hn : l.length = n) (hown : Kit.Own E T C wr v l) (hC : C ≤ wr.heap.size) (hu : Below wr.heap.size wr u)
    (g : Nat) (x : α) {tg : TypeId} {fr : Nat × Nat} (hy : a.eval y = .slice (some ⟨g, 0, none⟩) 1 1) (hg : u.heap[g]? = some (.cells (E.cs x).toArray tg fr)) (hlen : n ≤ 100000)
    (h : ∀ p c w', Hid (Kit.Own E T C w' (.slice p (n + 1) c) (l ++ [x])) → Kept [T] u w' → Below C u w' → wpList P ops Q rest (a.put o.dst (.slice p (n + 1) c)) w') : wpList P ops Q (o :: rest) a u := by
  subst hn
  obtain ⟨zv, byt, hi0, hzc, hby⟩ := L.info
  obtain ⟨i0, hi, hz0, hz1, hz2⟩ := info_parts hi0
  have hmul : (l.length + 1) * byt ≤ 100001 * 1000 := Nat.mul_le_mul (by omega) hby
  have hown' := hown.on hu
  refine wpList_append_own _ hgd s y ST ho C T i0 zv E.n byt L.sl hi hz0 hz1 hz2 hzc E.pos v l.length (Kit.cells E l) hs hown' ⟨g, 0, none⟩ 1 1 (E.cs x) hy (by rw [E.len, Nat.one_mul]) (fun j z hz => World.news_of_block hg j z (by simpa using hz)) (E.one x) (by unfold maxLen; omega) (by omega) (Nat.le_trans hC hu.size) ?_
  intro v' w' ho2 hg2 _
  have hb2 : Below C u w' := (Below.refl C u).grown hg2 (Nat.le_trans hC hu.size) (fun k hk => (World.ownsRow.lt hown k hk).1)
  have R : Kit.Own E T C w' v' (l ++ [x]) := by
    unfold Kit.Own
    rw [Kit.cells_snoc, List.length_append]
    exact ho2
  have K : Kept [T] u w' := ⟨hg2.size, fun k ob e hob => by
    refine (hg2.block k (lt_heap e) fun ek => ?_).trans e
    rcases hown'.2 with ⟨rfl, -⟩ | ⟨k', cap, cur, rfl, -, h2, -⟩
    · simp [Value.ownBlock] at ek
    · simp only [Value.ownBlock, Option.some.injEq] at ek
      subst ek
      rw [h2] at e
      exact hob _ _ _ (Option.some.inj e).symm (by simp)⟩
  obtain ⟨p, c, rfl⟩ : ∃ p c, v' = .slice p (l.length + 1) c := by
    rcases ho2.2 with ⟨_, h0⟩ | ⟨g, cap, cur, rfl, _⟩
    · omega
    · exact ⟨_, cap, rfl⟩
  exact h p c w' R K hb2
/-- What is served of the first j, and how far. -/
theorem serves_snoc (key now : Int) : ∀ (l : List It) (x : It) (e : Eg), serves key now (l ++ [x]) e =
    if (serves key now l e).2.length = l.length then
      (if (spend (serves key now l e).1.L key x.cost now).2.2 = true then (⟨(spend (serves key now l e).1.L key x.cost now).1, (take (serves key now l e).1.Q x.id).1, (serves key now l e).1.D⟩, (serves key now l e).2 ++ [⟨x.id, (spend (serves key now l e).1.L key x.cost now).2.1, 0⟩])
        else serves key now l e)
      else serves key now l e
  | [], x, e => by
    by_cases h : (spend e.L key x.cost now).2.2 = true <;> simp [serves, h]
  | y :: l, x, e => by
    simp only [List.cons_append, serves]
    by_cases h : (spend e.L key y.cost now).2.2 = true
    · simp only [h, if_true, List.length_cons, Nat.succ.injEq]
      rw [serves_snoc key now l x]
      split <;> (try split) <;> simp_all
    · simp [h]
theorem serves_len (key now : Int) : ∀ (l : List It) (e : Eg), (serves key now l e).2.length ≤ l.length
  | [], e => by simp [serves]
  | y :: l, e => by
    simp only [serves]
    split
    · have := serves_len key now l ⟨(spend e.L key y.cost now).1, (take e.Q y.id).1, e.D⟩
      simp; omega
    · simp
/-- Once one was not served, none is. -/
theorem serves_stop (key now : Int) : ∀ (l m : List It) (e : Eg), (serves key now l e).2.length < l.length → serves key now (l ++ m) e = serves key now l e
  | [], m, e, h => by simp at h
  | y :: l, m, e, h => by
    simp only [List.cons_append, serves] at h ⊢
    split
    · rename_i hs
      rw [if_pos hs] at h
      simp only [List.length_cons, Nat.add_lt_add_iff_right] at h
      rw [serves_stop key now l m _ h]
    · rfl
end Go.Proofs.YtbgdlokegibkmaaGreat.Edge

namespace Go.Proofs.YtbgdlokegibkmaaGreat.Visit
open Go.RowKit
open _root_.Go.Proofs.YtbgdlokegibkmaaGreat.Frame (Rw noRow LeasesAt cell_on)
open _root_.Go.Proofs.YtbgdlokegibkmaaGreat.Ledger (RowAt RowsAt)
open _root_.Go.Proofs.YtbgdlokegibkmaaGreat.Kit (Lies Kept cells)
open _root_.Go.Proofs.YtbgdlokegibkmaaGreat.Edge (An ans laidA)
open _root_.Go.Proofs.YtbgdlokegibkmaaGreat.Codec (lt_of_heap)
def nought (k : Nat) : List Value := List.replicate k (.int .i64 0)
/-- A row of answers of its own, whose rest is empty. -/
def OwnZ (C : Nat) (w : World) (v : Value) (l : List An) : Prop :=
  (v = .slice none 0 0 ∧ l = []) ∨ ∃ g cap, v = .slice (some ⟨g, 0, none⟩) l.length cap ∧ C ≤ g ∧ l.length ≤ cap ∧ cap ≤ maxLen ∧ w.heap[g]? = some (.cells (cells ans l ++ nought ((cap - l.length) * 3)).toArray 60 (0, 0))
theorem OwnZ.none (C : Nat) (w : World) : OwnZ C w (.slice none 0 0) [] := .inl ⟨rfl, rfl⟩
section
variable {C : Nat} {w w' : World} {v : Value} {l : List An}
theorem OwnZ.keep (h : OwnZ C w v l) (hk : ∀ g, C ≤ g → (∃ cs, w.heap[g]? = some (.cells cs 60 (0, 0))) → w'.heap[g]? = w.heap[g]?) : OwnZ C w' v l := by
  rcases h with h | ⟨g, cap, e, h1, h2, h3, h4⟩
  · exact .inl h
  · exact .inr ⟨g, cap, e, h1, h2, h3, (hk g h1 ⟨_, h4⟩).trans h4⟩
theorem OwnZ.own (h : OwnZ C w v l) : w.ownsRow C 60 3 v l.length (cells ans l) := by
  have hl : (cells ans l).length = l.length * 3 := Kit.cells_len l
  refine ⟨hl, ?_⟩
  rcases h with ⟨rfl, rfl⟩ | ⟨g, cap, e, h1, h2, h3, h4⟩
  · exact .inl ⟨rfl, rfl⟩
  · refine .inr ⟨g, cap, _, e, h1, h4, h2, h3, ?_, ?_⟩
    · simp only [List.size_toArray, List.length_append, hl, nought, List.length_replicate, ← Nat.add_mul]
      rw [Nat.add_sub_cancel' h2]
    · rw [← hl]
      exact List.take_left
theorem OwnZ.told (h : OwnZ C w v l) : Edge.Told w v l := Edge.told_own (B := C) h.own
end
theorem infoA : (Tryz.prog.info? 60).map (fun i => (i.zero, i.size, i.bytes)) = some (some (.agg #[.int .i64 0, .int .i64 0, .int .i64 0]), 3, 24) := by kernel_rfl
theorem zero_cells_nought (n : Nat) : Builtin.zeroCells (Value.agg #[.int .i64 0, .int .i64 0, .int .i64 0]).cells n = (nought (n * 3)).toArray := by
  show Builtin.zeroCells #[.int .i64 0, .int .i64 0, .int .i64 0] n = _
  unfold Builtin.zeroCells nought
  refine Array.ext (by simp) fun i h1 h2 => ?_
  simp only [Array.getElem_map, Array.getElem_range, List.getElem_toArray, List.getElem_replicate]
  have h3 : i % 3 < 3 := Nat.mod_lt _ (by decide)
  show #[Value.int .i64 0, .int .i64 0, .int .i64 0][i % 3]! = _
  generalize i % 3 = k at h3
  match k, h3 with
  | 0, _ => rfl
  | 1, _ => rfl
  | 2, _ => rfl
theorem at_mem {α : Type} {l : List α} {j : Nat} (h : j < l.length) (d : α) : l.getD j d ∈ l := by simp [List.getD, h]
/-- What lies stays: numbers that are not nought, and all ahead of them; blocks with slices. -/
structure Stays (w w' : World) : Prop where
  nz : ∀ {b o : Nat} {k : IntKind} {x : Int} (o' : Nat), w.cell? ⟨b, o, none⟩ = some (.int k x) → x ≠ 0 → o' ≤ o → w'.cell? ⟨b, o', none⟩ = w.cell? ⟨b, o', none⟩
  sl : ∀ {b o m d : Nat} {p : Option Addr}, w.cell? ⟨b, o, none⟩ = some (.slice p m d) → w'.heap[b]? = w.heap[b]?
theorem Stays.of_block {w w' : World} (hk : ∀ b, b < w.heap.size → w'.heap[b]? = w.heap[b]?) : Stays w w' :=
  ⟨fun {b _ _ _} o' h _ _ => World.cell?_of_block (a := ⟨b, o', none⟩) (hk b (World.block_lt_of_cell? _ _ h)), fun {b _ _ _ _} h => hk b (World.block_lt_of_cell? _ _ h)⟩
theorem Stays.rows {w w' : World} (h : Stays w w') {p : Option Addr} {l : List Rw} (ha : ∀ r ∈ l, ∀ x ∈ r.out, 1 ≤ x.2) (hl : RowsAt w p l) : RowsAt w' p l := by
  rcases hl with hl | ⟨b, o, e1, hc⟩
  · exact .inl hl
  · refine .inr ⟨b, o, e1, fun j hj => ?_⟩
    obtain ⟨k0, k1, k2, q, d, k3, k4⟩ := hc j hj
    have he := h.sl k3
    have hh : ∀ i v, w.cell? ⟨b, i, none⟩ = some v → w'.cell? ⟨b, i, none⟩ = some v := fun i v hv => (World.cell?_of_block (a := ⟨b, i, none⟩) he).trans hv
    refine ⟨hh _ _ k0, hh _ _ k1, hh _ _ k2, q, d, hh _ _ k3, ?_⟩
    rcases k4 with k4 | ⟨b2, o2, e2, h2⟩
    · exact .inl k4
    · refine .inr ⟨b2, o2, e2, fun i hi => ?_⟩
      have h1 := ha (l.getD j noRow) (at_mem hj _) ((l.getD j noRow).out.getD i (0, 0)) (at_mem hi _)
      obtain ⟨k0, k1⟩ := h2 i hi
      have hz : ((l.getD j noRow).out.getD i (0, 0)).2 ≠ 0 := by omega
      exact ⟨(h.nz _ k1 hz (Nat.le_succ _)).trans k0, (h.nz _ k1 hz (Nat.le_refl _)).trans k1⟩
theorem ans_int {l : List An} {i : Nat} {u : Value} (h : (cells ans l)[i]? = some u) : ∃ x, u = .int .i64 x := by
  have hm := List.mem_of_getElem? h
  simp only [cells, List.mem_flatMap] at hm
  obtain ⟨x, -, hx⟩ := hm
  simp only [ans, List.mem_cons, List.not_mem_nil, or_false] at hx
  rcases hx with rfl | rfl | rfl
  · exact ⟨_, rfl⟩
  · exact ⟨_, rfl⟩
  · exact ⟨_, rfl⟩
/-- Where a row grows in place. -/
theorem stays_row {w w' : World} {g n m : Nat} {l k : List An} (h1 : w.heap[g]? = some (.cells (cells ans l ++ nought n).toArray 60 (0, 0))) (h2 : w'.heap[g]? = some (.cells (cells ans (l ++ k) ++ nought m).toArray 60 (0, 0))) (hk : ∀ b, b ≠ g → w'.heap[b]? = w.heap[b]?) : Stays w w' := by
  constructor
  · intro b o kk x o' h hx ho
    by_cases hb : b = g
    · subst hb
      rw [cell_of_row _ b _ _ _ (0, 0) h1] at h ⊢
      rw [cell_of_row _ b _ _ _ (0, 0) h2]
      simp only [List.getElem?_toArray] at h ⊢
      have hlt : o < (cells ans l).length := by
        refine Nat.lt_of_not_le fun hle => ?_
        rw [List.getElem?_append_right hle] at h
        have := List.mem_of_getElem? h
        simp only [nought, List.mem_replicate, Value.int.injEq] at this
        exact hx this.2.2
      have hlt' : o' < (cells ans l).length := by omega
      rw [Kit.cells_append, List.append_assoc, List.getElem?_append_left hlt', List.getElem?_append_left hlt']
    · exact World.cell?_of_block (a := ⟨b, o', none⟩) (hk b hb)
  · intro b o m' d p h
    by_cases hb : b = g
    · subst hb
      rw [cell_of_row _ b _ _ _ (0, 0) h1] at h
      simp only [List.getElem?_toArray] at h
      exfalso
      by_cases hlt : o < (cells ans l).length
      · rw [List.getElem?_append_left hlt] at h
        obtain ⟨x, hx⟩ := ans_int h
        simp at hx
      · rw [List.getElem?_append_right (by omega)] at h
        have := List.mem_of_getElem? h
        simp [nought] at this
    · exact hk b hb
set_option maxHeartbeats 2000000 in
/-- Answers that were told are appended: the run. -/
theorem run_pour2 {u : World} (ty : TypeId) (C : Nat) (v : Value) (l : List An) (hown : OwnZ C u v l) (hC : C ≤ u.heap.size) (y0 : Value) (k : List An) (hk : Edge.Told u y0 k) (hlen : l.length + k.length ≤ 100000) :
    ∃ v' w', (Builtin.append_ #[45, 45] ty #[v, y0]).run Tryz.prog u = .ok v' w' ∧ OwnZ C w' v' (l ++ k) ∧ Kept [60] u w' ∧ Below C u w' ∧ Stays u w' ∧ (∀ b, b < u.heap.size → (∀ m d, v ≠ .slice (some ⟨b, 0, none⟩) m d) → w'.heap[b]? = u.heap[b]?) ∧ ∀ b m d, v' = .slice (some ⟨b, 0, none⟩) m d → (∃ m' d', v = .slice (some ⟨b, 0, none⟩) m' d') ∨ u.heap.size ≤ b := by
  obtain ⟨i0, hi, hz0, hz1, hz2⟩ := info_parts infoA
  have hsl := laidA.sl
  obtain ⟨p, c, rfl, hl, hn⟩ := hk
  have hlen3 : ∀ l : List An, (cells ans l).length = l.length * 3 := fun l => Kit.cells_len l
  cases p with
  | none =>
    have hk0 : k = [] := by
      rcases hl with hl | ⟨_, _, e, _⟩
      · exact hl
      · simp at e
    subst hk0
    rw [hn rfl]
    exact ⟨v, u, run_append_owned_none (P := Tryz.prog) (w := u) C _ ty _ i0 3 hsl hi v l.length (cells ans l) hown.own, by rw [List.append_nil]; exact hown, Kept.of_below (Below.refl _ u), Below.refl _ u, Stays.of_block fun _ _ => rfl, fun _ _ _ => rfl, fun b m d h => .inl ⟨m, d, h⟩⟩
  | some ad =>
    have hnews : ∀ j x, (cells ans k)[j]? = some x → u.cell? (ad.add j) = some x := by
      intro j x hx
      rcases hl with hl | ⟨b, o', e, hc⟩
      · subst hl; simp [cells] at hx
      · simp only [Option.some.injEq] at e
        subst e
        obtain ⟨h1, h2⟩ := Kit.cells_get (E := ans) k j x hx
        have := hc _ h1 _ _ h2
        rw [Codec.add_at]
        have e3 : o' + j / ans.n * ans.n + j % ans.n = o' + j := by rw [Nat.add_assoc, Nat.mul_comm, Nat.div_add_mod]
        rwa [e3] at this
    have hone := Kit.cells_one (E := ans) k
    by_cases hv0 : v = .slice none 0 0 ∧ k = []
    · obtain ⟨rfl, rfl⟩ := hv0
      have hl0 : l = [] := by
        rcases hown with ⟨-, e⟩ | ⟨g, cap, e, -⟩
        · exact e
        · simp at e
      subst hl0
      obtain ⟨v', w', hr, -, h2, h3⟩ := run_append_own (P := Tryz.prog) u C _ ty _ i0 _ 3 24 hsl hi hz0 hz1 hz2 rfl (by decide) (.slice none 0 0) 0 [] hown.own ad 0 c [] (by simp) (by simp) (by simp) (by unfold maxLen; omega) (by omega) hC
      have hv : v' = .slice none 0 0 := h3.2 ⟨rfl, rfl⟩
      subst hv
      have hb : ∀ b, b < u.heap.size → w'.heap[b]? = u.heap[b]? := fun b hb => h2.block b hb (by simp [Value.ownBlock])
      exact ⟨_, _, hr, OwnZ.none C w', ⟨h2.size, fun g ob e _ => (hb g (Kit.lt_heap e)).trans e⟩, ⟨h2.os, h2.tape, h2.output, h2.size, fun b hbb => hb b (Nat.lt_of_lt_of_le hbb hC)⟩, Stays.of_block hb, fun b h _ => hb b h, fun b m d h => by simp at h⟩
    · rcases hown with ⟨rfl, rfl⟩ | ⟨g, cap, rfl, h1, h2, h3, h4⟩
      · have hk0 : 0 < k.length := List.length_pos_iff.2 fun e => hv0 ⟨rfl, e⟩
        have hr := run_append_nil (P := Tryz.prog) u _ ty _ i0 _ hsl hi hz0 ad k.length c (cells ans k) (by rw [hlen3, hz1]) hnews hk0 (by omega) (by rw [hz2]; omega)
        rw [zero_cells_nought] at hr
        have hge := grownCap_ge u k.length 0 60
        refine ⟨_, _, hr, .inr ⟨u.heap.size, _, rfl, hC, by simpa using hge, grownCap_le_maxLen u k.length 0 _ (by unfold maxLen; omega), ?_⟩, Kept.of_below ((Below.refl _ u).drew.alloc (Nat.le_refl _) _), ((Below.refl _ u).drew.alloc (Nat.le_refl _) _).mono hC, Stays.of_block fun b hb => heap_alloc_old u.drew _ hb, fun b hb _ => heap_alloc_old u.drew _ hb, fun b m d h => .inr (by simp only [Value.slice.injEq, Option.some.injEq, Addr.mk.injEq] at h; omega)⟩
        rw [show u.heap.size = u.drew.heap.size from rfl, heap_alloc_new u.drew]
        simp
      · by_cases hroom : l.length + k.length ≤ cap
        · have hr := run_append_room (P := Tryz.prog) u _ ty _ i0 hsl hi g l.length cap _ h4 ad k.length c (cells ans k) (by rw [hlen3, hz1]) hnews hone hroom (by simp only [hz1, hlen3, List.size_toArray, List.length_append, nought, List.length_replicate, ← Nat.add_mul]; refine Nat.mul_le_mul_right _ ?_; omega)
          have he : ((cells ans l ++ nought ((cap - l.length) * 3)).toArray.toList.take (l.length * i0.size) ++ cells ans k ++ (cells ans l ++ nought ((cap - l.length) * 3)).toArray.toList.drop (l.length * i0.size + (cells ans k).length)) = cells ans (l ++ k) ++ nought ((cap - (l ++ k).length) * 3) := by
            rw [hz1, ← hlen3 l]
            simp only [List.take_left, Kit.cells_append, List.append_assoc]
            rw [List.drop_append, List.drop_eq_nil_of_le (by omega), List.nil_append]
            simp only [nought, List.drop_replicate, Nat.add_sub_cancel_left, hlen3, List.length_append]
            rw [← Nat.sub_mul, Nat.sub_sub]
          rw [he] at hr
          have hg' := setRow_heap u g _ (cells ans (l ++ k) ++ nought ((cap - (l ++ k).length) * 3)).toArray _ _ h4
          have hoth : ∀ b, b ≠ g → (u.setRow g (cells ans (l ++ k) ++ nought ((cap - (l ++ k).length) * 3)).toArray).heap[b]? = u.heap[b]? := fun b hb => setRow_other u g b _ hb
          refine ⟨_, _, hr, .inr ⟨g, cap, by rw [List.length_append], h1, by rw [List.length_append]; exact hroom, h3, hg'⟩, ⟨by simp, fun b ob e hob => ?_⟩, ⟨rfl, rfl, rfl, by simp, fun b hb => hoth b (by omega)⟩, stays_row h4 hg' hoth, fun b _ hn => hoth b fun e => hn l.length cap (by rw [e]), fun b m d h => .inl ⟨l.length, cap, by (simp only [Value.slice.injEq, Option.some.injEq, Addr.mk.injEq] at h; rw [h.1.1])⟩⟩
          refine (hoth b ?_).trans e
          rintro rfl
          rw [h4] at e
          exact hob _ _ _ (Option.some.inj e).symm (by simp)
        · have holds : ∀ j x, (cells ans l)[j]? = some x → u.cell? ((⟨g, 0, none⟩ : Addr).add j) = some x := by
            intro j x hx
            rw [Codec.add_at, cell_of_row _ g _ _ _ (0, 0) h4]
            simp only [List.getElem?_toArray, Nat.zero_add]
            rw [List.getElem?_append_left (List.getElem?_eq_some_iff.1 hx).1]
            exact hx
          have hr := run_append_grow (P := Tryz.prog) u _ ty _ i0 _ hsl hi hz0 ⟨g, 0, none⟩ l.length cap (cells ans l) (by rw [hlen3, hz1]) holds ad k.length c (cells ans k) (by rw [hlen3, hz1]) hnews (by omega) (by omega) (growslice_fits (by omega) (by rw [hz2]; omega))
          rw [zero_cells_nought] at hr
          have hge := grownCap_ge u (l.length + k.length) cap 60
          refine ⟨_, _, hr, .inr ⟨u.heap.size, _, by rw [List.length_append], hC, by rw [List.length_append]; exact hge, grownCap_le_maxLen u (l.length + k.length) cap _ (by unfold maxLen; omega), ?_⟩, Kept.of_below ((Below.refl _ u).drew.alloc (Nat.le_refl _) _), ((Below.refl _ u).drew.alloc (Nat.le_refl _) _).mono hC, Stays.of_block fun b hb => heap_alloc_old u.drew _ hb, fun b hb _ => heap_alloc_old u.drew _ hb, fun b m d h => .inr (by simp only [Value.slice.injEq, Option.some.injEq, Addr.mk.injEq] at h; omega)⟩
          rw [show u.heap.size = u.drew.heap.size from rfl, heap_alloc_new u.drew]
          simp [Kit.cells_append]
/-- The same; which blocks stay, and where the row lies, is told. -/
theorem pour2 {u : World} {ops : Array Oper} {rest : List Oper} {o : Oper} {a : Act} {Q : Exit → Act → World → Prop} (hgd : o.guard = none) (s y : Operand)
    (ho : o.op = .call { callee := .builtin .append, args := #[s, y], argTypes := #[45, 45] })
    (C : Nat) (v : Value) (hs : a.eval s = v) (l : List An) (hown : OwnZ C u v l) (hC : C ≤ u.heap.size) (y0 : Value) (hy : a.eval y = y0) (k : List An) (hk : Edge.Told u y0 k) (hlen : l.length + k.length ≤ 100000)
    (h : ∀ v' w', Hid (OwnZ C w' v' (l ++ k)) → Hid (Kept [60] u w') → Hid (Below C u w') → Hid (∀ b, b < u.heap.size → (∀ m d, v ≠ .slice (some ⟨b, 0, none⟩) m d) → w'.heap[b]? = u.heap[b]?) → Hid (∀ b m d, v' = .slice (some ⟨b, 0, none⟩) m d → (∃ m' d', v = .slice (some ⟨b, 0, none⟩) m' d') ∨ u.heap.size ≤ b) → wpList Tryz.prog ops Q rest (a.put o.dst v') w') : wpList Tryz.prog ops Q (o :: rest) a u := by
  obtain ⟨v', w', hr, h1, h2, h3, -, h5, h6⟩ := run_pour2 o.type C v l hown hC y0 k hk hlen
  exact Lib.wpList_append_run u hgd s y _ _ ho _ _ hs hy _ _ hr (h v' w' (Lib.hid h1) (Lib.hid h2) (Lib.hid h3) (Lib.hid h5) (Lib.hid h6))
end Go.Proofs.YtbgdlokegibkmaaGreat.Visit
