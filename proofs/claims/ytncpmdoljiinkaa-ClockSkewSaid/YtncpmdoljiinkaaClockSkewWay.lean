/-
  ClockSkew returns true for all ints, whatever the program's clock is, if its calls do what is asked of them.
-/
import Derived.Test.YtncpmdoljiinkaaClockWay
namespace Go.Proofs.Ytncpmdoljiinkaa.Clock
open Go.RowKit
open _root_.Go.Proofs.Ytncpmdoljiinkaa.Sat (fit add sub fit_lo fit_hi fit_fit fit_self rfit_any rtwo_any rsub_any radd_any rret_int)

theorem add3_laid (x y z : Int) (w : World) (b : Nat) (hb : b = w.heap.size) :
    Calls Try.prog 14 #[.slice (some ⟨b, 0, none⟩) 3 3] (w.alloc (.cells #[.int .i64 x, .int .i64 y, .int .i64 z] 3)) fun e w' => e = .returned (.int .i64 (add [x, y, z])) ∧ (w.alloc (.cells #[.int .i64 x, .int .i64 y, .int .i64 z] 3)) = w' := by
  subst hb
  refine radd_any [x, y, z] _ 3 _ (by simp) fun k hk => ⟨w.heap.size, 0, rfl, ?_⟩
  rw [World.cell?_alloc_new, Nat.zero_add]
  match k, hk with
  | 0, _ => rfl
  | 1, _ => rfl
  | 2, _ => rfl

/-- Where a reading lies. -/
theorem three (a t s : Int) (h1 : a ≤ t + s) (h2 : t - s ≤ a) : (t < a ∧ a - t ≤ s) ∨ (a < t ∧ a ≤ t ∧ t - a ≤ s) ∨ t = a := by omega

set_option maxRecDepth 100000 in
set_option maxHeartbeats 4000000 in
theorem skew_core (al : ∀ w, Calls Try.prog 5 #[] w fun e w' => e = .returned (.bool true) ∧ Below w.heap.size w w')
    (t u d e s p x1 x2 s1 p1 a b un la : Int) (ps : Bool) (W : World)
    (f1 : ∀ w, Calls Try.prog 12 #[.int .i64 t] w fun e w' => e = .returned (.int .i64 x1) ∧ w = w')
    (f2 : ∀ w, Calls Try.prog 12 #[.int .i64 u] w fun e w' => e = .returned (.int .i64 x2) ∧ w = w')
    (f3 : ∀ w, Calls Try.prog 12 #[.int .i64 s] w fun e w' => e = .returned (.int .i64 s1) ∧ w = w')
    (f4 : ∀ w, Calls Try.prog 12 #[.int .i64 p] w fun e w' => e = .returned (.int .i64 p1) ∧ w = w')
    (r1 : ∀ w, Calls Try.prog 6 #[.int .i64 x1, .int .i64 d, .int .i64 s1] w fun e w' => e = .returned (.int .i64 a) ∧ Below w.heap.size w w')
    (r2 : ∀ w, Calls Try.prog 6 #[.int .i64 x2, .int .i64 e, .int .i64 s1] w fun e w' => e = .returned (.int .i64 b) ∧ Below w.heap.size w w')
    (r3 : ∀ w, Calls Try.prog 8 #[.int .i64 a, .int .i64 b, .int .i64 p1] w fun e w' => e = .returned (.bool ps) ∧ Below w.heap.size w w')
    (r4 : ∀ w, Calls Try.prog 13 #[.int .i64 x1, .int .i64 p1] w fun e w' => e = .returned (.int .i64 un) ∧ w = w')
    (r5 : ∀ (w : World) (b : Nat), b = w.heap.size → Calls Try.prog 14 #[.slice (some ⟨b, 0, none⟩) 3 3] (w.alloc (.cells #[.int .i64 x2, .int .i64 s1, .int .i64 s1] 3)) fun e w' => e = .returned (.int .i64 la) ∧ (w.alloc (.cells #[.int .i64 x2, .int .i64 s1, .int .i64 s1] 3)) = w')
    (hx1 : 0 ≤ x1 ∧ x1 ≤ 4611686018427387904) (hx2 : 0 ≤ x2 ∧ x2 ≤ 4611686018427387904) (hs1 : 0 ≤ s1 ∧ s1 ≤ 4611686018427387904) (ha : 0 ≤ a ∧ a ≤ 4611686018427387904) (hb : 0 ≤ b ∧ b ≤ 4611686018427387904)
    (h1 : (x1 < a ∧ a - x1 ≤ s1) ∨ (a < x1 ∧ a ≤ x1 ∧ x1 - a ≤ s1) ∨ x1 = a) (h2 : (x2 < b ∧ b - x2 ≤ s1) ∨ (b < x2 ∧ b ≤ x2 ∧ x2 - b ≤ s1) ∨ x2 = b) (hp : ps = true → un ≤ la) :
    Calls Try.prog 4 #[.agg #[.int .i64 t, .int .i64 u], .agg #[.int .i64 d, .int .i64 e], .agg #[.int .i64 s, .int .i64 p]] W fun e w' => e = .returned (.bool true) ∧ Below W.heap.size W w' := by
  obtain ⟨x10, x11⟩ := hx1
  obtain ⟨x20, x21⟩ := hx2
  obtain ⟨s10, s11⟩ := hs1
  obtain ⟨a0, a1⟩ := ha
  obtain ⟨b0, b1⟩ := hb
  have hb3 : Below W.heap.size W (((W.alloc (.cells #[.int .i64 t, .int .i64 u] 25)).alloc (.cells #[.int .i64 d, .int .i64 e] 25)).alloc (.cells #[.int .i64 s, .int .i64 p] 25)) := (((Below.refl _ _).alloc (Nat.le_refl _) _).alloc (by simp) _).alloc (by simp; omega) _
  have c2 : ∀ (v : World), Below (((W.alloc (.cells #[.int .i64 t, .int .i64 u] 25)).alloc (.cells #[.int .i64 d, .int .i64 e] 25)).alloc (.cells #[.int .i64 s, .int .i64 p] 25)).heap.size (((W.alloc (.cells #[.int .i64 t, .int .i64 u] 25)).alloc (.cells #[.int .i64 d, .int .i64 e] 25)).alloc (.cells #[.int .i64 s, .int .i64 p] 25)) v →
      v.cell? ⟨W.heap.size + 1, 1, none⟩ = some (.int .i64 e) := by
    intro v hv
    have hk : v.heap[W.heap.size + 1]? = some (.cells #[.int .i64 d, .int .i64 e] 25 (0, 0)) := by
      refine (hv.block _ (by simp)).trans ((Below.heap_alloc _ _ _ (by simp)).trans ?_)
      have := heap_alloc_new (W.alloc (.cells #[.int .i64 t, .int .i64 u] 25)) (.cells #[.int .i64 d, .int .i64 e] 25)
      rwa [show (W.alloc (.cells #[.int .i64 t, .int .i64 u] 25)).heap.size = W.heap.size + 1 by simp] at this
    rw [cell_of_row v _ 1 _ _ (0, 0) hk]; rfl
  have C2 := Lib.hid c2
  have B3 := Lib.hid hb3
  have HP := Lib.hid hp
  clear c2 hb3 hp
  rcases h1 with ⟨h1, h1'⟩ | ⟨h1, h1', h1''⟩ | rfl
  all_goals
    rcases h2 with ⟨h2, h2'⟩ | ⟨h2, h2', h2''⟩ | rfl
    all_goals
      cases ps
      case' true => have hle := HP.out rfl
      all_goals
        clear HP
        go_enter Try.func4, Try.ntmps4
        go_wp2_with (first
          | (go_at_call 12; (with_reducible refine (f1 _).mono ?_); rintro e w' ⟨rfl, rfl⟩; clear f1)
          | (go_at_call 12; (with_reducible refine (f2 _).mono ?_); rintro e w' ⟨rfl, rfl⟩; clear f2)
          | (go_at_call 12; (with_reducible refine (f3 _).mono ?_); rintro e w' ⟨rfl, rfl⟩; clear f3)
          | (go_at_call 12; (with_reducible refine (f4 _).mono ?_); rintro e w' ⟨rfl, rfl⟩; clear f4)
          | (go_at_call 6; (with_reducible refine (r1 _).mono ?_); rintro e w1 ⟨rfl, hb⟩; have B4 := Lib.hid (B3.out.trans (hb.mono B3.out.size)); have g1 := C2.out _ hb; clear r1 hb C2)
          | (go_at_call 6; (with_reducible refine (r2 _).mono ?_); rintro e w2 ⟨rfl, hb⟩; have B5 := Lib.hid (B4.out.trans (hb.mono B4.out.size)); clear r2 hb g1)
          | (go_at_call 8; (with_reducible refine (r3 _).mono ?_); rintro e w3 ⟨rfl, hb⟩; have B6 := Lib.hid ((B5.out.trans (hb.mono B5.out.size)).alloc (Nat.le_trans B5.out.size hb.size) (.cells #[.int .i64 x2, .int .i64 s1, .int .i64 s1] 3)); clear r3 hb)
          | (go_at_call 13; (with_reducible refine (r4 _).mono ?_); rintro e w' ⟨rfl, rfl⟩; clear r4)
          | (go_at_call 14; (with_reducible refine (r5 _ _ rfl).mono ?_); rintro e w' ⟨rfl, rfl⟩; clear r5)
          | (go_at_call 5; (with_reducible refine (al _).mono ?_); rintro e w4 ⟨rfl, hb⟩; have B7 := Lib.hid (B6.out.trans (hb.mono B6.out.size)); clear hb al))
        go_ret
        exact ⟨rfl, B7.out⟩

theorem skew_way (P : Way8) (t u d e s p : Int) (hd : Num d) (he : Num e) (W : World) :
    Calls Try.prog 4 #[.agg #[.int .i64 t, .int .i64 u], .agg #[.int .i64 d, .int .i64 e], .agg #[.int .i64 s, .int .i64 p]] W fun e w' => e = .returned (.bool true) ∧ Below W.heap.size W w' := by
  have k1 := cread_skew (fit t) d (fit s)
  have k2 := cread_skew (fit u) e (fit s)
  rw [fit_fit, fit_fit] at k1 k2
  have n1 : Num (cread (fit t) d (fit s)) := by unfold Num; omega
  have n2 : Num (cread (fit u) e (fit s)) := by unfold Num; omega
  exact skew_core (alive_way P) t u d e s p (fit t) (fit u) (fit s) (fit p) (cread (fit t) d (fit s)) (cread (fit u) e (fit s)) (add [fit t, fit p]) (add [fit u, fit s, fit s]) (cpassed (cread (fit t) d (fit s)) (cread (fit u) e (fit s)) (fit p)) W
    (rfit_any t) (rfit_any u) (rfit_any s) (rfit_any p) (fun w => P.read _ _ _ w (num_fit t) hd (num_fit s)) (fun w => P.read _ _ _ w (num_fit u) he (num_fit s)) (fun w => P.passed _ _ _ w n1 n2 (num_fit p)) (rtwo_any _ _) (fun w b hb => add3_laid _ _ _ w b hb)
    ⟨fit_lo _, fit_hi _⟩ ⟨fit_lo _, fit_hi _⟩ ⟨fit_lo _, fit_hi _⟩ ⟨k1.1, k1.2.1⟩ ⟨k2.1, k2.2.1⟩ (three _ _ _ k1.2.2.1 k1.2.2.2) (three _ _ _ k2.2.2.1 k2.2.2.2) cpassed_skew
end Go.Proofs.Ytncpmdoljiinkaa.Clock
