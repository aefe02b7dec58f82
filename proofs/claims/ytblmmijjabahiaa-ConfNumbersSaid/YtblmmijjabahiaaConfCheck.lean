/-
  conf.Check, and the document's, of any configuration of at most 100 rates return the same error, and of what lay nothing has turned.
-/
import Derived.Test.YtblmmijjabahiaaConfBase
namespace Go.Proofs.Ytblmmijjabahiaa.Conf
open Go.RowKit Ring

theorem all_take (zs : List (Int × Int)) (k : Nat) (h : k < zs.length) : (zs.take (k + 1)).all rate1 = ((zs.take k).all rate1 && (within (zs.getD k (0, 0)).1 0 2147483648 && within (zs.getD k (0, 0)).2 0 2147483648)) := by
  have e : zs.getD k (0, 0) = zs[k] := by simp [h]
  rw [e, List.take_succ_eq_append_getElem h, List.all_append]
  simp [rate1]
theorem all_no (zs : List (Int × Int)) (k : Nat) (h : k < zs.length) (hr : (within (zs.getD k (0, 0)).1 0 2147483648 && within (zs.getD k (0, 0)).2 0 2147483648) = false) : zs.all rate1 = false := by
  have e : zs.getD k (0, 0) = zs[k] := by simp [h]
  rw [e] at hr
  rw [List.all_eq_false]
  exact ⟨zs[k], List.getElem_mem h, by unfold rate1; rw [hr]; exact Bool.false_ne_true⟩

set_option maxRecDepth 100000 in
set_option maxHeartbeats 1000000 in
theorem rates_any (p : Option Addr) (zs : List (Int × Int)) (c : Nat) (w : World) (hl : zs.length ≤ 100) (hr : IsRates w p zs) :
    Calls Try.prog 82 #[.slice p zs.length c] w fun e w' => e = .returned (.bool (rates zs)) ∧ Below w.heap.size w w' := by
  rcases Bool.eq_false_or_eq_true (within zs.length 1 8) with h | h
  · rcases hr with h0 | ⟨b, o, rfl, hr⟩
    · subst h0; exact absurd h (by decide)
    have HR := Lib.hid hr; clear hr
    have HT := Lib.hid (show rates zs = zs.all rate1 by unfold rates; rw [h]; rfl)
    go_enter Try.func82, Try.ntmps82
    go_wp2_with (go_at_call 87; refine (within_any _ _ _ _).mono ?_; rintro e w' ⟨rfl, rfl⟩)
    go_loopw [11] (fun i wr => ∃ k : Nat, i = .int .i64 (k : Int) ∧ k ≤ zs.length ∧ Hid ((zs.take k).all rate1 = true) ∧ Hid (Below w.heap.size w wr)) (fun i _ => zs.length - (intOf i).toNat)
    case atStart => exact ⟨0, rfl, by omega, Lib.hid rfl, Lib.hid (Below.refl _ _)⟩
    case round =>
      obtain ⟨k, rfl, hk, HA, HB⟩ := hrel
      by_cases hlt : k < zs.length
      · have hlt' : (k : Int) < (zs.length : Int) := by omega
        have g1 : wr.cell? ⟨b, o + k * 2, none⟩ = some (.int .i64 (zs.getD k (0, 0)).1) := cell_stays HB.out (HR.out k hlt).1
        have g2 : wr.cell? ⟨b, o + k * 2 + 1, none⟩ = some (.int .i64 (zs.getD k (0, 0)).2) := cell_stays HB.out (HR.out k hlt).2
        have at1 := all_take zs k hlt
        have an := all_no zs k hlt
        have AT := Lib.hid at1; clear at1
        have AN := Lib.hid an; clear an
        generalize (zs.getD k (0, 0)).1 = x at *
        generalize (zs.getD k (0, 0)).2 = y at *
        rcases Bool.eq_false_or_eq_true (within x 0 2147483648) with h1 | h1
        · rcases Bool.eq_false_or_eq_true (within y 0 2147483648) with h2 | h2
          · go_wp2_with (go_at_call 87; refine (within_any _ _ _ _).mono ?_; rintro e w' ⟨rfl, rfl⟩)
            go_roundw
            case rel => exact ⟨k + 1, by go_num, by omega, Lib.hid (by rw [AT.out, HA.out, h1, h2]; rfl), Lib.hid (HB.out.alloc HB.out.size _)⟩
            case measure => simp only [intOf]; omega
          · go_wp2_with (go_at_call 87; refine (within_any _ _ _ _).mono ?_; rintro e w' ⟨rfl, rfl⟩)
            go_ret
            exact ⟨ret_bool (by rw [HT.out, AN.out (by rw [h1, h2]; rfl)]), HB.out.alloc HB.out.size _⟩
        · go_wp2_with (go_at_call 87; refine (within_any _ _ _ _).mono ?_; rintro e w' ⟨rfl, rfl⟩)
          go_ret
          exact ⟨ret_bool (by rw [HT.out, AN.out (by rw [h1]; rfl)]), HB.out.alloc HB.out.size _⟩
      · have hke : k = zs.length := by omega
        subst hke
        go_wp2
        go_ret
        exact ⟨ret_bool (by rw [HT.out]; have h := HA.out; rw [List.take_length] at h; rw [h]), HB.out⟩
  · have HT := Lib.hid (show rates zs = false by unfold rates; rw [h]; rfl)
    go_enter Try.func82, Try.ntmps82
    go_wp2_with (go_at_call 87; refine (within_any _ _ _ _).mono ?_; rintro e w' ⟨rfl, rfl⟩)
    go_ret
    exact ⟨ret_bool HT.out.symm, Below.refl _ _⟩

/-- How the world stands behind the box of a call's argument: what lay is as it was, and the box holds the configuration. -/
def Stand (w W : World) (n sk tl va lo he ke qu : Int) (p : Option Addr) (l c : Nat) : Prop :=
  Below w.heap.size w W ∧ Nine W w.heap.size (.int .i64 n) (.int .i64 sk) (.int .i64 tl) (.int .i64 va) (.int .i64 lo) (.int .i64 he) (.int .i64 ke) (.int .i64 qu) (.slice p l c)
theorem start (w : World) (n sk tl va lo he ke qu : Int) (p : Option Addr) (l c : Nat) : Stand w (w.alloc (.cells #[.int .i64 n, .int .i64 sk, .int .i64 tl, .int .i64 va, .int .i64 lo, .int .i64 he, .int .i64 ke, .int .i64 qu, .slice p l c] 48)) n sk tl va lo he ke qu p l c :=
  ⟨below_new _ _, nine_new _ _ _ _ _ _ _ _ _ _ _⟩
theorem Stand.step {w W W' : World} {n sk tl va lo he ke qu : Int} {p : Option Addr} {l c : Nat} (h : Stand w W n sk tl va lo he ke qu p l c) (hb : Below W.heap.size W W') : Stand w W' n sk tl va lo he ke qu p l c :=
  ⟨h.1.trans (hb.mono h.1.size), h.2.stays hb⟩

set_option maxRecDepth 100000 in
set_option maxHeartbeats 1000000 in
theorem check_core (n sk tl va lo he ke qu : Int) (p : Option Addr) (l c : Nat) (w : World) (tb rb zb : Bool) (r : Int)
    (cT : ∀ u, Stand w u n sk tl va lo he ke qu p l c → Calls Try.prog 80 #[.agg #[.int .i64 n, .int .i64 sk, .int .i64 tl, .int .i64 va, .int .i64 lo, .int .i64 he, .int .i64 ke, .int .i64 qu, .slice p l c]] u fun e W => e = .returned (.bool tb) ∧ Stand w W n sk tl va lo he ke qu p l c ∧ Nine W w.heap.size (.int .i64 n) (.int .i64 sk) (.int .i64 tl) (.int .i64 va) (.int .i64 lo) (.int .i64 he) (.int .i64 ke) (.int .i64 qu) (.slice p l c))
    (cR : ∀ u, Stand w u n sk tl va lo he ke qu p l c → Calls Try.prog 81 #[.agg #[.int .i64 n, .int .i64 sk, .int .i64 tl, .int .i64 va, .int .i64 lo, .int .i64 he, .int .i64 ke, .int .i64 qu, .slice p l c]] u fun e W => e = .returned (.bool rb) ∧ Stand w W n sk tl va lo he ke qu p l c ∧ Nine W w.heap.size (.int .i64 n) (.int .i64 sk) (.int .i64 tl) (.int .i64 va) (.int .i64 lo) (.int .i64 he) (.int .i64 ke) (.int .i64 qu) (.slice p l c))
    (cZ : ∀ u, Stand w u n sk tl va lo he ke qu p l c → Calls Try.prog 82 #[.slice p l c] u fun e W => e = .returned (.bool zb) ∧ Stand w W n sk tl va lo he ke qu p l c)
    (h : (within n 1 64 = false ∧ r = 21) ∨ (within n 1 64 = true ∧ tb = false ∧ r = 22) ∨ (within n 1 64 = true ∧ tb = true ∧ rb = false ∧ r = 23) ∨ (within n 1 64 = true ∧ tb = true ∧ rb = true ∧ zb = false ∧ r = 24) ∨ (within n 1 64 = true ∧ tb = true ∧ rb = true ∧ zb = true ∧ r = 0)) :
    Calls Try.prog 42 #[.agg #[.int .i64 n, .int .i64 sk, .int .i64 tl, .int .i64 va, .int .i64 lo, .int .i64 he, .int .i64 ke, .int .i64 qu, .slice p l c]] w fun e w' => e = .returned (.int .i64 r) ∧ Below w.heap.size w w' := by
  rcases h with ⟨h1, rfl⟩ | ⟨h1, rfl, rfl⟩ | ⟨h1, rfl, rfl, rfl⟩ | ⟨h1, rfl, rfl, rfl, rfl⟩ | ⟨h1, rfl, rfl, rfl, rfl⟩
  · go_enter Try.func42, Try.ntmps42
    go_wp2_with (first
      | (go_at_call 79; refine (isRing_any _ _).mono ?_; rintro e w' ⟨rfl, rfl⟩)
      | (go_at_call 80; (first | (with_reducible refine (cT _ hP).mono ?_) | (with_reducible refine (cT _ (start _ _ _ _ _ _ _ _ _ _ _ _)).mono ?_)); (try clear hP c0 c1 c2 c3 c4 c5 c6 c7 c8); rintro e w1 ⟨rfl, hP, c0, c1, c2, c3, c4, c5, c6, c7, c8⟩)
      | (go_at_call 81; (with_reducible refine (cR _ hP).mono ?_); (try clear hP c0 c1 c2 c3 c4 c5 c6 c7 c8); rintro e w1 ⟨rfl, hP, c0, c1, c2, c3, c4, c5, c6, c7, c8⟩)
      | (go_at_call 82; (with_reducible refine (cZ _ hP).mono ?_); (try clear hP c0 c1 c2 c3 c4 c5 c6 c7 c8); rintro e w1 ⟨rfl, hP⟩))
    go_ret
    exact ⟨rfl, below_new _ _⟩
  all_goals
    go_enter Try.func42, Try.ntmps42
    go_wp2_with (first
      | (go_at_call 79; refine (isRing_any _ _).mono ?_; rintro e w' ⟨rfl, rfl⟩)
      | (go_at_call 80; (first | (with_reducible refine (cT _ hP).mono ?_) | (with_reducible refine (cT _ (start _ _ _ _ _ _ _ _ _ _ _ _)).mono ?_)); (try clear hP c0 c1 c2 c3 c4 c5 c6 c7 c8); rintro e w1 ⟨rfl, hP, c0, c1, c2, c3, c4, c5, c6, c7, c8⟩)
      | (go_at_call 81; (with_reducible refine (cR _ hP).mono ?_); (try clear hP c0 c1 c2 c3 c4 c5 c6 c7 c8); rintro e w1 ⟨rfl, hP, c0, c1, c2, c3, c4, c5, c6, c7, c8⟩)
      | (go_at_call 82; (with_reducible refine (cZ _ hP).mono ?_); (try clear hP c0 c1 c2 c3 c4 c5 c6 c7 c8); rintro e w1 ⟨rfl, hP⟩))
    go_ret
    exact ⟨rfl, hP.1⟩

theorem check_any (n sk tl va lo he ke qu : Int) (p : Option Addr) (zs : List (Int × Int)) (c : Nat) (w : World) (hl : zs.length ≤ 100) (hr : IsRates w p zs) :
    Calls Try.prog 42 #[.agg #[.int .i64 n, .int .i64 sk, .int .i64 tl, .int .i64 va, .int .i64 lo, .int .i64 he, .int .i64 ke, .int .i64 qu, .slice p zs.length c]] w fun e w' => e = .returned (.int .i64 (check n sk tl va lo he ke qu zs)) ∧ Below w.heap.size w w' := by
  refine check_core n sk tl va lo he ke qu p zs.length c w (times sk tl va lo he) (rooms ke qu) (rates zs) _
    (fun u hu => (times_any n sk tl va lo he ke qu p zs.length c u).mono fun e W k => ⟨k.1, hu.step k.2, (hu.step k.2).2⟩)
    (fun u hu => (rooms_any n sk tl va lo he ke qu p zs.length c u).mono fun e W k => ⟨k.1, hu.step k.2, (hu.step k.2).2⟩)
    (fun u hu => (rates_any p zs c u hl (hr.stays hu.1)).mono fun e W k => ⟨k.1, hu.step k.2⟩) ?_
  unfold check
  rcases Bool.eq_false_or_eq_true (within n 1 64) with h1 | h1
  · rcases Bool.eq_false_or_eq_true (times sk tl va lo he) with h2 | h2
    · rcases Bool.eq_false_or_eq_true (rooms ke qu) with h3 | h3
      · rcases Bool.eq_false_or_eq_true (rates zs) with h4 | h4
        · exact .inr (.inr (.inr (.inr ⟨h1, h2, h3, h4, by simp [h1, h2, h3, h4]⟩)))
        · exact .inr (.inr (.inr (.inl ⟨h1, h2, h3, h4, by simp [h1, h2, h3, h4]⟩)))
      · exact .inr (.inr (.inl ⟨h1, h2, h3, by simp [h1, h2, h3]⟩))
    · exact .inr (.inl ⟨h1, h2, by simp [h1, h2]⟩)
  · exact .inl ⟨h1, by simp [h1]⟩
end Go.Proofs.Ytblmmijjabahiaa.Conf
