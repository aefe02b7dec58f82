/-
  The program's idle, of any row and configuration; busy, of any rows of up to 1000.
-/
import Derived.Test.YtcnnepmhdccipaaLgFind
import Derived.Test.YtcnnepmhdccipaaConfRate
namespace Go.Proofs.Ytcnnepmhdccipaa.Ledger
open Go.RowKit
open _root_.Go.Proofs.Ytcnnepmhdccipaa.Frame (Rw Tb noRow LeasesAt cell_on)
open _root_.Go.Proofs.Ytcnnepmhdccipaa.Codec (own_below own_lower lt_of_heap frozen_of heap_set)
open _root_.Go.Proofs.Ytcnnepmhdccipaa.Sat (fit add sub mul fit_lo fit_hi fit_self fit_fit fit_any sub_any mul_any add2 add_lo add_hi)

theorem mul_two (x : Int) : mul 2 x = add [x, x] := by
  have h0 := fit_lo x
  have h1 := fit_hi x
  unfold mul add
  rw [Sat.sum_two, fit_self (x := 2) (by omega) (by omega)]
  have e : 2 * fit x = fit x + fit x := by omega
  rw [e]
/-- conf.Rate, by the plain rateAt. -/
theorem prate_any (f : Cf) (p : Option Addr) (c : Nat) (key : Int) (w : World) (hz : RatesAt w p f.rates) :
    Calls Try.prog 56 #[cfVal f p c, .int .i64 key] w fun e w' => e = .returned (.tuple #[.agg #[.int .i64 (if 0 ≤ rateAt f.rates key then (rateOf f key).1 else 0), .int .i64 (if 0 ≤ rateAt f.rates key then (rateOf f key).2 else 0)], .bool (decide (0 ≤ rateAt f.rates key))]) ∧ Below w.heap.size w w' := by
  by_cases hr : 0 ≤ rateAt f.rates key
  · rw [if_pos hr, if_pos hr, decide_eq_true hr]
    obtain ⟨k, hk, hkl⟩ := rateAt_lt f.rates key hr
    obtain ⟨b, o, e, x0, x1⟩ := leases_some hz hkl
    have hb : 0 ≤ key ∧ key < 524288 ∧ key / 65536 = (k : Int) := by
      unfold rateAt at hk
      split at hk
      · rename_i h; exact ⟨h.1, h.2.1, hk⟩
      · omega
    have e1 : rateOf f key = f.rates.getD k (0, 0) := by unfold rateOf; rw [hk, Int.toNat_natCast]
    rw [e1]
    subst e
    exact Conf.rate_some f.n f.skew f.ttl f.valid f.loss f.hear f.keys f.queue b o f.rates.length c k key _ _ w (by rw [Conf.within_iff]; omega) hb.1 (by omega) hb.2.2 (by omega) x0 x1
  · rw [if_neg hr, if_neg hr, decide_eq_false hr]
    refine Conf.rate_none f.n f.skew f.ttl f.valid f.loss f.hear f.keys f.queue p f.rates.length c key w ?_
    unfold rateAt at hr
    split at hr
    · rename_i h
      exact absurd (by omega) hr
    · rename_i h
      by_cases hk : 0 ≤ key ∧ key < 524288
      · refine .inr ⟨by rw [Conf.within_iff]; omega, hk.1, by omega, ?_⟩
        omega
      · refine .inl ?_
        cases hw : Conf.within key 0 524287 with
        | false => rfl
        | true => rw [Conf.within_iff] at hw; omega
set_option maxRecDepth 100000 in
set_option maxHeartbeats 2000000 in
theorem pidle_core (xk xa xm : Int) (px : Option Addr) (nx cx : Nat) (start now : Int) (n sk tl va lo he ke qu : Int) (pf : Option Addr) (nz cf : Nat) (w : World) (R B : Int) (q D : Bool) (g s2 m2 sf : Int)
    (hrate : ∀ u, Below w.heap.size w u → Calls Try.prog 56 #[.agg #[.int .i64 n, .int .i64 sk, .int .i64 tl, .int .i64 va, .int .i64 lo, .int .i64 he, .int .i64 ke, .int .i64 qu, .slice pf nz cf], .int .i64 xk] u fun e u' => e = .returned (.tuple #[.agg #[.int .i64 R, .int .i64 B], .bool q]) ∧ Below u.heap.size u u')
    (hg : s2 = sub xm start) (hm : g = mul R s2) (h2 : m2 = mul 2 sk) (hs : sf = sub now m2) (hD : D = (q && decide (nx = 0) && decide (xa = B) && decide (B ≤ g) && decide (xm ≤ sf))) :
    Calls Try.prog 67 #[.agg #[.int .i64 xk, .int .i64 xa, .int .i64 xm, .slice px nx cx], .int .i64 start, .int .i64 now, .agg #[.int .i64 n, .int .i64 sk, .int .i64 tl, .int .i64 va, .int .i64 lo, .int .i64 he, .int .i64 ke, .int .i64 qu, .slice pf nz cf]] w fun e w' => e = .returned (.bool D) ∧ Below w.heap.size w w' := by
  have M0 := Lib.hid (((Mem.start w).box #[.int .i64 xk, .int .i64 xa, .int .i64 xm, .slice px nx cx] 38).box #[.int .i64 n, .int .i64 sk, .int .i64 tl, .int .i64 va, .int .i64 lo, .int .i64 he, .int .i64 ke, .int .i64 qu, .slice pf nz cf] 27)
  simp only [size_alloc] at M0
  have hsub := sub_any xm start
  have hmul := mul_any R s2
  have hmul2 := mul_any 2 sk
  have hsub2 := sub_any now m2
  rw [← hg] at hsub
  rw [← hm] at hmul
  rw [← h2] at hmul2
  rw [← hs] at hsub2
  clear hg hm h2 hs
  have hr1 := hrate _ M0.out.below
  clear hrate
  obtain ⟨r0, r1, r2, r3, -⟩ := box4 (M0.out.boxes 1 _ _ _ rfl)
  obtain ⟨c0, c1, c2, c3, c4, c5, c6, c7, c8⟩ := nine_cells (M0.out.boxes 0 _ _ _ rfl)
  have hcase : (q = false ∧ D = false) ∨ (q = true ∧ (0 : Int) < (nx : Int) ∧ D = false) ∨ (q = true ∧ nx = 0 ∧ (xa != B) = true ∧ D = false) ∨ (q = true ∧ nx = 0 ∧ xa = B ∧ D = (decide (B ≤ g) && decide (xm ≤ sf))) := by
    cases q
    · exact .inl ⟨rfl, by rw [hD]; simp⟩
    · by_cases h1 : nx = 0
      · by_cases h2 : xa = B
        · exact .inr (.inr (.inr ⟨rfl, h1, h2, by rw [hD, decide_eq_true h1, decide_eq_true h2]; rfl⟩))
        · exact .inr (.inr (.inl ⟨rfl, h1, by simpa using h2, by rw [hD, decide_eq_false h2]; simp⟩))
      · exact .inr (.inl ⟨rfl, by omega, by rw [hD, decide_eq_false h1]; simp⟩)
  clear hD
  rcases hcase with ⟨rfl, rfl⟩ | ⟨rfl, h1, rfl⟩ | ⟨rfl, rfl, h1, rfl⟩ | ⟨rfl, rfl, hB, hD⟩
  · go_enter Try.func67, Try.ntmps67
    go_wp2_with (go_at_call 56; (with_reducible refine hr1.mono ?_); rintro e u1 ⟨rfl, hb⟩; have M1 := Lib.hid ((M0.out.on hb).box #[.int .i64 R, .int .i64 B] 44); clear hb r0 r1 r2 r3 c0 c1 c2 c3 c4 c5 c6 c7 c8 hr1; obtain ⟨z0, z1, -⟩ := box2 (M1.out.boxes 0 _ _ _ rfl); obtain ⟨c0, c1, c2, c3, c4, c5, c6, c7, c8⟩ := nine_cells (M1.out.boxes 1 _ _ _ rfl); obtain ⟨r0, r1, r2, r3, -⟩ := box4 (M1.out.boxes 2 _ _ _ rfl))
    go_ret
    exact ⟨rfl, M1.out.below⟩
  · go_enter Try.func67, Try.ntmps67
    go_wp2_with (go_at_call 56; (with_reducible refine hr1.mono ?_); rintro e u1 ⟨rfl, hb⟩; have M1 := Lib.hid ((M0.out.on hb).box #[.int .i64 R, .int .i64 B] 44); clear hb r0 r1 r2 r3 c0 c1 c2 c3 c4 c5 c6 c7 c8 hr1; obtain ⟨z0, z1, -⟩ := box2 (M1.out.boxes 0 _ _ _ rfl); obtain ⟨c0, c1, c2, c3, c4, c5, c6, c7, c8⟩ := nine_cells (M1.out.boxes 1 _ _ _ rfl); obtain ⟨r0, r1, r2, r3, -⟩ := box4 (M1.out.boxes 2 _ _ _ rfl))
    go_ret
    exact ⟨rfl, M1.out.below⟩
  · go_enter Try.func67, Try.ntmps67
    go_wp2_with (go_at_call 56; (with_reducible refine hr1.mono ?_); rintro e u1 ⟨rfl, hb⟩; have M1 := Lib.hid ((M0.out.on hb).box #[.int .i64 R, .int .i64 B] 44); clear hb r0 r1 r2 r3 c0 c1 c2 c3 c4 c5 c6 c7 c8 hr1; obtain ⟨z0, z1, -⟩ := box2 (M1.out.boxes 0 _ _ _ rfl); obtain ⟨c0, c1, c2, c3, c4, c5, c6, c7, c8⟩ := nine_cells (M1.out.boxes 1 _ _ _ rfl); obtain ⟨r0, r1, r2, r3, -⟩ := box4 (M1.out.boxes 2 _ _ _ rfl))
    go_ret
    exact ⟨rfl, M1.out.below⟩
  · have hB' := hB.symm
    clear hB
    subst hB'
    go_enter Try.func67, Try.ntmps67
    go_wp2_with (go_at_call 56; (with_reducible refine hr1.mono ?_); rintro e u1 ⟨rfl, hb⟩; have M1 := Lib.hid ((M0.out.on hb).box #[.int .i64 R, .int .i64 B] 44); clear hb r0 r1 r2 r3 c0 c1 c2 c3 c4 c5 c6 c7 c8 hr1; obtain ⟨z0, z1, -⟩ := box2 (M1.out.boxes 0 _ _ _ rfl); obtain ⟨c0, c1, c2, c3, c4, c5, c6, c7, c8⟩ := nine_cells (M1.out.boxes 1 _ _ _ rfl); obtain ⟨r0, r1, r2, r3, -⟩ := box4 (M1.out.boxes 2 _ _ _ rfl))
    have MD := Lib.hid M1.out.drew
    go_region_held3 (fun u => u.cell? ⟨u1.heap.size, 0, none⟩ = some (.int .i64 R) ∧ u.cell? ⟨w.heap.size, 2, none⟩ = some (.int .i64 xm) ∧ u.cell? ⟨u1.heap.size, 1, none⟩ = some (.int .i64 B)) (first | assumption | exact ⟨z0, r2, z1⟩) (first
      | (go_at_call 40; (with_reducible refine (hsub _).mono ?_); rintro e u2 ⟨rfl, rfl⟩)
      | (go_at_call 39; (with_reducible refine (hmul _).mono ?_); rintro e u2 ⟨rfl, rfl⟩))
    all_goals
      clear r0 r1 r2 r3 z0 z1 c0 c1 c2 c3 c4 c5 c6 c7 c8 hsub hmul
      obtain ⟨r0, r1, r2, r3, -⟩ := box4 (MD.out.boxes 2 _ _ _ rfl)
      obtain ⟨c0, c1, c2, c3, c4, c5, c6, c7, c8⟩ := nine_cells (MD.out.boxes 1 _ _ _ rfl)
      by_cases k1 : B ≤ g
      · rw [decide_eq_true k1, Bool.true_and] at hD
        have k1' : decide (B ≤ g) = true := by simpa using k1
        go_wp2
        have ME := Lib.hid MD.out.drew
        go_region_held3 (fun u => u.cell? ⟨w.heap.size + 1, 1, none⟩ = some (.int .i64 sk) ∧ u.cell? ⟨w.heap.size, 2, none⟩ = some (.int .i64 xm)) (first | assumption | exact ⟨c1, r2⟩) (first
          | (go_at_call 39; (with_reducible refine (hmul2 _).mono ?_); rintro e u3 ⟨rfl, rfl⟩)
          | (go_at_call 40; (with_reducible refine (hsub2 _).mono ?_); rintro e u3 ⟨rfl, rfl⟩))
        all_goals
          clear k1'
          subst hD
          go_wp2
          go_ret
          exact ⟨rfl, ME.out.below⟩
      · rw [decide_eq_false k1, Bool.false_and] at hD
        subst hD
        have k1' : decide (B ≤ g) = false := by simpa using k1
        go_wp2
        go_quiet (fail)
        go_wp2
        go_ret
        exact ⟨rfl, MD.out.below.trans ((below_drewN _ _).mono MD.out.below.size)⟩
theorem pidle_any (r : Rw) (pr : Option Addr) (cr : Nat) (start now : Int) (f : Cf) (pf : Option Addr) (cf : Nat) (w : World) (hz : RatesAt w pf f.rates) :
    Calls Try.prog 67 #[rowVal r pr cr, .int .i64 start, .int .i64 now, cfVal f pf cf] w fun e w' => e = .returned (.bool (idle start r now f)) ∧ Below w.heap.size w w' := by
  refine pidle_core r.key r.avail r.mark pr r.out.length (cr + r.out.length) start now f.n f.skew f.ttl f.valid f.loss f.hear f.keys f.queue pf f.rates.length cf w _ _ _ _ _ _ _ _ (fun u hu => prate_any f pf cf r.key u (hz.below hu)) rfl rfl rfl rfl ?_
  unfold idle
  by_cases h : 0 ≤ rateAt f.rates r.key
  · rw [if_pos h, if_pos h, decide_eq_true h, mul_two]
    show _ = (true && decide (r.out.length = 0) && decide (r.avail = (rateOf f r.key).2) && decide ((rateOf f r.key).2 ≤ mul (rateOf f r.key).1 (sub r.mark start)) && decide (r.mark ≤ sub now (add [f.skew, f.skew])))
    unfold rateOf
    rw [Bool.true_and, Bool.true_and]
    cases decide (r.mark ≤ sub now (add [f.skew, f.skew])) <;> simp
  · rw [decide_eq_false h]
    simp
end Go.Proofs.Ytcnnepmhdccipaa.Ledger
