/-
  annonalaw09's Fits, of any table and configuration.
-/
import Derived.Test.YtcnnepmhdccipaaLedgerSameRow
import Derived.Test.YtcnnepmhdccipaaFrmFits
import Derived.Test.YtcnnepmhdccipaaMgH
import Derived.Test.YtcnnepmhdccipaaConfRefCheck
namespace Go.Proofs.Ytcnnepmhdccipaa.Ledger
open Go.RowKit
open _root_.Go.Proofs.Ytcnnepmhdccipaa.Frame (Rw Tb Tk noRow LeasesAt cell_on tableOk Asked fitsTk Small allTo)
open _root_.Go.Proofs.Ytcnnepmhdccipaa.Codec (lt_of_heap frozen_of heap_set)

def checkOf (f : Cf) : Int := Conf.check f.n f.skew f.ttl f.valid f.loss f.hear f.keys f.queue f.rates
/-- May a table, and a configuration, be gone through? -/
def fits9 (t : Tb) (f : Cf) : Bool := fitsTk ⟨0, 0, [], t⟩ && decide (f.rates.length ≤ 60) && tableOk t && decide (checkOf f = 0)

set_option maxRecDepth 100000 in
set_option maxHeartbeats 4000000 in
theorem fits_core (start n sk tl va lo he ke qu ck : Int) (p pf : Option Addr) (nr c nz cf : Nat) (w : World) (fk tk R : Bool) (hR : R = (fk && decide (nz ≤ 60) && tk && decide (ck = 0)))
    (hf : ∀ u, Below w.heap.size w u → Calls Try.prog 27 #[.agg #[.int .i64 0, .int .i64 0, .slice none 0 0, .int .i64 start, .slice p nr (c + nr)]] u (Asked u fk))
    (ht : fk = true → ∀ u, Below w.heap.size w u → Calls Try.prog 28 #[.agg #[.int .i64 start, .slice p nr (c + nr)]] u (Asked u tk))
    (hc : nz ≤ 60 → ∀ u, Below w.heap.size w u → Calls Try.prog 29 #[.agg #[.int .i64 n, .int .i64 sk, .int .i64 tl, .int .i64 va, .int .i64 lo, .int .i64 he, .int .i64 ke, .int .i64 qu, .slice pf nz cf]] u fun e u' => e = .returned (.int .i64 ck) ∧ Below u.heap.size u u') :
    Calls Try.prog 6 #[.agg #[.int .i64 start, .slice p nr (c + nr)], .agg #[.int .i64 n, .int .i64 sk, .int .i64 tl, .int .i64 va, .int .i64 lo, .int .i64 he, .int .i64 ke, .int .i64 qu, .slice pf nz cf]] w (Asked w R) := by
  have M0 := Lib.hid (((Mem.start w).box #[.int .i64 start, .slice p nr (c + nr)] 24).box #[.int .i64 n, .int .i64 sk, .int .i64 tl, .int .i64 va, .int .i64 lo, .int .i64 he, .int .i64 ke, .int .i64 qu, .slice pf nz cf] 27)
  simp only [size_alloc] at M0
  obtain ⟨t0, t1, -⟩ := box2 (M0.out.boxes 1 _ _ _ rfl)
  have HR := Lib.hid hR
  clear hR
  have hcase : fk = false ∨ (fk = true ∧ 60 < (nz : Int)) ∨ (fk = true ∧ (nz : Int) ≤ 60 ∧ tk = false) ∨ (fk = true ∧ (nz : Int) ≤ 60 ∧ tk = true ∧ (ck == 0) = true) ∨ (fk = true ∧ (nz : Int) ≤ 60 ∧ tk = true ∧ (ck == 0) = false) := by
    cases fk <;> cases tk <;> by_cases h1 : (nz : Int) ≤ 60 <;> by_cases h2 : ck = 0 <;> simp [h1, h2] <;> omega
  rcases hcase with rfl | ⟨rfl, h1⟩ | ⟨rfl, h1, rfl⟩ | ⟨rfl, h1, rfl, h2⟩ | ⟨rfl, h1, rfl, h2⟩
  case' inl => obtain rfl : R = false := by rw [HR.out]; simp
  case' inr.inl => obtain rfl : R = false := by rw [HR.out, decide_eq_false (by omega)]; simp
  case' inr.inr.inl => obtain rfl : R = false := by rw [HR.out]; simp
  case' inr.inr.inr.inl => obtain rfl : R = true := by rw [HR.out, decide_eq_true (show nz ≤ 60 by omega), decide_eq_true (beq_iff_eq.1 h2)]; rfl
  case' inr.inr.inr.inr => obtain rfl : R = false := by rw [HR.out, decide_eq_false (show ¬ ck = 0 from fun h => by simp [h] at h2)]; simp
  all_goals
    go_enter Try.func6, Try.ntmps6
    go_wp2_with (first
      | (go_at_call 27; (with_reducible refine (hf _ M0.out.below).mono ?_); rintro e u1 ⟨rfl, hb⟩; have M1 := Lib.hid (M0.out.on hb); obtain ⟨t0, t1, -⟩ := box2 (M1.out.boxes 1 _ _ _ rfl); obtain ⟨c0, c1, c2, c3, c4, c5, c6, c7, c8⟩ := nine_cells (M1.out.boxes 0 _ _ _ rfl); clear hb M0 hf)
      | (go_at_call 28; (with_reducible refine (ht (by simp) _ M1.out.below).mono ?_); rintro e u2 ⟨rfl, hb⟩; have M2 := Lib.hid (M1.out.on hb); clear hb M1 t0 t1 c0 c1 c2 c3 c4 c5 c6 c7 c8; obtain ⟨c0, c1, c2, c3, c4, c5, c6, c7, c8⟩ := nine_cells (M2.out.boxes 0 _ _ _ rfl))
      | (go_at_call 29; (with_reducible refine (hc (by omega) _ M2.out.below).mono ?_); rintro e u3 ⟨rfl, hb⟩; have M3 := Lib.hid (M2.out.on hb); clear hb c0 c1 c2 c3 c4 c5 c6 c7 c8))
    go_ret
    exact ⟨rfl, by first | exact M3.out.below | exact M1.out.below⟩
theorem fits_any (t : Tb) (p : Option Addr) (c : Nat) (f : Cf) (pf : Option Addr) (cf : Nat) (w : World) (hm : (t.rows.length : Int) ≤ 9223372036854775807) (hr : RowsAt w p t.rows) (hz : RatesAt w pf f.rates) :
    Calls Try.prog 6 #[tabVal t p c, cfVal f pf cf] w (Asked w (fits9 t f)) := by
  refine fits_core t.start f.n f.skew f.ttl f.valid f.loss f.hear f.keys f.queue (checkOf f) p pf t.rows.length c f.rates.length cf w (fitsTk ⟨0, 0, [], t⟩) (tableOk t) (fits9 t f) rfl ?_ ?_ ?_
  · exact fun u hu => Frame.fits_token ⟨0, 0, [], t⟩ none p 0 (c + t.rows.length) u (by simp) hm (hr.below hu).frame
  · intro hk u hu
    refine Frame.table_any t p (c + t.rows.length) u (hr.below hu).frame (fun r hr => ?_)
    simp only [fitsTk, Bool.and_eq_true] at hk
    obtain ⟨j, hj, e⟩ := List.mem_iff_getElem.1 hr
    have h2 := hk.2
    rw [allTo, List.all_eq_true] at h2
    have h3 := h2 j (List.mem_range.2 hj)
    have e2 : t.rows.getD j noRow = r := by simp [List.getD, hj, e]
    rw [e2] at h3
    have h4 := of_decide_eq_true h3
    omega
  · intro hn u hu
    exact Conf.refcheck_any f.n f.skew f.ttl f.valid f.loss f.hear f.keys f.queue pf f.rates cf u (by omega) (hz.below hu)
/-- What a yes says. -/
theorem fits_yes {t : Tb} {f : Cf} (h : fits9 t f = true) : tableOk t = true ∧ f.keys ≤ 16 ∧ 0 < f.rates.length ∧ f.rates.length ≤ 60 ∧ (∀ r ∈ f.rates, (0 ≤ r.1 ∧ r.1 ≤ 2147483648) ∧ 0 ≤ r.2 ∧ r.2 ≤ 2147483648) ∧ 0 ≤ f.skew ∧ f.skew ≤ 2147483648 := by
  simp only [fits9, Bool.and_eq_true, decide_eq_true_eq] at h
  obtain ⟨⟨⟨-, h1⟩, h2⟩, h3⟩ := h
  unfold checkOf Conf.check at h3
  split at h3
  · cases h3
  · split at h3
    · cases h3
    · rename_i k2
      split at h3
      · cases h3
      · rename_i k3
        split at h3
        · cases h3
        · rename_i k4
          rw [Bool.not_eq_false] at k2 k3 k4
          simp only [Conf.times, Conf.rooms, Conf.rates, Conf.rate1, Bool.and_eq_true, Conf.within_iff, List.all_eq_true] at k2 k3 k4
          refine ⟨h2, k3.1.2, by omega, h1, fun r hr => k4.2 r hr, k2.2.1, k2.2.2⟩
end Go.Proofs.Ytcnnepmhdccipaa.Ledger
