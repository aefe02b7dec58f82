/-
  The three laws of layer 9, of all arguments, whatever the program's ledger is, if its calls do what is asked of them.
-/
import Derived.Test.YtcnnepmhdccipaaLedgerFits
import Derived.Test.YtcnnepmhdccipaaLedgerPlaysWay
import Derived.Test.YtcnnepmhdccipaaLedgerIdleWay
import Derived.Test.YtcnnepmhdccipaaLedgerBudgetWay
namespace Go.Proofs.Ytcnnepmhdccipaa.Ledger
open Go.RowKit
open _root_.Go.Proofs.Ytcnnepmhdccipaa.Frame (Rw Tb noRow LeasesAt cell_on tableOk Asked)

set_option maxRecDepth 100000 in
set_option maxHeartbeats 4000000 in
theorem plays_far (start n sk tl va lo he ke qu : Int) (p pf pl : Option Addr) (nr c nz cf m cl : Nat) (W : World) (ft : Bool) (hcase : ft = false ∨ ft = true ∧ 60 < (m : Int))
    (hal : ∀ w, Calls Try.prog 7 #[] w (Asked w true))
    (hf : ∀ u, Below W.heap.size W u → Calls Try.prog 6 #[.agg #[.int .i64 start, .slice p nr (c + nr)], .agg #[.int .i64 n, .int .i64 sk, .int .i64 tl, .int .i64 va, .int .i64 lo, .int .i64 he, .int .i64 ke, .int .i64 qu, .slice pf nz cf]] u (Asked u ft)) :
    Calls Try.prog 3 #[.agg #[.int .i64 start, .slice p nr (c + nr)], .agg #[.int .i64 n, .int .i64 sk, .int .i64 tl, .int .i64 va, .int .i64 lo, .int .i64 he, .int .i64 ke, .int .i64 qu, .slice pf nz cf], .slice pl m cl] W (Asked W true) := by
  have M0 := Lib.hid (((Mem.start W).box #[.int .i64 start, .slice p nr (c + nr)] 24).box #[.int .i64 n, .int .i64 sk, .int .i64 tl, .int .i64 va, .int .i64 lo, .int .i64 he, .int .i64 ke, .int .i64 qu, .slice pf nz cf] 27)
  simp only [size_alloc] at M0
  have hf1 := hf _ M0.out.below
  clear hf
  rcases hcase with rfl | ⟨rfl, h⟩
  all_goals
    go_enter Try.func3, Try.ntmps3
    go_wp2_with (first
      | (go_at_call 6; (with_reducible refine hf1.mono ?_); rintro e u1 ⟨rfl, hb⟩; have M1 := Lib.hid (M0.out.on hb); clear hf1 hb M0)
      | (go_at_call 7; (with_reducible refine (hal _).mono ?_); rintro e u2 ⟨rfl, hb⟩))
    go_ret
    exact ⟨rfl, M1.out.below.trans (hb.mono M1.out.below.size)⟩
theorem plays_any {I : Nat → Tb → Prop} (inv : Inv I) (P : Way9 I) (t : Tb) (p : Option Addr) (c : Nat) (f : Cf) (pf : Option Addr) (cf : Nat) (l : List Ac) (pl : Option Addr) (cl : Nat) (W : World)
    (hm : (t.rows.length : Int) ≤ 9223372036854775807) (hr : RowsAt W p t.rows) (hz : RatesAt W pf f.rates) (ha : ActsAt W pl l) (hln : ∀ a ∈ l, AcNum a) :
    Calls Try.prog 3 #[tabVal t p c, cfVal f pf cf, .slice pl l.length cl] W (Asked W true) := by
  have hf := fun u (hu : Below W.heap.size W u) => fits_any t p c f pf cf u hm (hr.below hu) (hz.below hu)
  by_cases h1 : fits9 t f = true
  · by_cases h2 : (l.length : Int) ≤ 60
    · obtain ⟨ht, hk, hr0, hr1, hrt, -⟩ := fits_yes h1
      rw [h1] at hf
      obtain ⟨⟨a0, a1⟩, a2, a3⟩ := hrt (f.rates.getD 0 (0, 0)) (by simp [List.getD, hr0])
      exact plays_few inv P t p c f pf cf l pl cl W hf (inv.first ht) hk hr0 hr1 ⟨by unfold Num; omega, by unfold Num; omega⟩ h2 hln hr hz ha
    · exact plays_far t.start f.n f.skew f.ttl f.valid f.loss f.hear f.keys f.queue p pf pl t.rows.length c f.rates.length cf l.length cl W _ (.inr ⟨h1, by omega⟩) (alive_way inv P) hf
  · exact plays_far t.start f.n f.skew f.ttl f.valid f.loss f.hear f.keys f.queue p pf pl t.rows.length c f.rates.length cf l.length cl W _ (.inl (by simpa using h1)) (alive_way inv P) hf

set_option maxRecDepth 100000 in
set_option maxHeartbeats 4000000 in
theorem budget_far (start R B : Int) (p : Option Addr) (m c : Nat) (W : World) (hal : ∀ w, Calls Try.prog 7 #[] w (Asked w true))
    (hcase : 60 < (m : Int) ∨ (m : Int) ≤ 60 ∧ (start < 0 ∨ 0 ≤ start ∧ (2147483648 < start ∨ start ≤ 2147483648 ∧ (R < 0 ∨ 0 ≤ R ∧ (2147483648 < R ∨ R ≤ 2147483648 ∧ (B < 0 ∨ 0 ≤ B ∧ 2147483648 < B)))))) :
    Calls Try.prog 4 #[.int .i64 start, .slice p m c, .agg #[.int .i64 R, .int .i64 B]] W (Asked W true) := by
  have M0 := Lib.hid ((Mem.start W).box #[.int .i64 R, .int .i64 B] 44)
  obtain ⟨k0, k1, -⟩ := box2 (M0.out.boxes 0 _ _ _ rfl)
  rcases hcase with h1 | ⟨h1, h2 | ⟨h2, h3 | ⟨h3, h4 | ⟨h4, h5 | ⟨h5, h6 | ⟨h6, h7⟩⟩⟩⟩⟩⟩
  all_goals
    go_enter Try.func4, Try.ntmps4
    go_wp2_with (go_at_call 7; (with_reducible refine (hal _).mono ?_); rintro e u2 ⟨rfl, hb⟩)
    go_ret
    exact ⟨rfl, M0.out.below.trans (hb.mono M0.out.below.size)⟩
theorem budget_any {I : Nat → Tb → Prop} (inv : Inv I) (P : Way9 I) (start R B : Int) (l : List Ac) (p : Option Addr) (c : Nat) (W : World) (hln : ∀ a ∈ l, AcNum a) (ha : ActsAt W p l) :
    Calls Try.prog 4 #[.int .i64 start, .slice p l.length c, .agg #[.int .i64 R, .int .i64 B]] W (Asked W true) := by
  by_cases h : (l.length : Int) ≤ 60 ∧ 0 ≤ start ∧ start ≤ 2147483648 ∧ 0 ≤ R ∧ R ≤ 2147483648 ∧ 0 ≤ B ∧ B ≤ 2147483648
  · obtain ⟨h1, h2, h3, h4, h5, h6, h7⟩ := h
    exact budget_few inv P start R B l p c W h1 hln h2 h3 h4 h5 h6 h7 ha
  · exact budget_far start R B p l.length c W (alive_way inv P) (by omega)
end Go.Proofs.Ytcnnepmhdccipaa.Ledger
