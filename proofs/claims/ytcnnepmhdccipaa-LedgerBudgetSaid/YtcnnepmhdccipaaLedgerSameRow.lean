/-
  The acts of annonalaw09 of tables of which I holds; two rows that are one (sameRow).
-/
import Derived.Test.YtcnnepmhdccipaaLedgerWay
namespace Go.Proofs.Ytcnnepmhdccipaa.Ledger
open Go.RowKit
open _root_.Go.Proofs.Ytcnnepmhdccipaa.Frame (Rw Tb noRow LeasesAt cell_on tableOk Asked sameTable allTo allTo_true)
open _root_.Go.Proofs.Ytcnnepmhdccipaa.Codec (lt_of_heap frozen_of heap_set)

theorem act_num {n : Nat} {t : Tb} (h : Base n t) (f : Cf) {a : Ac} (ha : AcNum a) : Num (actOf f t a).2 := by
  unfold actOf
  split
  · unfold mint; split
    · simp [Num]
    · split
      · simp [Num]
      · split <;> simp [Num]
  · split
    · unfold settle
      split
      · rename_i hh
        have := amount_in h ha.2.1 hh
        have := ha.2.2.2.2
        simp only [Num, spentOf] at *
        split <;> omega
      · simp [Num]
    · unfold grant
      split
      · rename_i hm
        have := may_in hm
        simp only [Num, grantN] at *
        omega
      · simp [Num]
theorem step_far {I : Nat → Tb → Prop} (inv : Inv I) (P : Way9 I) {n : Nat} {t : Tb} (h : I n t) (hn : n ≤ 61) (a : Ac) (ha : AcNum a) (f : Cf) (hf : f.rates.length ≤ 60) (p : Option Addr) (c : Nat) (pf : Option Addr) (cf : Nat) (w : World) (hr : RowsAt w p t.rows) (hz : RatesAt w pf f.rates) :
    Calls Try.prog 8 #[tabVal t p c, acVal a, cfVal f pf cf] w (TellsTabFar w p t (actOf f t a).1 (fun v => .tuple #[v, .int .i64 (actOf f t a).2])) := by
  have hN := act_num (inv.base h) f ha
  obtain ⟨hk, h1, h2, h3, h4⟩ := ha
  have key : ∀ (u : World) (F : Nat) (args : Array Value) (T : Tb) (N : Int), Below w.heap.size w u → Calls Try.prog F args u (TellsTabFar u p t T (fun v => .tuple #[v, .int .i64 N])) → Calls Try.prog F args u fun e u' => ∃ p' c', e = .returned (.tuple #[.agg #[.int .i64 T.start, .slice p' T.rows.length (c' + T.rows.length)], .int .i64 N]) ∧ (RowsAt u' p' T.rows ∧ ∀ S, RowsIn S w p t.rows → RowsIn (fun b => S b ∨ w.heap.size ≤ b) u' p' T.rows) ∧ Below u.heap.size u u' := by
    intro u F args T N hu hc
    refine hc.mono ?_
    rintro e u' ⟨p', c', e1, ⟨e2, e3⟩, e4⟩
    refine ⟨p', c', e1, ⟨e2, fun S hS => (e3 S (hS.below hu)).on (fun b hb _ => ?_) (fun b _ _ => rfl)⟩, e4⟩
    have := hu.size
    rcases hb with hb | hb
    · exact .inl hb
    · exact .inr (by omega)
  refine (step_core t.start a.key a.now a.node f.n f.skew f.ttl f.valid f.loss f.hear f.keys f.queue a.n p pf t.rows.length c f.rates.length cf (actOf f t a).1.rows.length w a.kind (actOf f t a).1.start (actOf f t a).2 _ (stay_far (actOf f t a).1.rows (fun S => RowsIn S w p t.rows) (fun S b => S b ∨ w.heap.size ≤ b)) hk hN ?_ ?_ ?_).mono fun e w' h => h
  · intro e u hu
    have he : actOf f t a = mint t a.key a.now f := by unfold actOf; rw [if_pos e]
    rw [he]
    exact key u _ _ _ _ hu (P.mint p c a.key a.now f pf cf u h hn h1 h2 hf (hr.below hu) (hz.below hu))
  · intro e u hu
    have he : actOf f t a = settle t a.key a.node a.n := by unfold actOf; rw [if_neg (by omega), if_pos e]
    rw [he]
    exact key u _ _ _ _ hu (P.settle p c a.key a.node a.n u h hn h1 h3 h4 (hr.below hu))
  · intro e u hu
    have he : actOf f t a = grant t a.key a.node a.n := by unfold actOf; rw [if_neg (by omega), if_neg (by omega)]
    rw [he]
    exact key u _ _ _ _ hu (P.grant p c a.key a.node a.n u h hn h1 h3 h4 (hr.below hu))
theorem step_way {I : Nat → Tb → Prop} (inv : Inv I) (P : Way9 I) {n : Nat} {t : Tb} (h : I n t) (hn : n ≤ 61) (a : Ac) (ha : AcNum a) (f : Cf) (hf : f.rates.length ≤ 60) (p : Option Addr) (c : Nat) (pf : Option Addr) (cf : Nat) (w : World) (hr : RowsAt w p t.rows) (hz : RatesAt w pf f.rates) :
    Calls Try.prog 8 #[tabVal t p c, acVal a, cfVal f pf cf] w (TellsTab w (actOf f t a).1 (fun v => .tuple #[v, .int .i64 (actOf f t a).2])) :=
  (step_far inv P h hn a ha f hf p c pf cf w hr hz).mono fun _ _ h => h.near
theorem want_base {n : Nat} {t : Tb} (h : Base n t) (hn : n ≤ 61) (a : Ac) (ha : AcNum a) (f : Cf) (p : Option Addr) (c : Nat) (pf : Option Addr) (cf : Nat) (w : World) (hr : RowsAt w p t.rows) (hz : RatesAt w pf f.rates) :
    Calls Try.prog 9 #[tabVal t p c, acVal a, cfVal f pf cf] w (TellsTab w (actOf f t a).1 (fun v => .tuple #[v, .int .i64 (actOf f t a).2])) := by
  have hN := act_num h f ha
  obtain ⟨hl, ho⟩ := base_len h hn
  obtain ⟨hk, h1, h2, h3, h4⟩ := ha
  refine (want_core t.start a.key a.now a.node f.n f.skew f.ttl f.valid f.loss f.hear f.keys f.queue a.n p pf t.rows.length c f.rates.length cf (actOf f t a).1.rows.length w a.kind (actOf f t a).1.start (actOf f t a).2 _ (stay_rows (actOf f t a).1.rows) hk hN ?_ ?_ ?_).mono fun e w' h => h
  · intro e u hu
    have he : actOf f t a = mint t a.key a.now f := by unfold actOf; rw [if_pos e]
    rw [he]
    exact mint_any t p c a.key a.now f pf cf u (hr.below hu) (hz.below hu) hl ho
  · intro e u hu
    have he : actOf f t a = settle t a.key a.node a.n := by unfold actOf; rw [if_neg (by omega), if_pos e]
    rw [he]
    exact rsettle_base h hn p c h1 a.node a.n u (hr.below hu)
  · intro e u hu
    have he : actOf f t a = grant t a.key a.node a.n := by unfold actOf; rw [if_neg (by omega), if_neg (by omega)]
    rw [he]
    exact rgrant_base h hn p c h1 a.node a.n u (hr.below hu)

/-! What calls tell, opened. -/
theorem open_tab {P : Program} {F : Nat} {args : Array Value} {u : World} {T : Tb} {mk : Value → Value} (h : Calls P F args u (TellsTab u T mk)) : Calls P F args u fun e w' => ∃ p c, e = .returned (mk (.agg #[.int .i64 T.start, .slice p T.rows.length (c + T.rows.length)])) ∧ RowsAt w' p T.rows ∧ Below u.heap.size u w' := h
theorem open_tabfar {P : Program} {F : Nat} {args : Array Value} {u : World} {pt : Option Addr} {t T : Tb} {mk : Value → Value} (h : Calls P F args u (TellsTabFar u pt t T mk)) : Calls P F args u fun e w' => ∃ p c, e = .returned (mk (.agg #[.int .i64 T.start, .slice p T.rows.length (c + T.rows.length)])) ∧ (RowsAt w' p T.rows ∧ ∀ S, RowsIn S u pt t.rows → RowsIn (fun b => S b ∨ u.heap.size ≤ b) w' p T.rows) ∧ Below u.heap.size u w' := h
theorem open_row {P : Program} {F : Nat} {args : Array Value} {u : World} {r : Rw} {mk : Value → Value} (h : Calls P F args u (TellsRowIn u r mk)) : Calls P F args u fun e w' => ∃ p c, e = .returned (mk (.agg #[.int .i64 r.key, .int .i64 r.avail, .int .i64 r.mark, .slice p r.out.length (c + r.out.length)])) ∧ LeasesAt w' p r.out ∧ Below u.heap.size u w' := h
theorem open_far {P : Program} {F : Nat} {args : Array Value} {W u : World} {r : Rw} {mk : Value → Value} (h : Calls P F args u (TellsRowFar W u r mk)) : Calls P F args u fun e w' => ∃ p c, e = .returned (mk (.agg #[.int .i64 r.key, .int .i64 r.avail, .int .i64 r.mark, .slice p r.out.length (c + r.out.length)])) ∧ LeasesAt w' p r.out ∧ (r.out = [] ∨ ∃ b o, p = some ⟨b, o, none⟩ ∧ (b < W.heap.size ∨ u.heap.size ≤ b)) ∧ Below u.heap.size u w' := h
theorem open_ints {P : Program} {F : Nat} {args : Array Value} {u : World} {l : List Int} (h : Calls P F args u (TellsInts u l)) : Calls P F args u fun e w' => ∃ p c, e = .returned (.slice p l.length c) ∧ (∀ k : Nat, k < l.length → ∃ b o, p = some ⟨b, o, none⟩ ∧ w'.cell? ⟨b, o + k, none⟩ = some (.int .i64 (l.getD k 0))) ∧ Below u.heap.size u w' := h

theorem same_leases (l : List (Int × Int)) : Frame.sameLeases l l = true := by
  unfold Frame.sameLeases
  exact allTo_true fun j _ => by simp [Frame.samePair]
theorem same_row (r : Rw) : Frame.sameRow r r = true := by
  simp [Frame.sameRow, same_leases]
theorem same_table (t : Tb) : sameTable t t = true := by
  unfold sameTable
  rw [beq_self_eq_true, beq_self_eq_true, Bool.true_and, Bool.true_and]
  exact allTo_true fun j _ => same_row _

theorem rows_one {u : World} {b : Nat} {k a m : Int} {p : Option Addr} {n c : Nat} {out : List (Int × Int)} (h : u.heap[b]? = some (.cells #[.int .i64 k, .int .i64 a, .int .i64 m, .slice p n (c + n)] 38 (0, 0))) (hl : LeasesAt u p out) (hn : out.length = n) : RowsAt u (some ⟨b, 0, none⟩) [⟨k, a, m, out⟩] := by
  subst hn
  obtain ⟨h0, h1, h2, h3, -⟩ := box4 h
  refine .inr ⟨b, 0, rfl, fun j hj => ?_⟩
  obtain rfl : j = 0 := by simpa using hj
  exact ⟨h0, h1, h2, p, c, h3, hl⟩
set_option maxRecDepth 100000 in
set_option maxHeartbeats 4000000 in
theorem samerow_core (k a m : Int) (p p' : Option Addr) (n c c' : Nat) (w : World) (out : List (Int × Int)) (hn : out.length = n) (hp : LeasesAt w p out) (hp' : LeasesAt w p' out)
    (hs : ∀ (u : World) (x y : Nat), RowsAt u (some ⟨x, 0, none⟩) [⟨k, a, m, out⟩] → RowsAt u (some ⟨y, 0, none⟩) [⟨k, a, m, out⟩] → Calls Try.prog 10 #[.agg #[.int .i64 0, .slice (some ⟨x, 0, none⟩) 1 1], .agg #[.int .i64 0, .slice (some ⟨y, 0, none⟩) 1 1]] u (Asked u true)) :
    Calls Try.prog 13 #[.agg #[.int .i64 k, .int .i64 a, .int .i64 m, .slice p n (c + n)], .agg #[.int .i64 k, .int .i64 a, .int .i64 m, .slice p' n (c' + n)]] w (Asked w true) := by
  have M0 := Lib.hid ((((Mem.start w).addLeases hp).addLeases hp').box #[.int .i64 k, .int .i64 a, .int .i64 m, .slice p n (c + n)] 38 |>.box #[.int .i64 k, .int .i64 a, .int .i64 m, .slice p' n (c' + n)] 38)
  simp only [size_alloc] at M0
  have M1 := Lib.hid ((M0.out.box #[.int .i64 k, .int .i64 a, .int .i64 m, .slice p n (c + n)] 38).box #[.int .i64 k, .int .i64 a, .int .i64 m, .slice p' n (c' + n)] 38)
  simp only [size_alloc] at M1
  have hs1 := hs _ _ _ (rows_one (M1.out.boxes 1 _ _ _ rfl) (M1.out.leases 1 _ _ rfl) hn) (rows_one (M1.out.boxes 0 _ _ _ rfl) (M1.out.leases 0 _ _ rfl) hn)
  obtain ⟨a0, a1, a2, a3, -⟩ := box4 (M0.out.boxes 1 _ _ _ rfl)
  obtain ⟨b0, b1, b2, b3, -⟩ := box4 (M0.out.boxes 0 _ _ _ rfl)
  clear hp hp' hs
  go_enter Try.func13, Try.ntmps13
  go_wp2_with (go_at_call 10; (with_reducible refine hs1.mono ?_); rintro e u1 ⟨rfl, hb⟩; have BE := Lib.hid (M1.out.below.trans (hb.mono M1.out.below.size)); clear hs1 hb)
  go_ret
  exact ⟨rfl, BE.out⟩
/-- Of two rows that tell one. -/
theorem samerow_any (r : Rw) (p p' : Option Addr) (c c' : Nat) (w : World) (hl : r.out.length ≤ 1000) (hp : LeasesAt w p r.out) (hp' : LeasesAt w p' r.out) :
    Calls Try.prog 13 #[rowVal r p c, rowVal r p' c'] w (Asked w true) := by
  refine samerow_core r.key r.avail r.mark p p' r.out.length c c' w r.out rfl hp hp' fun u x y hx hy => ?_
  have h := Frame.sametable_any ⟨0, [r]⟩ ⟨0, [r]⟩ (some ⟨x, 0, none⟩) (some ⟨y, 0, none⟩) 1 1 u (by simp) hx.frame hy.frame (fun q hq => by simp only [List.mem_singleton] at hq; rw [hq]; omega)
  rw [same_table] at h
  exact h
end Go.Proofs.Ytcnnepmhdccipaa.Ledger
