/-
  The document's Put, of any queue of up to 1000 items.
  The document's Ask of an edge.
  The document's Ask of an edge, of requests that may be.
  conf.Check, and the document's, of any configuration of at most 100 rates return the same error, and of what lay nothing has turned.
-/
import Derived.Test.YtlbpeeelgpjciaaGreatMgAf
import Derived.Test.YtlbpeeelgpjciaaGreatMgAi
import Derived.Test.YtlbpeeelgpjciaaGreatMgAh
import Derived.Test.YtlbpeeelgpjciaaGreatMgAd
namespace Go.Proofs.YtlbpeeelgpjciaaGreat.Queue2
open _root_.Go.Proofs.YtlbpeeelgpjciaaGreat.Queue
variable {ov : Nat}
open Go.RowKit
open _root_.Go.Proofs.YtlbpeeelgpjciaaGreat.Codec (lt_of_heap frozen_of heap_set below_new)
open _root_.Go.Proofs.YtlbpeeelgpjciaaGreat.Kit (Enc Lies Own At Kept Laid cell_on lt_heap take_snoc below_drewN box5)

/-- Four ways that an item may not be. -/
theorem wrong_cases {x : It} (h : wrong x) : x.cost < 1 ∨ ¬ x.cost < 1 ∧ (x.cls < 0 ∨ ¬ x.cls < 0 ∧ (2 < x.cls ∨ ¬ 2 < x.cls ∧ x.til < 0)) := by
  unfold wrong at h
  omega
theorem not_wrong {x : It} (h : ¬ wrong x) : ¬ x.cost < 1 ∧ ¬ x.cls < 0 ∧ ¬ 2 < x.cls ∧ ¬ x.til < 0 := by
  unfold wrong at h
  omega
set_option maxRecDepth 100000 in
set_option maxHeartbeats 4000000 in
theorem rput_no {B v : Nat} {room : Int} {l : List It} {w : World} (h : Qu B w v ov room l) (hB : B ≤ w.heap.size) (x : It) (hx : wrong x) :
    Calls Tryz.prog 84 #[.pointer (some ⟨v, ov, none⟩), val x] w fun e w' => e = .returned (.int .i64 1) ∧ Step B w v ov room l w' := by
  have HS := Lib.hid (fun u (hu : Below w.heap.size w u) => Step.same h hB hu)
  obtain ⟨b0, b1, b2, b3, b4⟩ := box5 (heap_alloc_new w (.cells #[.int .i64 x.id, .int .i64 x.key, .int .i64 x.cost, .int .i64 x.cls, .int .i64 x.til] 95))
  have HB := Lib.hid ((Below.refl w.heap.size w).alloc (Nat.le_refl _) (.cells #[.int .i64 x.id, .int .i64 x.key, .int .i64 x.cost, .int .i64 x.cls, .int .i64 x.til] 95))
  have hc := wrong_cases hx
  obtain ⟨xi, xk, xc, xs, xt⟩ := x
  simp only at hc b0 b1 b2 b3 b4 HB
  clear h hx
  simp only [val]
  rcases hc with h1 | ⟨h1, h2 | ⟨h2, h3 | ⟨h3, h4⟩⟩⟩
  all_goals
    go_enter Tryz.func84, Tryz.ntmps84
    go_wp2
    go_ret
    exact ⟨rfl, HS.out _ HB.out⟩

set_option maxRecDepth 100000 in
set_option maxHeartbeats 4000000 in
theorem rput_twice {B v : Nat} {room : Int} {l : List It} {w : World} (h : Qu B w v ov room l) (hB : B ≤ w.heap.size) (hl : l.length ≤ 1000) (x : It) (hx : ¬ wrong x) (hp : 0 ≤ place l x.id) :
    Calls Tryz.prog 84 #[.pointer (some ⟨v, ov, none⟩), val x] w fun e w' => e = .returned (.int .i64 5) ∧ Step B w v ov room l w' := by
  have HS := Lib.hid (fun u (hu : Below w.heap.size w u) => Step.same h hB hu)
  obtain ⟨b0, b1, b2, b3, b4⟩ := box5 (heap_alloc_new w (.cells #[.int .i64 x.id, .int .i64 x.key, .int .i64 x.cost, .int .i64 x.cls, .int .i64 x.til] 95))
  have HB := Lib.hid ((Below.refl w.heap.size w).alloc (Nat.le_refl _) (.cells #[.int .i64 x.id, .int .i64 x.key, .int .i64 x.cost, .int .i64 x.cls, .int .i64 x.til] 95))
  have HA := rat_any (h.below HB.out) hl x.id
  obtain ⟨h1, h2, h3, h4⟩ := not_wrong hx
  generalize place l x.id = P at *
  obtain ⟨xi, xk, xc, xs, xt⟩ := x
  simp only at h1 h2 h3 h4 b0 b1 b2 b3 b4 HB HA
  clear h hx
  simp only [val]
  go_enter Tryz.func84, Tryz.ntmps84
  go_wp2_with (go_at_call 126; (with_reducible refine HA.mono ?_); rintro e w1 ⟨rfl, hb⟩; have HB1 := Lib.hid (HB.out.trans (hb.mono HB.out.size)); clear hb HA)
  go_ret
  exact ⟨rfl, HS.out _ HB1.out⟩

set_option maxRecDepth 100000 in
set_option maxHeartbeats 4000000 in
theorem rput_full {B v : Nat} {room : Int} {l : List It} {w : World} (h : Qu B w v ov room l) (hB : B ≤ w.heap.size) (hl : l.length ≤ 1000) (x : It) (hx : ¬ wrong x) (hp : ¬ 0 ≤ place l x.id) (hr : room ≤ l.length) :
    Calls Tryz.prog 84 #[.pointer (some ⟨v, ov, none⟩), val x] w fun e w' => e = .returned (.int .i64 3) ∧ Step B w v ov room l w' := by
  have HV := Lib.hid h
  have HS := Lib.hid (fun u (hu : Below w.heap.size w u) => Step.same h hB hu)
  obtain ⟨b0, b1, b2, b3, b4⟩ := box5 (heap_alloc_new w (.cells #[.int .i64 x.id, .int .i64 x.key, .int .i64 x.cost, .int .i64 x.cls, .int .i64 x.til] 95))
  have HB := Lib.hid ((Below.refl w.heap.size w).alloc (Nat.le_refl _) (.cells #[.int .i64 x.id, .int .i64 x.key, .int .i64 x.cost, .int .i64 x.cls, .int .i64 x.til] 95))
  have HA := rat_any (h.below HB.out) hl x.id
  obtain ⟨h1, h2, h3, h4⟩ := not_wrong hx
  generalize place l x.id = P at *
  obtain ⟨xi, xk, xc, xs, xt⟩ := x
  simp only at h1 h2 h3 h4 b0 b1 b2 b3 b4 HB HA
  clear h hx
  simp only [val]
  go_enter Tryz.func84, Tryz.ntmps84
  go_wp2_with (go_at_call 126; (with_reducible refine HA.mono ?_); rintro e w1 ⟨rfl, hb⟩; have HB1 := Lib.hid (HB.out.trans (hb.mono HB.out.size)); clear hb HA; obtain ⟨p, c, c1, -, -, c0⟩ := (HV.out.below HB1.out).cell)
  go_quiet (fail)
  go_wp2
  go_ret
  exact ⟨rfl, HS.out _ (HB1.out.trans ((below_drewN _ _).mono HB1.out.size))⟩

set_option maxRecDepth 100000 in
set_option maxHeartbeats 4000000 in
theorem rput_ok {B v : Nat} {room : Int} {l : List It} {w : World} (h : Qu B w v ov room l) (hB : B ≤ w.heap.size) (hl : l.length ≤ 1000) (x : It) (hx : ¬ wrong x) (hp : ¬ 0 ≤ place l x.id) (hr : ¬ room ≤ l.length) :
    Calls Tryz.prog 84 #[.pointer (some ⟨v, ov, none⟩), val x] w fun e w' => e = .returned (.int .i64 0) ∧ Step B w v ov room (l ++ [x]) w' := by
  have HV := Lib.hid h
  have HBB := Lib.hid hB
  have K := heap_alloc_new w (.cells #[.int .i64 x.id, .int .i64 x.key, .int .i64 x.cost, .int .i64 x.cls, .int .i64 x.til] 95)
  obtain ⟨b0, b1, b2, b3, b4⟩ := box5 K
  have HK := Lib.hid K
  have HB := Lib.hid ((Below.refl w.heap.size w).alloc (Nat.le_refl _) (.cells #[.int .i64 x.id, .int .i64 x.key, .int .i64 x.cost, .int .i64 x.cls, .int .i64 x.til] 95))
  have HA := rat_any (h.below HB.out) hl x.id
  obtain ⟨h1, h2, h3, h4⟩ := not_wrong hx
  generalize place l x.id = P at *
  obtain ⟨xi, xk, xc, xs, xt⟩ := x
  simp only at h1 h2 h3 h4 b0 b1 b2 b3 b4 HB HA HK
  clear h hx K
  simp only [val]
  go_enter Tryz.func84, Tryz.ntmps84
  go_wp2_with (go_at_call 126; (with_reducible refine HA.mono ?_); rintro e w1 ⟨rfl, hb⟩; have HB1 := Lib.hid (HB.out.trans (hb.mono HB.out.size)); have HK1 := Lib.hid ((hb.block _ (lt_of_heap HK.out)).trans HK.out); clear hb HA HK b0 b1 b2 b3 b4; obtain ⟨p, c, c1, lx, cn, c0⟩ := (HV.out.below HB1.out).cell; have LX := Lib.hid lx; have CN := Lib.hid cn; obtain ⟨b0, b1, b2, b3, b4⟩ := box5 HK1.out; clear lx cn)
  go_quiet (fail)
  have HB2 := Lib.hid (HB1.out.trans ((below_drewN w1 nq).mono HB1.out.size))
  have HK2 := Lib.hid (((below_drewN w1 nq).block _ (lt_of_heap HK1.out)).trans HK1.out)
  clear b0 b1 b2 b3 b4 c0 c1 LX CN HK1 HB1
  generalize w1.drewN nq = w2 at *
  have hv2 := (HV.out.below HB2.out).lt
  obtain ⟨p2, d2, c1, lx, cn, -⟩ := (HV.out.below HB2.out).cell
  have LX := Lib.hid (lx.below ((Below.refl _ _).alloc (Nat.le_refl _) (.cells #[] 95)))
  have CN := Lib.hid cn
  have HA2 := Lib.hid ((Below.refl w2.heap.size w2).alloc (Nat.le_refl _) (.cells #[] 95))
  have OM := Lib.hid (Kit.own_made (E := item) (T := 95) w2 w2.heap.size (Nat.le_refl _))
  clear lx cn
  have HS2 := Lib.hid (Step.same HV.out HBB.out HB2.out)
  go_wp2_with (first
    | (at_builtin; refine Kit.pushes laidR rfl _ _ rfl w2 _ _ rfl [] 0 rfl OM.out HA2.out (Below.refl _ _) l l.length d2 p2 rfl rfl LX.out CN.out (by omega) ?_; intro p4 c4 w4 R4 B4; clear c1; obtain ⟨b0, b1, b2, b3, b4⟩ := box5 ((B4.block _ (lt_of_heap HK2.out)).trans HK2.out); have R5 := Lib.hid (show Own item 95 w2.heap.size w4 (.slice p4 l.length c4) l from by (have := R4.out; rw [Nat.zero_add] at this; exact this)); have B5 := Lib.hid B4; clear R4 B4 OM LX CN)
    | (at_builtin; refine Kit.push laidR rfl _ _ rfl w2 w4 (.slice p4 l.length c4) rfl l l.length rfl R5.out B5.out ((Below.refl _ _).alloc (Nat.le_refl _) _) w4.heap.size ⟨xi, xk, xc, xs, xt⟩ rfl (heap_alloc_new _ _) (by omega) ?_; intro p6 c6 w6 R6 B6; obtain ⟨f0, ⟨u0, k0⟩, D⟩ := (HV.out.below HB2.out).store (Nat.le_trans HBB.out HB2.out.size) B6 R6.out; clear b0 b1 b2 b3 b4))
  go_ret
  exact ⟨rfl, HS2.out.trans D.out⟩
theorem rput_any {B v : Nat} {room : Int} {l : List It} {w : World} (h : Qu B w v ov room l) (hB : B ≤ w.heap.size) (hl : l.length ≤ 1000) (x : It) :
    Calls Tryz.prog 84 #[.pointer (some ⟨v, ov, none⟩), val x] w fun e w' => e = .returned (.int .i64 (put room l x).2) ∧ Step B w v ov room (put room l x).1 w' := by
  unfold put
  split
  · rename_i hx
    exact rput_no h hB x hx
  · rename_i hx
    split
    · rename_i hp
      exact rput_twice h hB hl x hx hp
    · rename_i hp
      split
      · rename_i hr
        exact rput_full h hB hl x hx hp hr
      · rename_i hr
        exact rput_ok h hB hl x hx hp hr
end Go.Proofs.YtlbpeeelgpjciaaGreat.Queue2

namespace Go.Proofs.YtlbpeeelgpjciaaGreat.Edge
open Go.RowKit
open _root_.Go.Proofs.YtlbpeeelgpjciaaGreat.Codec (lt_of_heap frozen_of heap_set below_new)
open _root_.Go.Proofs.YtlbpeeelgpjciaaGreat.Kit (Enc Lies At Kept Laid Off cell_on lt_heap take_snoc below_drewN box5)
open _root_.Go.Proofs.YtlbpeeelgpjciaaGreat.Lease (Lz spend)
open _root_.Go.Proofs.YtlbpeeelgpjciaaGreat.Queue (It take)
open _root_.Go.Proofs.YtlbpeeelgpjciaaGreat.Demand (Nt)

def rval (r : Rq) : Value := .agg #[.int .i64 r.id, .int .i64 r.key, .int .i64 r.cost, .int .i64 r.cls, .int .i64 r.wait]
def Cf.val (c : Cf) (p : Option Addr) (k : Nat) : Value := .agg #[.int .i64 c.n, .int .i64 c.sk, .int .i64 c.tl, .int .i64 c.va, .int .i64 c.lo, .int .i64 c.he, .int .i64 c.ke, .int .i64 c.qu, .slice p c.zs.length k]
theorem rrate_any (c : Cf) (p : Option Addr) (k : Nat) (key : Int) (w : World) : Calls Tryz.prog 81 #[c.val p k, .int .i64 key] w fun e' w' => e' = .returned (.int .i64 (c.rate key)) ∧ Below w.heap.size w w' := by
  obtain ⟨n, sk, tl, va, lo, he, ke, qu, zs⟩ := c
  unfold Cf.val Cf.rate
  simp only
  by_cases h : 0 ≤ key ∧ key ≤ 524287 ∧ key / 65536 < zs.length
  · rw [if_pos h]
    obtain ⟨j, hj⟩ : ∃ j : Nat, key / 65536 = (j : Int) := ⟨(key / 65536).toNat, by omega⟩
    rw [hj]
    exact Conf.refrate_some n sk tl va lo he ke qu p zs.length k j key w (Conf.within_yes h.1 h.2.1) h.1 h.2.1 hj (by omega)
  · rw [if_neg h]
    refine Conf.refrate_none n sk tl va lo he ke qu p zs.length k key w ?_
    by_cases hk : 0 ≤ key ∧ key ≤ 524287
    · exact .inr ⟨Conf.within_yes hk.1 hk.2, hk.1, hk.2, by omega⟩
    · exact .inl (Conf.within_no hk)
theorem rright_any (key : Int) (w : World) : Calls Tryz.prog 79 #[.int .i64 key] w fun e' w' => e' = .returned (.bool (decide (right key))) ∧ w = w' := by
  have := Conf.refright_any key w
  have e : Conf.within key 0 524287 = decide (right key) := by
    by_cases h : right key
    · rw [decide_eq_true h]; exact Conf.within_yes h.1 h.2
    · rw [decide_eq_false h]; exact Conf.within_no h
  rwa [e] at this
/-- The cells that an Ask reads. -/
structure Sees (w : World) (v g : Nat) (c : Cf) (r : Rq) (p : Option Addr) (k : Nat) : Prop where
  r0 : w.cell? ⟨g, 0, none⟩ = some (.int .i64 r.id)
  r1 : w.cell? ⟨g, 1, none⟩ = some (.int .i64 r.key)
  r2 : w.cell? ⟨g, 2, none⟩ = some (.int .i64 r.cost)
  r3 : w.cell? ⟨g, 3, none⟩ = some (.int .i64 r.cls)
  r4 : w.cell? ⟨g, 4, none⟩ = some (.int .i64 r.wait)
  c0 : w.cell? ⟨v, 0, none⟩ = some (.int .i64 c.n)
  c1 : w.cell? ⟨v, 1, none⟩ = some (.int .i64 c.sk)
  c2 : w.cell? ⟨v, 2, none⟩ = some (.int .i64 c.tl)
  c3 : w.cell? ⟨v, 3, none⟩ = some (.int .i64 c.va)
  c4 : w.cell? ⟨v, 4, none⟩ = some (.int .i64 c.lo)
  c5 : w.cell? ⟨v, 5, none⟩ = some (.int .i64 c.he)
  c6 : w.cell? ⟨v, 6, none⟩ = some (.int .i64 c.ke)
  c7 : w.cell? ⟨v, 7, none⟩ = some (.int .i64 c.qu)
  c8 : w.cell? ⟨v, 8, none⟩ = some (.slice p c.zs.length k)
theorem Sees.on {w w' : World} {v g : Nat} {c : Cf} {r : Rq} {p : Option Addr} {k : Nat} (h : Sees w v g c r p k) (hb : Below w.heap.size w w') : Sees w' v g c r p k :=
  ⟨cell_on h.r0 hb, cell_on h.r1 hb, cell_on h.r2 hb, cell_on h.r3 hb, cell_on h.r4 hb, cell_on h.c0 hb, cell_on h.c1 hb, cell_on h.c2 hb, cell_on h.c3 hb, cell_on h.c4 hb, cell_on h.c5 hb, cell_on h.c6 hb, cell_on h.c7 hb, cell_on h.c8 hb⟩
theorem sees_new {w : World} {B v : Nat} {c : Cf} {e : Eg} (h : Ed B w v c e) (r : Rq) : ∃ p k, RatesB B w p c.zs ∧ Sees (w.alloc (.cells #[.int .i64 r.id, .int .i64 r.key, .int .i64 r.cost, .int .i64 r.cls, .int .i64 r.wait] 38)) v w.heap.size c r p k := by
  obtain ⟨p, k, hr, h0, h1, h2, h3, h4, h5, h6, h7, h8⟩ := h.conf
  obtain ⟨b0, b1, b2, b3, b4⟩ := box5 (heap_alloc_new w (.cells #[.int .i64 r.id, .int .i64 r.key, .int .i64 r.cost, .int .i64 r.cls, .int .i64 r.wait] 38))
  have hb := lay w (.cells #[.int .i64 r.id, .int .i64 r.key, .int .i64 r.cost, .int .i64 r.cls, .int .i64 r.wait] 38)
  exact ⟨p, k, hr, b0, b1, b2, b3, b4, cell_on h0 hb, cell_on h1 hb, cell_on h2 hb, cell_on h3 hb, cell_on h4 hb, cell_on h5 hb, cell_on h6 hb, cell_on h7 hb, cell_on h8 hb⟩
theorem Sees.ten {w : World} {v g : Nat} {c : Cf} {r : Rq} {p : Option Addr} {k : Nat} (h : Sees w v g c r p k) : w.cell? ⟨v, 0, none⟩ = some (.int .i64 c.n) ∧ w.cell? ⟨v, 1, none⟩ = some (.int .i64 c.sk) ∧ w.cell? ⟨v, 2, none⟩ = some (.int .i64 c.tl) ∧ w.cell? ⟨v, 3, none⟩ = some (.int .i64 c.va) ∧ w.cell? ⟨v, 4, none⟩ = some (.int .i64 c.lo) ∧ w.cell? ⟨v, 5, none⟩ = some (.int .i64 c.he) ∧
    w.cell? ⟨v, 6, none⟩ = some (.int .i64 c.ke) ∧ w.cell? ⟨v, 7, none⟩ = some (.int .i64 c.qu) ∧ w.cell? ⟨v, 8, none⟩ = some (.slice p c.zs.length k) ∧ w.cell? ⟨g, 1, none⟩ = some (.int .i64 r.key) :=
  ⟨h.c0, h.c1, h.c2, h.c3, h.c4, h.c5, h.c6, h.c7, h.c8, h.r1⟩
/-- Seven ways that a request may not be. -/
theorem bad_cases {Q : List It} {r : Rq} (h : bad Q r) : r.cost < 1 ∨ ¬ r.cost < 1 ∧ (r.cls < 0 ∨ ¬ r.cls < 0 ∧ (2 < r.cls ∨ ¬ 2 < r.cls ∧ (r.wait < 0 ∨ ¬ r.wait < 0 ∧ (1099511627776 < r.wait ∨ ¬ 1099511627776 < r.wait ∧ (decide (right r.key) = false ∨ decide (right r.key) = true ∧ decide (0 ≤ Queue.place Q r.id) = true))))) := by
  unfold bad at h
  by_cases h1 : r.cost < 1
  · exact .inl h1
  refine .inr ⟨h1, ?_⟩
  by_cases h2 : r.cls < 0
  · exact .inl h2
  refine .inr ⟨h2, ?_⟩
  by_cases h3 : 2 < r.cls
  · exact .inl h3
  refine .inr ⟨h3, ?_⟩
  by_cases h4 : r.wait < 0
  · exact .inl h4
  refine .inr ⟨h4, ?_⟩
  by_cases h5 : 1099511627776 < r.wait
  · exact .inl h5
  refine .inr ⟨h5, ?_⟩
  by_cases h6 : right r.key
  · refine .inr ⟨decide_eq_true h6, decide_eq_true ?_⟩
    rcases h with h | h | h | h | h | h | h
    · exact absurd h h1
    · exact absurd h h2
    · exact absurd h h3
    · exact absurd h h4
    · exact absurd h h5
    · exact absurd h6 h
    · exact h
  · exact .inl (decide_eq_false h6)
theorem not_bad {Q : List It} {r : Rq} (h : ¬ bad Q r) : ¬ r.cost < 1 ∧ ¬ r.cls < 0 ∧ ¬ 2 < r.cls ∧ ¬ r.wait < 0 ∧ ¬ 1099511627776 < r.wait ∧ decide (right r.key) = true ∧ decide (0 ≤ Queue.place Q r.id) = false := by
  unfold bad at h
  by_cases hr : right r.key
  · by_cases hp : 0 ≤ Queue.place Q r.id
    · simp [hp] at h
    · simp only [hr, not_true, hp, or_false, not_or] at h
      exact ⟨by omega, by omega, by omega, by omega, by omega, decide_eq_true hr, decide_eq_false hp⟩
  · simp [hr] at h
set_option maxRecDepth 100000 in
set_option maxHeartbeats 8000000 in
theorem rask_bad {B v : Nat} {c : Cf} {e : Eg} {w : World} (h : Ed B w v c e) (hB : B ≤ w.heap.size) (hf : e.Q.length ≤ 150) (r : Rq) (now : Int) (hbad : bad e.Q r) :
    Calls Tryz.prog 37 #[.pointer (some ⟨v, 0, none⟩), rval r, .int .i64 now] w fun e' w' => ∃ y, e' = .returned y ∧ Told w' y (no r.id 7) ∧ EStep B w v c e w' := by
  have hc := bad_cases hbad
  obtain ⟨p, k, hr, hsee⟩ := sees_new h r
  have HB0 := Lib.hid (lay w (.cells #[.int .i64 r.id, .int .i64 r.key, .int .i64 r.cost, .int .i64 r.cls, .int .i64 r.wait] 38))
  have HS := Lib.hid (fun u (hu : Below w.heap.size w u) => EStep.same h hB hu)
  have HW := Lib.hid (fun u (hu : Below w.heap.size w u) => rwaits_any (h.below hB hu) (by omega) r.id)
  have HR := Lib.hid (fun u => rright_any r.key u)
  have HK := Lib.hid (fun u => rrate_any c p k r.key u)
  have HN := Lib.hid (fun u => rno_any r.id 7 u)
  have HX := Lib.hid (fun u (hu : Below (w.alloc (.cells #[.int .i64 r.id, .int .i64 r.key, .int .i64 r.cost, .int .i64 r.cls, .int .i64 r.wait] 38)).heap.size (w.alloc (.cells #[.int .i64 r.id, .int .i64 r.key, .int .i64 r.cost, .int .i64 r.cls, .int .i64 r.wait] 38)) u) => hsee.on hu)
  have hx := HX.out _ (Below.refl _ _)
  generalize decide (0 ≤ Queue.place e.Q r.id) = tw at *
  generalize decide (right r.key) = rk at *
  generalize c.rate r.key = kk at *
  generalize no r.id 7 = A at *
  obtain ⟨ri, rkey, rc, rs, rw'⟩ := r
  obtain ⟨cn, csk, ctl, cva, clo, che, cke, cqu, czs⟩ := c
  simp only [rval, Cf.val] at *
  obtain ⟨x0, x1, x2, x3, x4, y0, y1, y2, y3, y4, y5, y6, y7, y8⟩ := hx
  simp only at *
  clear h hbad hf hB hsee
  go_enter Tryz.func37, Tryz.ntmps37
  go_wp2_with (first
    | (go_at_call 79; (with_reducible refine (HR.out _).mono ?_); rintro e1 w1 ⟨rfl, rfl⟩)
    | (go_at_call 80; (with_reducible refine (HW.out _ HB0.out).mono ?_); rintro e1 w2 ⟨rfl, hb⟩; have HB2 := Lib.hid hb; clear hb HW))
  clear x0 x1 x2 x3 x4 y0 y1 y2 y3 y4 y5 y6 y7 y8
  have t2 := (HX.out _ HB2.out).ten
  simp only at t2
  go_region_held3 (fun u => u.cell? ⟨v, 0, none⟩ = some (.int .i64 cn) ∧ u.cell? ⟨v, 1, none⟩ = some (.int .i64 csk) ∧ u.cell? ⟨v, 2, none⟩ = some (.int .i64 ctl) ∧ u.cell? ⟨v, 3, none⟩ = some (.int .i64 cva) ∧ u.cell? ⟨v, 4, none⟩ = some (.int .i64 clo) ∧ u.cell? ⟨v, 5, none⟩ = some (.int .i64 che) ∧
      u.cell? ⟨v, 6, none⟩ = some (.int .i64 cke) ∧ u.cell? ⟨v, 7, none⟩ = some (.int .i64 cqu) ∧ u.cell? ⟨v, 8, none⟩ = some (.slice p czs.length k) ∧ u.cell? ⟨w.heap.size, 1, none⟩ = some (.int .i64 rkey)) (first | assumption) (first
    | (go_at_call 81; (with_reducible refine (HK.out _).mono ?_); rintro e1 w3 ⟨rfl, hb⟩; have HB3 := Lib.hid (HB2.out.trans ((Below.refl _ w2).drew.trans (hb.mono (Below.refl w2.heap.size w2).drew.size) |>.mono HB2.out.size)); have t3 := (HX.out _ HB3.out).ten; simp only at t3; clear hb))
  clear t2 t3
  obtain ⟨x0, x1, x2, x3, x4, y0, y1, y2, y3, y4, y5, y6, y7, y8⟩ := HX.out _ HB3.out
  simp only at x0 x1 x2 x3 x4
  clear y0 y1 y2 y3 y4 y5 y6 y7 y8
  rcases hc with h1 | ⟨h1, h2 | ⟨h2, h3 | ⟨h3, h4 | ⟨h4, h5 | ⟨h5, h6 | ⟨h6, h7⟩⟩⟩⟩⟩⟩
  all_goals (
    go_wp2_with (go_at_call 82; (with_reducible refine (HN.out _).mono ?_); rintro e1 w4 ⟨y, rfl, ht, hb⟩; have HT := Lib.hid ht; have HB4 := Lib.hid hb; clear ht hb HN)
    go_ret
    exact ⟨y, rfl, HT.out, HS.out _ (HB0.out.trans ((HB3.out.trans (HB4.out.mono HB3.out.size)).mono HB0.out.size))⟩)
end Go.Proofs.YtlbpeeelgpjciaaGreat.Edge

namespace Go.Proofs.YtlbpeeelgpjciaaGreat.Edge
open Go.RowKit
open _root_.Go.Proofs.YtlbpeeelgpjciaaGreat.Codec (lt_of_heap frozen_of heap_set below_new)
open _root_.Go.Proofs.YtlbpeeelgpjciaaGreat.Kit (Enc Lies At Kept Laid Off cell_on lt_heap take_snoc below_drewN box5)
open _root_.Go.Proofs.YtlbpeeelgpjciaaGreat.Lease (Lz spend)
open _root_.Go.Proofs.YtlbpeeelgpjciaaGreat.Queue (It take)
open _root_.Go.Proofs.YtlbpeeelgpjciaaGreat.Demand (Nt)

theorem wait_cases (c : Cf) (e : Eg) (r : Rq) (now : Int) : (r.wait = 0 ∧ wait c e r now = (e, no r.id 1)) ∨ (r.wait ≠ 0 ∧ (Queue.put c.qu e.Q (item r now)).2 = 0 ∧ wait c e r now = (⟨e.L, (Queue.put c.qu e.Q (item r now)).1, e.D⟩, [])) ∨
    (r.wait ≠ 0 ∧ (Queue.put c.qu e.Q (item r now)).2 ≠ 0 ∧ (Queue.put c.qu e.Q (item r now)).1 = e.Q ∧ wait c e r now = (e, no r.id 2)) := by
  unfold wait
  by_cases h : r.wait = 0
  · exact .inl ⟨h, by rw [if_pos h]⟩
  · by_cases hp : (Queue.put c.qu e.Q (item r now)).2 = 0
    · exact .inr (.inl ⟨h, hp, by rw [if_neg h, if_pos hp]⟩)
    · refine .inr (.inr ⟨h, hp, ?_, by rw [if_neg h, if_neg hp]⟩)
      unfold Queue.put at hp ⊢
      split
      · rfl
      · split
        · rfl
        · split
          · rfl
          · rename_i h1 h2 h3
            rw [if_neg h1, if_neg h2, if_neg h3] at hp
            exact absurd rfl hp
theorem ask_cases {c : Cf} {e : Eg} {r : Rq} {now : Int} (hb : ¬ bad e.Q r) : (now < 0 ∧ ask c e r now = (e, no r.id 1)) ∨ ¬ now < 0 ∧ ((4611686018427387904 ≤ now ∧ ask c e r now = (e, no r.id 1)) ∨ ¬ 4611686018427387904 ≤ now ∧ ((c.rate r.key < 0 ∧ ask c e r now = (e, no r.id 6)) ∨ ¬ c.rate r.key < 0 ∧
    ((c.b r.key < r.cost ∧ ask c e r now = (e, no r.id 5)) ∨ ¬ c.b r.key < r.cost ∧ ((Queue.of e.Q r.key = [] ∧ (spend e.L r.key r.cost now).2.2 = true ∧ ask c e r now = (⟨(spend e.L r.key r.cost now).1, e.Q, e.D⟩, [⟨r.id, (spend e.L r.key r.cost now).2.1, 0⟩])) ∨
      (Queue.of e.Q r.key = [] ∧ (spend e.L r.key r.cost now).2.2 = false ∧ (spend e.L r.key r.cost now).1 = e.L ∧ ask c e r now = wait c e r now) ∨ (Queue.of e.Q r.key ≠ [] ∧ ask c e r now = wait c e r now))))) := by
  unfold ask
  rw [if_neg hb]
  by_cases h1 : now < 0
  · exact .inl ⟨h1, by rw [if_pos (.inl h1)]⟩
  refine .inr ⟨h1, ?_⟩
  by_cases h2 : 4611686018427387904 ≤ now
  · exact .inl ⟨h2, by rw [if_pos (.inr h2)]⟩
  rw [if_neg (by omega)]
  refine .inr ⟨h2, ?_⟩
  by_cases h3 : c.rate r.key < 0
  · exact .inl ⟨h3, by rw [if_pos h3]⟩
  rw [if_neg h3]
  refine .inr ⟨h3, ?_⟩
  by_cases h4 : c.b r.key < r.cost
  · exact .inl ⟨h4, by rw [if_pos h4]⟩
  rw [if_neg h4]
  refine .inr ⟨h4, ?_⟩
  by_cases h5 : Queue.of e.Q r.key = []
  · by_cases h6 : (spend e.L r.key r.cost now).2.2 = true
    · exact .inl ⟨h5, h6, by rw [if_pos ⟨h5, h6⟩]⟩
    · have h6' : (spend e.L r.key r.cost now).2.2 = false := by simpa using h6
      exact .inr (.inl ⟨h5, h6', spend_no h6', by rw [if_neg (fun hh => h6 hh.2)]⟩)
  · exact .inr (.inr ⟨h5, by rw [if_neg (fun hh => h5 hh.1)]⟩)
/-- The rate of a key that has one. -/
theorem rate_cell {c : Cf} {key : Int} (h : ¬ c.rate key < 0) {B : Nat} {w : World} {p : Option Addr} (hr : RatesB B w p c.zs) : ∃ (j b o : Nat), c.rate key = (j : Int) ∧ (j : Int) < (c.zs.length : Int) ∧ p = some ⟨b, o, none⟩ ∧ b < B ∧ w.cell? ⟨b, o + j * 2 + 1, none⟩ = some (.int .i64 (c.b key)) := by
  unfold Cf.rate at h
  unfold Cf.b Cf.rate
  by_cases hk : 0 ≤ key ∧ key ≤ 524287 ∧ key / 65536 < c.zs.length
  · rw [if_pos hk]
    obtain ⟨j, hj⟩ : ∃ j : Nat, key / 65536 = (j : Int) := ⟨(key / 65536).toNat, by omega⟩
    rw [hj]
    rcases hr with hr | ⟨b, o, rfl, hb, hc⟩
    · rw [hr] at hk; simp at hk; omega
    · have hlt : j < c.zs.length := by omega
      exact ⟨j, b, o, rfl, by omega, rfl, hb, by rw [Int.toNat_natCast]; exact (hc j hlt).2⟩
  · rw [if_neg hk] at h
    exact absurd (by decide) h
theorem cell_only {w w' : World} {B v g i : Nat} {c : Cf} {e : Eg} {u : Value} (hs : EStep B w v c e w') (hne : g ≠ v) (h : w.cell? ⟨g, i, none⟩ = some u) : w'.cell? ⟨g, i, none⟩ = some u :=
  (World.cell?_of_block (hs.only g hne (World.block_lt_of_cell? _ _ h))).trans h
theorem rputq_ed {w : World} {B v : Nat} {c : Cf} {e : Eg} (h : Ed B w v c e) (hB : B ≤ w.heap.size) (hf : e.Q.length ≤ 1000) (x : It) :
    Calls Tryz.prog 84 #[.pointer (some ⟨v, 10, none⟩), Queue.val x] w fun e' w' => e' = .returned (.int .i64 (Queue.put c.qu e.Q x).2) ∧ EStep B w v c ⟨e.L, (Queue.put c.qu e.Q x).1, e.D⟩ w' :=
  (Queue2.rput_any h.qu hB hf x).mono fun _ _ ⟨he, hs⟩ => ⟨he, h.step_q hs⟩
set_option maxRecDepth 100000 in
set_option maxHeartbeats 16000000 in
theorem rask_good {B v : Nat} {c : Cf} {e : Eg} {w : World} (h : Ed B w v c e) (hB : B ≤ w.heap.size) (hg : Good c e) (hf : e.L.length ≤ 150 ∧ e.Q.length ≤ 150) (r : Rq) (now : Int) (hgood : ¬ bad e.Q r) :
    Calls Tryz.prog 37 #[.pointer (some ⟨v, 0, none⟩), rval r, .int .i64 now] w fun e' w' => ∃ y, e' = .returned y ∧ Told w' y (ask c e r now).2 ∧ EStep B w v c (ask c e r now).1 w' := by
  have hcase := ask_cases (c := c) (now := now) hgood
  have hwait := wait_cases c e r now
  obtain ⟨b1, b2, b3, b4, b5, b6, b7⟩ := not_bad hgood
  obtain ⟨p, k, hr, hsee⟩ := sees_new h r
  have HB0 := Lib.hid (lay w (.cells #[.int .i64 r.id, .int .i64 r.key, .int .i64 r.cost, .int .i64 r.cls, .int .i64 r.wait] 38))
  have HBB := Lib.hid hB
  have HVL := Lib.hid h.lt
  have HS := Lib.hid (fun u (hu : Below w.heap.size w u) => EStep.same h hB hu)
  have HED := Lib.hid (fun u (hu : Below w.heap.size w u) => h.below hB hu)
  have HW := Lib.hid (fun u (hu : Below w.heap.size w u) => rwaits_any (h.below hB hu) (by omega) r.id)
  have HR := Lib.hid (fun u => rright_any r.key u)
  have HK := Lib.hid (fun u => rrate_any c p k r.key u)
  have HN1 := Lib.hid (fun u => rno_any r.id 1 u)
  have HN6 := Lib.hid (fun u => rno_any r.id 6 u)
  have HN5 := Lib.hid (fun u => rno_any r.id 5 u)
  have HN2 := Lib.hid (fun u => rno_any r.id 2 u)
  have HOF := Lib.hid (fun u (hu : Below w.heap.size w u) => Queue2.rof_any (h.below hB hu).qu (by omega) r.key)
  have HSP := Lib.hid (fun u (hu : Below w.heap.size w u) => rspend_ed (h.below hB hu) (Nat.le_trans hB hu.size) hg (by omega) r.key r.cost now)
  have HPU := Lib.hid (fun u (hu : Ed B u v c e) (hb : B ≤ u.heap.size) => rputq_ed hu hb (by omega) (item r now))
  have HTW := Lib.hid (fun u => _root_.Go.Proofs.YtlbpeeelgpjciaaGreat.Sat.rtwo_any now r.wait u)
  have HRC := Lib.hid (fun (hk : ¬ c.rate r.key < 0) => rate_cell hk hr)
  have HX := Lib.hid (fun u (hu : Below (w.alloc (.cells #[.int .i64 r.id, .int .i64 r.key, .int .i64 r.cost, .int .i64 r.cls, .int .i64 r.wait] 38)).heap.size (w.alloc (.cells #[.int .i64 r.id, .int .i64 r.key, .int .i64 r.cost, .int .i64 r.cls, .int .i64 r.wait] 38)) u) => hsee.on hu)
  have hx := HX.out _ (Below.refl _ _)
  rw [b6] at HR
  rw [b7] at HW
  simp only [item, Queue.val] at HPU hwait
  generalize ask c e r now = AS at *
  generalize wait c e r now = WT at *
  generalize no r.id 1 = A1 at *
  generalize no r.id 6 = A6 at *
  generalize no r.id 5 = A5 at *
  generalize no r.id 2 = A2 at *
  generalize spend e.L r.key r.cost now = SP at *
  generalize Queue.of e.Q r.key = OF at *
  generalize Sat.add [now, r.wait] = til at *
  generalize Queue.put c.qu e.Q ⟨r.id, r.key, r.cost, r.cls, til⟩ = PU at *
  generalize c.b r.key = bb at *
  generalize c.rate r.key = kk at *
  obtain ⟨ri, rkey, rc, rs, rw'⟩ := r
  have HC := Lib.hid (show c.qu = c.qu from rfl)
  obtain ⟨SL, gen, ok⟩ := SP
  obtain ⟨PQ, pf⟩ := PU
  simp only [rval, Cf.val] at *
  obtain ⟨x0, x1, x2, x3, x4, y0, y1, y2, y3, y4, y5, y6, y7, y8⟩ := hx
  simp only at *
  clear h hgood hf hB hsee hg
  go_enter Tryz.func37, Tryz.ntmps37
  go_wp2_with (first
    | (go_at_call 79; (with_reducible refine (HR.out _).mono ?_); rintro e1 w1 ⟨rfl, rfl⟩)
    | (go_at_call 80; (with_reducible refine (HW.out _ HB0.out).mono ?_); rintro e1 w2 ⟨rfl, hb⟩; have HB2 := Lib.hid hb; clear hb HW))
  clear x0 x1 x2 x3 x4 y0 y1 y2 y3 y4 y5 y6 y7 y8
  have t2 := (HX.out _ HB2.out).ten
  simp only at t2
  go_region_held3 (fun u => u.cell? ⟨v, 0, none⟩ = some (.int .i64 c.n) ∧ u.cell? ⟨v, 1, none⟩ = some (.int .i64 c.sk) ∧ u.cell? ⟨v, 2, none⟩ = some (.int .i64 c.tl) ∧ u.cell? ⟨v, 3, none⟩ = some (.int .i64 c.va) ∧ u.cell? ⟨v, 4, none⟩ = some (.int .i64 c.lo) ∧ u.cell? ⟨v, 5, none⟩ = some (.int .i64 c.he) ∧
      u.cell? ⟨v, 6, none⟩ = some (.int .i64 c.ke) ∧ u.cell? ⟨v, 7, none⟩ = some (.int .i64 c.qu) ∧ u.cell? ⟨v, 8, none⟩ = some (.slice p c.zs.length k) ∧ u.cell? ⟨w.heap.size, 1, none⟩ = some (.int .i64 rkey)) (first | assumption) (first
    | (go_at_call 81; (with_reducible refine (HK.out _).mono ?_); rintro e1 w3 ⟨rfl, hb⟩; have HB3 := Lib.hid (HB2.out.trans ((Below.refl _ w2).drew.trans (hb.mono (Below.refl w2.heap.size w2).drew.size) |>.mono HB2.out.size)); have t3 := (HX.out _ HB3.out).ten; simp only at t3; clear hb))
  clear t2 t3
  obtain ⟨x0, x1, x2, x3, x4, y0, y1, y2, y3, y4, y5, y6, y7, y8⟩ := HX.out _ HB3.out
  simp only at x0 x1 x2 x3 x4
  clear y0 y1 y2 y3 y4 y5 y6 y7
  have HBW := Lib.hid (HB0.out.trans (HB3.out.mono HB0.out.size))
  rcases hcase with ⟨h1, rfl⟩ | ⟨h1, ⟨h2, rfl⟩ | ⟨h2, ⟨h3, rfl⟩ | ⟨h3, ⟨h4, rfl⟩ | ⟨h4, hcase⟩⟩⟩⟩
  · go_wp2_with (go_at_call 82; (with_reducible refine (HN1.out _).mono ?_); rintro e1 w4 ⟨y, rfl, ht, hb⟩; have HT := Lib.hid ht; have HB4 := Lib.hid hb; clear ht hb)
    go_ret
    exact ⟨y, rfl, HT.out, HS.out _ (HBW.out.trans (HB4.out.mono HBW.out.size))⟩
  · go_wp2_with (go_at_call 82; (with_reducible refine (HN1.out _).mono ?_); rintro e1 w4 ⟨y, rfl, ht, hb⟩; have HT := Lib.hid ht; have HB4 := Lib.hid hb; clear ht hb)
    go_ret
    exact ⟨y, rfl, HT.out, HS.out _ (HBW.out.trans (HB4.out.mono HBW.out.size))⟩
  · go_wp2_with (go_at_call 82; (with_reducible refine (HN6.out _).mono ?_); rintro e1 w4 ⟨y, rfl, ht, hb⟩; have HT := Lib.hid ht; have HB4 := Lib.hid hb; clear ht hb)
    go_ret
    exact ⟨y, rfl, HT.out, HS.out _ (HBW.out.trans (HB4.out.mono HBW.out.size))⟩
  · obtain ⟨j, b, o, rfl, hj, rfl, hbB, hcell⟩ := HRC.out h3
    have k0 := (HBW.out.cell (p := ⟨b, o + j * 2 + 1, none⟩) (Nat.lt_of_lt_of_le hbB HBB.out)).trans hcell
    clear hcell
    go_wp2
    go_quiet (fail)
    have HB5 := Lib.hid (HBW.out.trans ((below_drewN w3 nq).mono HBW.out.size))
    have x0' := (HX.out _ (HB3.out.trans ((below_drewN w3 nq).mono HB3.out.size))).r0
    simp only at x0'
    clear x0 x1 x2 x3 x4 y8 k0
    generalize w3.drewN nq = w5 at *
    go_wp2_with (go_at_call 82; (with_reducible refine (HN5.out _).mono ?_); rintro e1 w4 ⟨y, rfl, ht, hb⟩; have HT := Lib.hid ht; have HB4 := Lib.hid hb; clear ht hb)
    go_ret
    exact ⟨y, rfl, HT.out, HS.out _ (HB5.out.trans (HB4.out.mono HB5.out.size))⟩
  · obtain ⟨j, b, o, rfl, hj, rfl, hbB, hcell⟩ := HRC.out h3
    have k0 := (HBW.out.cell (p := ⟨b, o + j * 2 + 1, none⟩) (Nat.lt_of_lt_of_le hbB HBB.out)).trans hcell
    clear hcell
    go_wp2
    go_quiet (fail)
    have HB5 := Lib.hid (HBW.out.trans ((below_drewN w3 nq).mono HBW.out.size))
    have HB6 := Lib.hid (HB3.out.trans ((below_drewN w3 nq).mono HB3.out.size))
    clear x0 x1 x2 x3 x4 y8 k0
    generalize w3.drewN nq = w5 at *
    obtain ⟨x0, x1, x2, x3, x4, y0, y1, y2, y3, y4, y5, y6, y7, y8⟩ := HX.out _ HB6.out
    simp only at x0 x1 x2 x3 x4
    clear y0 y1 y2 y3 y4 y5 y6 y7 y8
    have HBW5 := Lib.hid (HB0.out.trans (HB6.out.mono HB0.out.size))
    have HB5D := Lib.hid (HBW5.out.trans ((Below.refl w5.heap.size w5).drew.mono HBW5.out.size))
    go_wp2
    go_region_held3 (fun u => u.cell? ⟨w.heap.size, 1, none⟩ = some (.int .i64 rkey)) (first | assumption) (first
      | (go_at_call 77; (with_reducible refine (HOF.out _ HB5D.out).mono ?_); rintro e1 w6 ⟨po, co, rfl, -, hb⟩; have HB7 := Lib.hid (HB6.out.trans (((Below.refl w5.heap.size w5).drew.trans (hb.mono (Below.refl w5.heap.size w5).drew.size)).mono HB6.out.size)); have y1 := (HX.out _ HB7.out).r1; simp only at y1; clear hb))
    clear x0 x1 x2 x3 x4
    obtain ⟨x0, x1, x2, x3, x4, y0, y1', y2, y3, y4, y5, y6, y7, y8⟩ := HX.out _ HB7.out
    simp only at x0 x1 x2 x3 x4
    clear y0 y1' y2 y3 y4 y5 y6 y7 y8
    have HBW6 := Lib.hid (HB0.out.trans (HB7.out.mono HB0.out.size))
    have HE6 := Lib.hid (HS.out _ HBW6.out)
    have HB6D := Lib.hid (HBW6.out.trans ((Below.refl w6.heap.size w6).drew.mono HBW6.out.size))
    rcases hcase with ⟨hof, hok, hE⟩ | ⟨hof, hok, hsl, hE⟩ | ⟨hof, hE⟩
    · subst hof hok hE
      have hz : ((([] : List It).length : Int) == 0) = true := rfl
      go_wp2
      go_region_held3 (fun u => u.cell? ⟨w.heap.size, 1, none⟩ = some (.int .i64 rkey) ∧ u.cell? ⟨w.heap.size, 2, none⟩ = some (.int .i64 rc)) (first | assumption | exact ⟨x1, x2⟩) (first
        | (go_at_call 83; (with_reducible refine (HSP.out _ HB6D.out).mono ?_); rintro e1 w7 ⟨rfl, hs⟩; have H7 := Lib.hid hs; have z7 : _ ∧ _ := ⟨cell_only hs (by have := HVL.out; omega) (cell_on x1 (Below.refl _ _).drew), cell_only hs (by have := HVL.out; omega) (cell_on x2 (Below.refl _ _).drew)⟩; clear hs))
      have z0 := cell_only H7.out (by have := HVL.out; omega) (cell_on x0 (Below.refl _ _).drew)
      have HE6D := Lib.hid (HS.out _ HB6D.out)
      have hb7 := Lib.hid (Nat.le_trans HBB.out (HE6D.out.trans H7.out).size)
      clear x0 x1 x2 x3 x4
      go_wp2
      go_ret
      exact ⟨_, rfl, ⟨_, 1, rfl, Kit.lies_one (E := ans) (x := ⟨ri, gen, 0⟩) (heap_alloc_new w7 _), fun h => by cases h⟩, (HE6D.out.trans H7.out).on hb7.out (lay w7 _)⟩
    · subst hof hok
      have hz : ((([] : List It).length : Int) == 0) = true := rfl
      subst hsl
      go_wp2
      go_region_held3 (fun u => u.cell? ⟨w.heap.size, 1, none⟩ = some (.int .i64 rkey) ∧ u.cell? ⟨w.heap.size, 2, none⟩ = some (.int .i64 rc)) (first | assumption | exact ⟨x1, x2⟩) (first
        | (go_at_call 83; (with_reducible refine (HSP.out _ HB6D.out).mono ?_); rintro e1 w7 ⟨rfl, hs⟩; have H7 := Lib.hid hs; have z7 : _ ∧ _ := ⟨cell_only hs (by have := HVL.out; omega) (cell_on x1 (Below.refl _ _).drew), cell_only hs (by have := HVL.out; omega) (cell_on x2 (Below.refl _ _).drew)⟩; clear hs))
      have z0 := cell_only H7.out (by have := HVL.out; omega) (cell_on x0 (Below.refl _ _).drew)
      have z3 := cell_only H7.out (by have := HVL.out; omega) (cell_on x3 (Below.refl _ _).drew)
      have z4 := cell_only H7.out (by have := HVL.out; omega) (cell_on x4 (Below.refl _ _).drew)
      have HE7 := Lib.hid ((HS.out _ HB6D.out).trans H7.out)
      clear x0 x1 x2 x3 x4
      obtain ⟨x1, x2⟩ := z7
      have x0 := z0
      have x3 := z3
      have x4 := z4
      clear z0 z3 z4
      have hbW := Lib.hid (Nat.le_trans HBB.out HE7.out.size)
      subst hE
      rcases hwait with ⟨g1, g2⟩ | ⟨g1, g2, g3⟩ | ⟨g1, g2, g4, g3⟩
      · subst g1 g2
        go_wp2_with (go_at_call 82; (with_reducible refine (HN1.out _).mono ?_); rintro e1 w9 ⟨y, rfl, ht, hb⟩; have HT := Lib.hid ht; have HB9 := Lib.hid hb; clear ht hb)
        go_ret
        exact ⟨y, rfl, HT.out, HE7.out.on hbW.out HB9.out⟩
      · have g5 : (rw' == 0) = false := by simpa using g1
        subst g2 g3
        clear g1
        go_wp2
        have HED := Lib.hid (HE7.out.on hbW.out (Below.refl _ w7).drew)
        go_region_held3 (fun u => u.cell? ⟨w.heap.size, 0, none⟩ = some (.int .i64 ri) ∧ u.cell? ⟨w.heap.size, 1, none⟩ = some (.int .i64 rkey) ∧ u.cell? ⟨w.heap.size, 2, none⟩ = some (.int .i64 rc) ∧ u.cell? ⟨w.heap.size, 3, none⟩ = some (.int .i64 rs) ∧ u.cell? ⟨w.heap.size, 4, none⟩ = some (.int .i64 rw')) (first | assumption | exact ⟨x0, x1, x2, x3, x4⟩) (first
          | (go_at_call 85; (with_reducible refine (HTW.out _).mono ?_); rintro e1 w8 ⟨rfl, rfl⟩)
          | (go_at_call 84; (with_reducible refine (HPU.out _ HED.out.ed (Nat.le_trans HBB.out HED.out.size)).mono ?_); rintro e1 w8 ⟨rfl, hs⟩; have H8 := Lib.hid hs; have y8 : _ ∧ _ ∧ _ ∧ _ ∧ _ := ⟨cell_only hs (by have := HVL.out; omega) (cell_on x0 (Below.refl _ _).drew), cell_only hs (by have := HVL.out; omega) (cell_on x1 (Below.refl _ _).drew), cell_only hs (by have := HVL.out; omega) (cell_on x2 (Below.refl _ _).drew), cell_only hs (by have := HVL.out; omega) (cell_on x3 (Below.refl _ _).drew), cell_only hs (by have := HVL.out; omega) (cell_on x4 (Below.refl _ _).drew)⟩; clear hs))
        go_wp2
        go_ret
        exact ⟨_, rfl, told_none _, HED.out.trans H8.out⟩
      · have g5 : (rw' == 0) = false := by simpa using g1
        have g6 : (pf != 0) = true := by simpa using g2
        subst g4 g3
        clear g1 g2
        go_wp2
        have HED := Lib.hid (HE7.out.on hbW.out (Below.refl _ w7).drew)
        go_region_held3 (fun u => u.cell? ⟨w.heap.size, 0, none⟩ = some (.int .i64 ri) ∧ u.cell? ⟨w.heap.size, 1, none⟩ = some (.int .i64 rkey) ∧ u.cell? ⟨w.heap.size, 2, none⟩ = some (.int .i64 rc) ∧ u.cell? ⟨w.heap.size, 3, none⟩ = some (.int .i64 rs) ∧ u.cell? ⟨w.heap.size, 4, none⟩ = some (.int .i64 rw')) (first | assumption | exact ⟨x0, x1, x2, x3, x4⟩) (first
          | (go_at_call 85; (with_reducible refine (HTW.out _).mono ?_); rintro e1 w8 ⟨rfl, rfl⟩)
          | (go_at_call 84; (with_reducible refine (HPU.out _ HED.out.ed (Nat.le_trans HBB.out HED.out.size)).mono ?_); rintro e1 w8 ⟨rfl, hs⟩; have H8 := Lib.hid hs; have y8 : _ ∧ _ ∧ _ ∧ _ ∧ _ := ⟨cell_only hs (by have := HVL.out; omega) (cell_on x0 (Below.refl _ _).drew), cell_only hs (by have := HVL.out; omega) (cell_on x1 (Below.refl _ _).drew), cell_only hs (by have := HVL.out; omega) (cell_on x2 (Below.refl _ _).drew), cell_only hs (by have := HVL.out; omega) (cell_on x3 (Below.refl _ _).drew), cell_only hs (by have := HVL.out; omega) (cell_on x4 (Below.refl _ _).drew)⟩; clear hs))
        clear x0 x1 x2 x3 x4
        obtain ⟨x0, x1, x2, x3, x4⟩ := y8
        have hb8 := Lib.hid (Nat.le_trans HBB.out (HED.out.trans H8.out).size)
        go_wp2_with (go_at_call 82; (with_reducible refine (HN2.out _).mono ?_); rintro e1 w9 ⟨y, rfl, ht, hb⟩; have HT := Lib.hid ht; have HB9 := Lib.hid hb; clear ht hb)
        go_ret
        exact ⟨y, rfl, HT.out, (HED.out.trans H8.out).on hb8.out HB9.out⟩
    · have hz : ((OF.length : Int) == 0) = false := by
        rw [beq_eq_false_iff_ne]
        intro h0
        exact hof (List.eq_nil_of_length_eq_zero (by omega))
      have hbW := Lib.hid (Nat.le_trans HBB.out HE6.out.size)
      subst hE
      rcases hwait with ⟨g1, g2⟩ | ⟨g1, g2, g3⟩ | ⟨g1, g2, g4, g3⟩
      · subst g1 g2
        go_wp2_with (go_at_call 82; (with_reducible refine (HN1.out _).mono ?_); rintro e1 w9 ⟨y, rfl, ht, hb⟩; have HT := Lib.hid ht; have HB9 := Lib.hid hb; clear ht hb)
        go_ret
        exact ⟨y, rfl, HT.out, HE6.out.on hbW.out HB9.out⟩
      · have g5 : (rw' == 0) = false := by simpa using g1
        subst g2 g3
        clear g1
        go_wp2
        have HED := Lib.hid (HE6.out.on hbW.out (Below.refl _ w6).drew)
        go_region_held3 (fun u => u.cell? ⟨w.heap.size, 0, none⟩ = some (.int .i64 ri) ∧ u.cell? ⟨w.heap.size, 1, none⟩ = some (.int .i64 rkey) ∧ u.cell? ⟨w.heap.size, 2, none⟩ = some (.int .i64 rc) ∧ u.cell? ⟨w.heap.size, 3, none⟩ = some (.int .i64 rs) ∧ u.cell? ⟨w.heap.size, 4, none⟩ = some (.int .i64 rw')) (first | assumption | exact ⟨x0, x1, x2, x3, x4⟩) (first
          | (go_at_call 85; (with_reducible refine (HTW.out _).mono ?_); rintro e1 w8 ⟨rfl, rfl⟩)
          | (go_at_call 84; (with_reducible refine (HPU.out _ HED.out.ed (Nat.le_trans HBB.out HED.out.size)).mono ?_); rintro e1 w8 ⟨rfl, hs⟩; have H8 := Lib.hid hs; have y8 : _ ∧ _ ∧ _ ∧ _ ∧ _ := ⟨cell_only hs (by have := HVL.out; omega) (cell_on x0 (Below.refl _ _).drew), cell_only hs (by have := HVL.out; omega) (cell_on x1 (Below.refl _ _).drew), cell_only hs (by have := HVL.out; omega) (cell_on x2 (Below.refl _ _).drew), cell_only hs (by have := HVL.out; omega) (cell_on x3 (Below.refl _ _).drew), cell_only hs (by have := HVL.out; omega) (cell_on x4 (Below.refl _ _).drew)⟩; clear hs))
        go_wp2
        go_ret
        exact ⟨_, rfl, told_none _, HED.out.trans H8.out⟩
      · have g5 : (rw' == 0) = false := by simpa using g1
        have g6 : (pf != 0) = true := by simpa using g2
        subst g4 g3
        clear g1 g2
        go_wp2
        have HED := Lib.hid (HE6.out.on hbW.out (Below.refl _ w6).drew)
        go_region_held3 (fun u => u.cell? ⟨w.heap.size, 0, none⟩ = some (.int .i64 ri) ∧ u.cell? ⟨w.heap.size, 1, none⟩ = some (.int .i64 rkey) ∧ u.cell? ⟨w.heap.size, 2, none⟩ = some (.int .i64 rc) ∧ u.cell? ⟨w.heap.size, 3, none⟩ = some (.int .i64 rs) ∧ u.cell? ⟨w.heap.size, 4, none⟩ = some (.int .i64 rw')) (first | assumption | exact ⟨x0, x1, x2, x3, x4⟩) (first
          | (go_at_call 85; (with_reducible refine (HTW.out _).mono ?_); rintro e1 w8 ⟨rfl, rfl⟩)
          | (go_at_call 84; (with_reducible refine (HPU.out _ HED.out.ed (Nat.le_trans HBB.out HED.out.size)).mono ?_); rintro e1 w8 ⟨rfl, hs⟩; have H8 := Lib.hid hs; have y8 : _ ∧ _ ∧ _ ∧ _ ∧ _ := ⟨cell_only hs (by have := HVL.out; omega) (cell_on x0 (Below.refl _ _).drew), cell_only hs (by have := HVL.out; omega) (cell_on x1 (Below.refl _ _).drew), cell_only hs (by have := HVL.out; omega) (cell_on x2 (Below.refl _ _).drew), cell_only hs (by have := HVL.out; omega) (cell_on x3 (Below.refl _ _).drew), cell_only hs (by have := HVL.out; omega) (cell_on x4 (Below.refl _ _).drew)⟩; clear hs))
        clear x0 x1 x2 x3 x4
        obtain ⟨x0, x1, x2, x3, x4⟩ := y8
        have hb8 := Lib.hid (Nat.le_trans HBB.out (HED.out.trans H8.out).size)
        go_wp2_with (go_at_call 82; (with_reducible refine (HN2.out _).mono ?_); rintro e1 w9 ⟨y, rfl, ht, hb⟩; have HT := Lib.hid ht; have HB9 := Lib.hid hb; clear ht hb)
        go_ret
        exact ⟨y, rfl, HT.out, (HED.out.trans H8.out).on hb8.out HB9.out⟩
end Go.Proofs.YtlbpeeelgpjciaaGreat.Edge

namespace Go.Proofs.YtlbpeeelgpjciaaGreat.Conf
open Go.RowKit Ring

theorem all_take (zs : List (Int × Int)) (k : Nat) (h : k < zs.length) : (zs.take (k + 1)).all rate1 = ((zs.take k).all rate1 && (within (zs.getD k (0, 0)).1 0 2147483648 && within (zs.getD k (0, 0)).2 0 2147483648)) := by
  have e : zs.getD k (0, 0) = zs[k] := by simp [h]
  rw [e, List.take_succ_eq_append_getElem h, List.all_append]
  simp [rate1]
theorem all_no (zs : List (Int × Int)) (k : Nat) (h : k < zs.length) (hr : (within (zs.getD k (0, 0)).1 0 2147483648 && within (zs.getD k (0, 0)).2 0 2147483648) = false) : zs.all rate1 = false := by
  have e : zs.getD k (0, 0) = zs[k] := by simp [h]
  rw [e] at hr
  rw [List.all_eq_false]
  exact ⟨zs[k], List.getElem_mem h, by unfold rate1; rw [hr]; exact Bool.false_ne_true⟩

set_option maxRecDepth 100000 in
set_option maxHeartbeats 1000000 in
theorem rates_any (p : Option Addr) (zs : List (Int × Int)) (c : Nat) (w : World) (hl : zs.length ≤ 100) (hr : IsRates w p zs) :
    Calls Tryz.prog 64 #[.slice p zs.length c] w fun e w' => e = .returned (.bool (rates zs)) ∧ Below w.heap.size w w' := by
  rcases Bool.eq_false_or_eq_true (within zs.length 1 8) with h | h
  · rcases hr with h0 | ⟨b, o, rfl, hr⟩
    · subst h0; exact absurd h (by decide)
    have HR := Lib.hid hr; clear hr
    have HT := Lib.hid (show rates zs = zs.all rate1 by unfold rates; rw [h]; rfl)
    go_enter Tryz.func64, Tryz.ntmps64
    go_wp2_with (go_at_call 123; refine (within_any _ _ _ _).mono ?_; rintro e w' ⟨rfl, rfl⟩)
    go_loopw [11] (fun i wr => ∃ k : Nat, i = .int .i64 (k : Int) ∧ k ≤ zs.length ∧ Hid ((zs.take k).all rate1 = true) ∧ Hid (Below w.heap.size w wr)) (fun i _ => zs.length - (intOf i).toNat)
    case atStart => exact ⟨0, rfl, by omega, Lib.hid rfl, Lib.hid (Below.refl _ _)⟩
    case round =>
      obtain ⟨k, rfl, hk, HA, HB⟩ := hrel
      by_cases hlt : k < zs.length
      · have hlt' : (k : Int) < (zs.length : Int) := by omega
        have g1 : wr.cell? ⟨b, o + k * 2, none⟩ = some (.int .i64 (zs.getD k (0, 0)).1) := cell_stays HB.out (HR.out k hlt).1
        have g2 : wr.cell? ⟨b, o + k * 2 + 1, none⟩ = some (.int .i64 (zs.getD k (0, 0)).2) := cell_stays HB.out (HR.out k hlt).2
        have at1 := all_take zs k hlt
        have an := all_no zs k hlt
        have AT := Lib.hid at1; clear at1
        have AN := Lib.hid an; clear an
        generalize (zs.getD k (0, 0)).1 = x at *
        generalize (zs.getD k (0, 0)).2 = y at *
        rcases Bool.eq_false_or_eq_true (within x 0 2147483648) with h1 | h1
        · rcases Bool.eq_false_or_eq_true (within y 0 2147483648) with h2 | h2
          · go_wp2_with (go_at_call 123; refine (within_any _ _ _ _).mono ?_; rintro e w' ⟨rfl, rfl⟩)
            go_roundw
            case rel => exact ⟨k + 1, by go_num, by omega, Lib.hid (by rw [AT.out, HA.out, h1, h2]; rfl), Lib.hid (HB.out.alloc HB.out.size _)⟩
            case measure => simp only [intOf]; omega
          · go_wp2_with (go_at_call 123; refine (within_any _ _ _ _).mono ?_; rintro e w' ⟨rfl, rfl⟩)
            go_ret
            exact ⟨ret_bool (by rw [HT.out, AN.out (by rw [h1, h2]; rfl)]), HB.out.alloc HB.out.size _⟩
        · go_wp2_with (go_at_call 123; refine (within_any _ _ _ _).mono ?_; rintro e w' ⟨rfl, rfl⟩)
          go_ret
          exact ⟨ret_bool (by rw [HT.out, AN.out (by rw [h1]; rfl)]), HB.out.alloc HB.out.size _⟩
      · have hke : k = zs.length := by omega
        subst hke
        go_wp2
        go_ret
        exact ⟨ret_bool (by rw [HT.out]; have h := HA.out; rw [List.take_length] at h; rw [h]), HB.out⟩
  · have HT := Lib.hid (show rates zs = false by unfold rates; rw [h]; rfl)
    go_enter Tryz.func64, Tryz.ntmps64
    go_wp2_with (go_at_call 123; refine (within_any _ _ _ _).mono ?_; rintro e w' ⟨rfl, rfl⟩)
    go_ret
    exact ⟨ret_bool HT.out.symm, Below.refl _ _⟩

/-- How the world stands behind the box of a call's argument: what lay is as it was, and the box holds the configuration. -/
def Stand (w W : World) (n sk tl va lo he ke qu : Int) (p : Option Addr) (l c : Nat) : Prop :=
  Below w.heap.size w W ∧ Nine W w.heap.size (.int .i64 n) (.int .i64 sk) (.int .i64 tl) (.int .i64 va) (.int .i64 lo) (.int .i64 he) (.int .i64 ke) (.int .i64 qu) (.slice p l c)
theorem start (w : World) (n sk tl va lo he ke qu : Int) (p : Option Addr) (l c : Nat) : Stand w (w.alloc (.cells #[.int .i64 n, .int .i64 sk, .int .i64 tl, .int .i64 va, .int .i64 lo, .int .i64 he, .int .i64 ke, .int .i64 qu, .slice p l c] 24)) n sk tl va lo he ke qu p l c :=
  ⟨below_new _ _, nine_new _ _ _ _ _ _ _ _ _ _ _⟩
theorem Stand.step {w W W' : World} {n sk tl va lo he ke qu : Int} {p : Option Addr} {l c : Nat} (h : Stand w W n sk tl va lo he ke qu p l c) (hb : Below W.heap.size W W') : Stand w W' n sk tl va lo he ke qu p l c :=
  ⟨h.1.trans (hb.mono h.1.size), h.2.stays hb⟩

set_option maxRecDepth 100000 in
set_option maxHeartbeats 1000000 in
theorem check_core (n sk tl va lo he ke qu : Int) (p : Option Addr) (l c : Nat) (w : World) (tb rb zb : Bool) (r : Int)
    (cT : ∀ u, Stand w u n sk tl va lo he ke qu p l c → Calls Tryz.prog 62 #[.agg #[.int .i64 n, .int .i64 sk, .int .i64 tl, .int .i64 va, .int .i64 lo, .int .i64 he, .int .i64 ke, .int .i64 qu, .slice p l c]] u fun e W => e = .returned (.bool tb) ∧ Stand w W n sk tl va lo he ke qu p l c ∧ Nine W w.heap.size (.int .i64 n) (.int .i64 sk) (.int .i64 tl) (.int .i64 va) (.int .i64 lo) (.int .i64 he) (.int .i64 ke) (.int .i64 qu) (.slice p l c))
    (cR : ∀ u, Stand w u n sk tl va lo he ke qu p l c → Calls Tryz.prog 63 #[.agg #[.int .i64 n, .int .i64 sk, .int .i64 tl, .int .i64 va, .int .i64 lo, .int .i64 he, .int .i64 ke, .int .i64 qu, .slice p l c]] u fun e W => e = .returned (.bool rb) ∧ Stand w W n sk tl va lo he ke qu p l c ∧ Nine W w.heap.size (.int .i64 n) (.int .i64 sk) (.int .i64 tl) (.int .i64 va) (.int .i64 lo) (.int .i64 he) (.int .i64 ke) (.int .i64 qu) (.slice p l c))
    (cZ : ∀ u, Stand w u n sk tl va lo he ke qu p l c → Calls Tryz.prog 64 #[.slice p l c] u fun e W => e = .returned (.bool zb) ∧ Stand w W n sk tl va lo he ke qu p l c)
    (h : (within n 1 64 = false ∧ r = 21) ∨ (within n 1 64 = true ∧ tb = false ∧ r = 22) ∨ (within n 1 64 = true ∧ tb = true ∧ rb = false ∧ r = 23) ∨ (within n 1 64 = true ∧ tb = true ∧ rb = true ∧ zb = false ∧ r = 24) ∨ (within n 1 64 = true ∧ tb = true ∧ rb = true ∧ zb = true ∧ r = 0)) :
    Calls Tryz.prog 27 #[.agg #[.int .i64 n, .int .i64 sk, .int .i64 tl, .int .i64 va, .int .i64 lo, .int .i64 he, .int .i64 ke, .int .i64 qu, .slice p l c]] w fun e w' => e = .returned (.int .i64 r) ∧ Below w.heap.size w w' := by
  rcases h with ⟨h1, rfl⟩ | ⟨h1, rfl, rfl⟩ | ⟨h1, rfl, rfl, rfl⟩ | ⟨h1, rfl, rfl, rfl, rfl⟩ | ⟨h1, rfl, rfl, rfl, rfl⟩
  · go_enter Tryz.func27, Tryz.ntmps27
    go_wp2_with (first
      | (go_at_call 61; refine (isRing_any _ _).mono ?_; rintro e w' ⟨rfl, rfl⟩)
      | (go_at_call 62; (first | (with_reducible refine (cT _ hP).mono ?_) | (with_reducible refine (cT _ (start _ _ _ _ _ _ _ _ _ _ _ _)).mono ?_)); (try clear hP c0 c1 c2 c3 c4 c5 c6 c7 c8); rintro e w1 ⟨rfl, hP, c0, c1, c2, c3, c4, c5, c6, c7, c8⟩)
      | (go_at_call 63; (with_reducible refine (cR _ hP).mono ?_); (try clear hP c0 c1 c2 c3 c4 c5 c6 c7 c8); rintro e w1 ⟨rfl, hP, c0, c1, c2, c3, c4, c5, c6, c7, c8⟩)
      | (go_at_call 64; (with_reducible refine (cZ _ hP).mono ?_); (try clear hP c0 c1 c2 c3 c4 c5 c6 c7 c8); rintro e w1 ⟨rfl, hP⟩))
    go_ret
    exact ⟨rfl, below_new _ _⟩
  all_goals
    go_enter Tryz.func27, Tryz.ntmps27
    go_wp2_with (first
      | (go_at_call 61; refine (isRing_any _ _).mono ?_; rintro e w' ⟨rfl, rfl⟩)
      | (go_at_call 62; (first | (with_reducible refine (cT _ hP).mono ?_) | (with_reducible refine (cT _ (start _ _ _ _ _ _ _ _ _ _ _ _)).mono ?_)); (try clear hP c0 c1 c2 c3 c4 c5 c6 c7 c8); rintro e w1 ⟨rfl, hP, c0, c1, c2, c3, c4, c5, c6, c7, c8⟩)
      | (go_at_call 63; (with_reducible refine (cR _ hP).mono ?_); (try clear hP c0 c1 c2 c3 c4 c5 c6 c7 c8); rintro e w1 ⟨rfl, hP, c0, c1, c2, c3, c4, c5, c6, c7, c8⟩)
      | (go_at_call 64; (with_reducible refine (cZ _ hP).mono ?_); (try clear hP c0 c1 c2 c3 c4 c5 c6 c7 c8); rintro e w1 ⟨rfl, hP⟩))
    go_ret
    exact ⟨rfl, hP.1⟩

theorem check_any (n sk tl va lo he ke qu : Int) (p : Option Addr) (zs : List (Int × Int)) (c : Nat) (w : World) (hl : zs.length ≤ 100) (hr : IsRates w p zs) :
    Calls Tryz.prog 27 #[.agg #[.int .i64 n, .int .i64 sk, .int .i64 tl, .int .i64 va, .int .i64 lo, .int .i64 he, .int .i64 ke, .int .i64 qu, .slice p zs.length c]] w fun e w' => e = .returned (.int .i64 (check n sk tl va lo he ke qu zs)) ∧ Below w.heap.size w w' := by
  refine check_core n sk tl va lo he ke qu p zs.length c w (times sk tl va lo he) (rooms ke qu) (rates zs) _
    (fun u hu => (times_any n sk tl va lo he ke qu p zs.length c u).mono fun e W k => ⟨k.1, hu.step k.2, (hu.step k.2).2⟩)
    (fun u hu => (rooms_any n sk tl va lo he ke qu p zs.length c u).mono fun e W k => ⟨k.1, hu.step k.2, (hu.step k.2).2⟩)
    (fun u hu => (rates_any p zs c u hl (hr.stays hu.1)).mono fun e W k => ⟨k.1, hu.step k.2⟩) ?_
  unfold check
  rcases Bool.eq_false_or_eq_true (within n 1 64) with h1 | h1
  · rcases Bool.eq_false_or_eq_true (times sk tl va lo he) with h2 | h2
    · rcases Bool.eq_false_or_eq_true (rooms ke qu) with h3 | h3
      · rcases Bool.eq_false_or_eq_true (rates zs) with h4 | h4
        · exact .inr (.inr (.inr (.inr ⟨h1, h2, h3, h4, by simp [h1, h2, h3, h4]⟩)))
        · exact .inr (.inr (.inr (.inl ⟨h1, h2, h3, h4, by simp [h1, h2, h3, h4]⟩)))
      · exact .inr (.inr (.inl ⟨h1, h2, h3, by simp [h1, h2, h3]⟩))
    · exact .inr (.inl ⟨h1, h2, by simp [h1, h2]⟩)
  · exact .inl ⟨h1, by simp [h1]⟩
end Go.Proofs.YtlbpeeelgpjciaaGreat.Conf
