/-
  A step of the program's estimates, and what it leaves alone: all blocks but its own.
  The program's Of, keep, Note and Want, of any estimates behind up to 200 notes, and of none; any key, any numbers.
  The document's Put, of any queue of up to 1000 items.
  The document's Take, of any queue of up to 1000 items.
  The document's Expire, of any queue of up to 1000 items.
-/
import Derived.Lib.MinMax
import Derived.Test.YtlbpeeelgpjciaaGreatMgAs
import Derived.Test.YtlbpeeelgpjciaaGreatMgAn
import Derived.Test.YtlbpeeelgpjciaaGreatMgAf
namespace Go.Proofs.YtlbpeeelgpjciaaGreat.DemandF
open _root_.Go.Proofs.YtlbpeeelgpjciaaGreat.Demand
open Go.RowKit Go.Maps
open _root_.Go.Proofs.YtlbpeeelgpjciaaGreat.Codec (lt_of_heap frozen_of heap_set below_new)

/-- Where the map is, before a step: no other block but the object's, and the map's, turns. -/
structure Turns (B : Nat) (w : World) (q : Nat) (l : List Nt) (w' : World) : Prop where
  moved : Moved Pm B w q l w'
  rest : ∀ g, g < w.heap.size → g ≠ q → w.cell? ⟨q, 0, none⟩ ≠ some (.map (some g)) → w'.heap[g]? = w.heap[g]?
  fresh : ∀ b, w'.cell? ⟨q, 0, none⟩ = some (.map (some b)) → w.cell? ⟨q, 0, none⟩ = some (.map (some b)) ∨ w.heap.size ≤ b
section
variable {B q : Nat} {w w' : World} {l : List Nt}
theorem turnedr {u v : World} {m : Option Nat} {l' : List Nt} (h : Pm B w q l) (hB : B ≤ w.heap.size) (hc : w.cell? ⟨q, 0, none⟩ = some (.map m)) (hu : Below w.heap.size w u) (hm : Mw B w m l) (hv : u.grownBy v m) (hl : Mw B v m l') (hw : Below v.heap.size v w') : Turns B w q l' w' :=
  ⟨h.turned hB hc hu hm hv hl hw, fun g hg _ hne => (hw.block g (Nat.lt_of_lt_of_le (Nat.lt_of_lt_of_le hg hu.size) hv.size)).trans ((hv.block g (Nat.lt_of_lt_of_le hg hu.size) fun e => hne (by rw [hc, e])).trans (hu.block g hg)), fun b e => .inl (by
    obtain ⟨_, m', h1, _⟩ := h
    have hq : q < w.heap.size := lt_of_heap h1
    have hm' : some q ≠ m := fun e2 => by
      rcases hm with ⟨rfl, _⟩ | ⟨b2, D, rfl, _, ho, _⟩
      · cases e2
      · cases e2
        obtain ⟨es, clock, hb2, _⟩ := ho
        rw [hb2] at h1
        cases h1
    rwa [World.cell?_of_block (a := ⟨q, 0, none⟩) ((hw.block q (Nat.lt_of_lt_of_le (Nat.lt_of_lt_of_le hq hu.size) hv.size)).trans ((hv.block q (Nat.lt_of_lt_of_le hq hu.size) hm').trans (hu.block q hq)))] at e)⟩
theorem firstr {u v : World} {l' : List Nt} (h : Pm B w q l) (hB : B ≤ w.heap.size) (hu : Below w.heap.size w u) (hv : ((u.setCell ⟨q, 0, none⟩ (.map (some u.heap.size))).alloc (.map #[] 0)).grownBy v (some u.heap.size)) (hl : Mw B v (some u.heap.size) l') : Turns B w q l' v := by
  have hq := h.lt
  have es : (u.setCell ⟨q, 0, none⟩ (.map (some u.heap.size))).heap.size = u.heap.size := by simp
  refine ⟨h.first hB hu hv hl, fun g hg hne _ => ?_, fun b e => .inr ?_⟩
  · have hgu := Nat.lt_of_lt_of_le hg hu.size
    refine (hv.block g (by simp; omega) (fun e => by cases e; omega)).trans ?_
    refine (((Below.refl _ _).alloc (Nat.le_refl _) _).block g (by rw [es]; exact hgu)).trans ?_
    exact (Below.heap_setCell _ _ _ _ hne).trans (hu.block g hg)
  · have hqu := Nat.lt_of_lt_of_le hq hu.size
    have e1 : v.heap[q]? = (u.setCell ⟨q, 0, none⟩ (.map (some u.heap.size))).heap[q]? :=
      (hv.block q (by simp; omega) (fun e => by cases e; omega)).trans (((Below.refl _ _).alloc (Nat.le_refl _) _).block q (by rw [es]; exact hqu))
    obtain ⟨_, m', h1, _⟩ := h
    rw [heap_set q 0 _ _ ((hu.block q hq).trans h1)] at e1
    rw [cell_of_row v q 0 _ _ (0, 0) e1] at e
    simp at e
    have := hu.size
    omega
theorem Turns.lift {u : World} (hB : B ≤ w.heap.size) (hq : q < w.heap.size) (hb : Below w.heap.size w u) (h : Turns B u q l w') : Turns B w q l w' :=
  ⟨Moved.lift hB hb h.moved, fun g hg hn hm => (h.rest g (Nat.lt_of_lt_of_le hg hb.size) hn (by rw [hb.cell (p := ⟨q, 0, none⟩) hq]; exact hm)).trans (hb.block g hg), fun b e => (h.fresh b e).imp (fun e2 => by rwa [hb.cell (p := ⟨q, 0, none⟩) hq] at e2) (Nat.le_trans hb.size)⟩
end
end Go.Proofs.YtlbpeeelgpjciaaGreat.DemandF

namespace Go.Proofs.YtlbpeeelgpjciaaGreat.DemandF
open _root_.Go.Proofs.YtlbpeeelgpjciaaGreat.Demand
open Go.RowKit Go.Maps
open _root_.Go.Proofs.YtlbpeeelgpjciaaGreat.Codec (lt_of_heap frozen_of heap_set below_new)
open _root_.Go.Proofs.YtlbpeeelgpjciaaGreat.Kit (Kept Off cell_on)
open _root_.Go.Proofs.YtlbpeeelgpjciaaGreat.Sat (fit add fit_lo fit_hi)

theorem turn_cell {B : Nat} {u v : World} {m : Option Nat} {l : List Nt} {g : Nat} {cs : Array Value} {t : TypeId} {zz : Nat × Nat} (hg : u.grownBy v m) (hm : Mw B u m l) (h : u.heap[g]? = some (Obj.cells cs t zz)) : v.heap[g]? = some (Obj.cells cs t zz) := by
  refine (hg.block g (Codec.lt_of_heap h) fun e => ?_).trans h
  obtain ⟨es, clock, hb⟩ := Mw.map_at (e ▸ hm)
  rw [hb] at h
  cases h
theorem map_some (b : Nat) (w : World) : (binOp BinOp.eql 159 (.map (some b)) (.map none)).run Tryz.prog w = .ok (.bool false) w := by kernel_rfl
theorem map_none (w : World) : (binOp BinOp.eql 159 (.map none) (.map none)).run Tryz.prog w = .ok (.bool true) w := by kernel_rfl
set_option maxRecDepth 100000 in
theorem pof_any {B q : Nat} {w : World} {l : List Nt} (h : Pm B w q l) {k : Int} (hk : Num k) :
    Calls Tryz.prog 121 #[.pointer (some ⟨q, 0, none⟩), .int .i64 k] w fun e w' => e = .returned (.int .i64 (of l k)) ∧ Below w.heap.size w w' := by
  obtain ⟨m, hc, _, hm⟩ := h.cell
  have hl := hm.get hk
  generalize of l k = R at *
  clear h hm
  go_enter Tryz.func121, Tryz.ntmps121
  go_wp2
  go_ret
  exact ⟨rfl, Below.refl _ _⟩
set_option maxRecDepth 100000 in
theorem nof_any (k : Int) (w : World) : Calls Tryz.prog 121 #[.pointer none, .int .i64 k] w fun e w' => e = .returned (.int .i64 0) ∧ Below w.heap.size w w' := by
  go_enter Tryz.func121, Tryz.ntmps121
  go_wp2
  go_ret
  exact ⟨rfl, Below.refl _ _⟩
set_option maxRecDepth 100000 in
theorem keep_zero {B q : Nat} {w : World} {l : List Nt} (hB : B ≤ w.heap.size) (h : Pm B w q l) {k s : Int} (hk : Num k) (h0 : of (l ++ [⟨k, s⟩]) k = 0) :
    Calls Tryz.prog 122 #[.pointer (some ⟨q, 0, none⟩), .int .i64 k, .int .i64 0] w fun e w' => (∃ v, e = .returned v) ∧ Turns B w q (l ++ [⟨k, s⟩]) w' := by
  obtain ⟨m, hc, _, hm⟩ := h.cell
  have HT := Lib.hid (fun v l' (hv : w.grownBy v m) (hl : Mw B v m l') => turnedr h hB hc (Below.refl _ _) hm hv hl (Below.refl _ _))
  have HM := Lib.hid hm
  clear h hm
  go_enter Tryz.func122, Tryz.ntmps122
  go_wp2_with (at_delete; refine step_cut rfl _ _ rfl (mp := m) rfl HM.out hk h0 rfl ?_; intro v hv hgv)
  refine bodyPost_ret (results_none rfl _ _ _) rfl ?_
  exact ⟨⟨_, rfl⟩, HT.out _ _ hgv hv⟩
set_option maxRecDepth 100000 in
theorem keep_more {B q b : Nat} {w : World} {l : List Nt} (hB : B ≤ w.heap.size) (h : Pm B w q l) (hc : w.cell? ⟨q, 0, none⟩ = some (.map (some b))) {k s : Int} (hk : Num k) (hlen : l.length ≤ 200) (h0 : of (l ++ [⟨k, s⟩]) k ≠ 0) :
    Calls Tryz.prog 122 #[.pointer (some ⟨q, 0, none⟩), .int .i64 k, .int .i64 (of (l ++ [⟨k, s⟩]) k)] w fun e w' => (∃ v, e = .returned v) ∧ Turns B w q (l ++ [⟨k, s⟩]) w' := by
  obtain ⟨m, hc', _, hm⟩ := h.cell
  obtain rfl : m = some b := by
    rw [hc] at hc'
    simpa using hc'.symm
  clear hc'
  have HT := Lib.hid (fun v l' (hv : w.grownBy v (some b)) (hl : Mw B v (some b) l') => turnedr h hB hc (Below.refl _ _) hm hv hl (Below.refl _ _))
  obtain ⟨v, hrun, hv, hgv⟩ := hm.put (by have := keys_len l; unfold maxLen; omega) hk h0
  have he := map_some b
  have hne : (of (l ++ [⟨k, s⟩]) k == 0) = false := by simpa using h0
  generalize of (l ++ [⟨k, s⟩]) k = R at *
  clear h hm h0
  go_enter Tryz.func122, Tryz.ntmps122
  go_wp2
  go_end0
  exact ⟨⟨_, rfl⟩, HT.out _ _ hgv hv⟩
set_option maxRecDepth 100000 in
theorem keep_first {B q : Nat} {w : World} {l : List Nt} (hB : B ≤ w.heap.size) (h : Pm B w q l) (hc : w.cell? ⟨q, 0, none⟩ = some (.map none)) (hl : keys l = []) {k s : Int} (hk : Num k) (hlen : l.length ≤ 200) (h0 : of (l ++ [⟨k, s⟩]) k ≠ 0) :
    Calls Tryz.prog 122 #[.pointer (some ⟨q, 0, none⟩), .int .i64 k, .int .i64 (of (l ++ [⟨k, s⟩]) k)] w fun e w' => (∃ v, e = .returned v) ∧ Turns B w q (l ++ [⟨k, s⟩]) w' := by
  obtain ⟨m, hc', hf, hm⟩ := h.cell
  obtain rfl : m = none := by
    rw [hc] at hc'
    simpa using hc'.symm
  clear hc'
  have hq := h.lt
  have HT := Lib.hid (fun v l' hv (hl : Mw B v (some w.heap.size) l') => firstr h hB (Below.refl _ _) hv hl)
  obtain ⟨v, hrun, hv, hgv⟩ := (first_made (q := q) w hB hl).put (by have := keys_len l; unfold maxLen; omega) hk h0
  have he := map_none
  have hmm := @run_makeMap Tryz.prog
  have hne : (of (l ++ [⟨k, s⟩]) k == 0) = false := by simpa using h0
  generalize of (l ++ [⟨k, s⟩]) k = R at *
  clear h hm h0
  go_enter Tryz.func122, Tryz.ntmps122
  go_wp2
  go_end0
  exact ⟨⟨_, rfl⟩, HT.out _ _ hgv hv⟩
theorem keep_any {B q : Nat} {w : World} {l : List Nt} (h : Pm B w q l) (hB : B ≤ w.heap.size) (hlen : l.length ≤ 200) {k s : Int} (hk : Num k) :
    Calls Tryz.prog 122 #[.pointer (some ⟨q, 0, none⟩), .int .i64 k, .int .i64 (of (l ++ [⟨k, s⟩]) k)] w fun e w' => (∃ v, e = .returned v) ∧ Turns B w q (l ++ [⟨k, s⟩]) w' := by
  by_cases h0 : of (l ++ [⟨k, s⟩]) k = 0
  · have := keep_zero hB h hk h0
    rwa [← h0] at this
  · obtain ⟨m, hc, -, hm⟩ := h.cell
    rcases hm with ⟨rfl, he⟩ | ⟨b, D, rfl, -⟩
    · exact keep_first hB h hc he hk hlen h0
    · exact keep_more hB h hc hk hlen h0
set_option maxRecDepth 100000 in
set_option maxHeartbeats 1000000 in
theorem pnote_any {B q : Nat} {w : World} {l : List Nt} (h : Pm B w q l) (hB : B ≤ w.heap.size) (hlen : l.length ≤ 200) {k s : Int} (hk : Num k) :
    Calls Tryz.prog 60 #[.pointer (some ⟨q, 0, none⟩), .int .i64 k, .int .i64 s] w fun e w' => e = .returned (.int .i64 (of (l ++ [⟨k, s⟩]) k)) ∧ Turns B w q (l ++ [⟨k, s⟩]) w' := by
  have c1 := fun u => _root_.Go.Proofs.YtlbpeeelgpjciaaGreat.Sat.fit_any s u
  have c2 := fun u (hu : Below w.heap.size w u) => pof_any (h.below hu) hk
  have c3 := fun u (hu : Below w.heap.size w u) => (keep_any (h.below hu) (Nat.le_trans hB hu.size) hlen (k := k) (s := s) hk).mono fun e w' ⟨he, hm⟩ => And.intro he (Turns.lift hB h.lt hu hm)
  simp only [of_same l k s] at c3 ⊢
  have n0 := of_num l k
  generalize of l k = e at *
  generalize fit s = f at *
  have HB := Lib.hid (Below.refl w.heap.size w)
  clear h
  go_enter Tryz.func60, Tryz.ntmps60
  go_wp2_with (first
    | (go_at_call 120; (with_reducible refine (c1 _).mono ?_); rintro e1 w1 ⟨rfl, rfl⟩)
    | (go_at_call 121; (with_reducible refine (c2 _ HB.out).mono ?_); rintro e1 w2 ⟨rfl, hb⟩; have HB2 := Lib.hid hb; clear hb c2)
    | (go_at_call 122; (with_reducible refine (c3 _ HB2.out).mono ?_); rintro e1 w3 ⟨⟨v3, rfl⟩, hm⟩; have HM := Lib.hid hm; clear hm c3))
  go_ret
  exact ⟨rfl, HM.out⟩
set_option maxRecDepth 100000 in
theorem nnote_any (k s : Int) (w : World) : Calls Tryz.prog 60 #[.pointer none, .int .i64 k, .int .i64 s] w fun e w' => e = .returned (.int .i64 0) ∧ Below w.heap.size w w' := by
  go_enter Tryz.func60, Tryz.ntmps60
  go_wp2
  go_ret
  exact ⟨rfl, Below.refl _ _⟩
set_option maxRecDepth 100000 in
set_option maxHeartbeats 1000000 in
theorem want_core (v : Value) (k e qd most : Int) (w : World) (c1 : Calls Tryz.prog 121 #[v, .int .i64 k] w fun e' w' => e' = .returned (.int .i64 e) ∧ Below w.heap.size w w') :
    Calls Tryz.prog 109 #[v, .int .i64 k, .int .i64 qd, .int .i64 most] w fun e' w' => e' = .returned (.int .i64 (want e qd most)) ∧ Below w.heap.size w w' := by
  have c2 := fun u => _root_.Go.Proofs.YtlbpeeelgpjciaaGreat.Sat.add2 e qd u _ rfl
  have c3 := fun u => _root_.Go.Proofs.YtlbpeeelgpjciaaGreat.Sat.fit_any most u
  have HX := Lib.hid (show min (add [e, qd]) (fit most) = want e qd most from rfl)
  generalize want e qd most = R at *
  generalize add [e, qd] = a at *
  generalize fit most = b at *
  go_enter Tryz.func109, Tryz.ntmps109
  go_wp2_with (first
    | (go_at_call 120; (with_reducible refine (c3 _).mono ?_); rintro e1 w1 ⟨rfl, rfl⟩)
    | (go_at_call 121; (with_reducible refine c1.mono ?_); rintro e1 w2 ⟨rfl, hb⟩; have HB2 := Lib.hid hb; clear hb c1)
    | (go_at_call 101; (with_reducible refine (c2 _).mono ?_); rintro e1 w3 ⟨rfl, rfl⟩))
  go_ret
  exact ⟨by simp; exact HX.out, HB2.out.alloc HB2.out.size _⟩
theorem pwant_any {B q : Nat} {w : World} {l : List Nt} (h : Pm B w q l) {k : Int} (hk : Num k) (qd most : Int) :
    Calls Tryz.prog 109 #[.pointer (some ⟨q, 0, none⟩), .int .i64 k, .int .i64 qd, .int .i64 most] w fun e' w' => e' = .returned (.int .i64 (want (of l k) qd most)) ∧ Below w.heap.size w w' :=
  want_core _ k _ qd most w (pof_any h hk)
theorem nwant_any (k qd most : Int) (w : World) :
    Calls Tryz.prog 109 #[.pointer none, .int .i64 k, .int .i64 qd, .int .i64 most] w fun e' w' => e' = .returned (.int .i64 (want 0 qd most)) ∧ Below w.heap.size w w' :=
  want_core _ k _ qd most w (nof_any k w)
end Go.Proofs.YtlbpeeelgpjciaaGreat.DemandF

namespace Go.Proofs.YtlbpeeelgpjciaaGreat.Queue
open Go.RowKit
open _root_.Go.Proofs.YtlbpeeelgpjciaaGreat.Codec (lt_of_heap frozen_of heap_set below_new)
open _root_.Go.Proofs.YtlbpeeelgpjciaaGreat.Kit (Enc Lies Own At Kept Laid cell_on lt_heap take_snoc below_drewN box5)

/-- Four ways that an item may not be. -/
theorem wrong_cases {x : It} (h : wrong x) : x.cost < 1 ∨ ¬ x.cost < 1 ∧ (x.cls < 0 ∨ ¬ x.cls < 0 ∧ (2 < x.cls ∨ ¬ 2 < x.cls ∧ x.til < 0)) := by
  unfold wrong at h
  omega
theorem not_wrong {x : It} (h : ¬ wrong x) : ¬ x.cost < 1 ∧ ¬ x.cls < 0 ∧ ¬ 2 < x.cls ∧ ¬ x.til < 0 := by
  unfold wrong at h
  omega
set_option maxRecDepth 100000 in
set_option maxHeartbeats 4000000 in
theorem rput_no {B v : Nat} {room : Int} {l : List It} {w : World} (h : Qu B w v room l) (hB : B ≤ w.heap.size) (x : It) (hx : wrong x) :
    Calls Tryz.prog 84 #[.pointer (some ⟨v, 0, none⟩), val x] w fun e w' => e = .returned (.int .i64 1) ∧ Step B w v room l w' := by
  have HS := Lib.hid (fun u (hu : Below w.heap.size w u) => Step.same h hB hu)
  obtain ⟨b0, b1, b2, b3, b4⟩ := box5 (heap_alloc_new w (.cells #[.int .i64 x.id, .int .i64 x.key, .int .i64 x.cost, .int .i64 x.cls, .int .i64 x.til] 95))
  have HB := Lib.hid ((Below.refl w.heap.size w).alloc (Nat.le_refl _) (.cells #[.int .i64 x.id, .int .i64 x.key, .int .i64 x.cost, .int .i64 x.cls, .int .i64 x.til] 95))
  have hc := wrong_cases hx
  obtain ⟨xi, xk, xc, xs, xt⟩ := x
  simp only at hc b0 b1 b2 b3 b4 HB
  clear h hx
  simp only [val]
  rcases hc with h1 | ⟨h1, h2 | ⟨h2, h3 | ⟨h3, h4⟩⟩⟩
  all_goals
    go_enter Tryz.func84, Tryz.ntmps84
    go_wp2
    go_ret
    exact ⟨rfl, HS.out _ HB.out⟩

set_option maxRecDepth 100000 in
set_option maxHeartbeats 4000000 in
theorem rput_twice {B v : Nat} {room : Int} {l : List It} {w : World} (h : Qu B w v room l) (hB : B ≤ w.heap.size) (hl : l.length ≤ 1000) (x : It) (hx : ¬ wrong x) (hp : 0 ≤ place l x.id) :
    Calls Tryz.prog 84 #[.pointer (some ⟨v, 0, none⟩), val x] w fun e w' => e = .returned (.int .i64 5) ∧ Step B w v room l w' := by
  have HS := Lib.hid (fun u (hu : Below w.heap.size w u) => Step.same h hB hu)
  obtain ⟨b0, b1, b2, b3, b4⟩ := box5 (heap_alloc_new w (.cells #[.int .i64 x.id, .int .i64 x.key, .int .i64 x.cost, .int .i64 x.cls, .int .i64 x.til] 95))
  have HB := Lib.hid ((Below.refl w.heap.size w).alloc (Nat.le_refl _) (.cells #[.int .i64 x.id, .int .i64 x.key, .int .i64 x.cost, .int .i64 x.cls, .int .i64 x.til] 95))
  have HA := rat_any (h.below HB.out) hl x.id
  obtain ⟨h1, h2, h3, h4⟩ := not_wrong hx
  generalize place l x.id = P at *
  obtain ⟨xi, xk, xc, xs, xt⟩ := x
  simp only at h1 h2 h3 h4 b0 b1 b2 b3 b4 HB HA
  clear h hx
  simp only [val]
  go_enter Tryz.func84, Tryz.ntmps84
  go_wp2_with (go_at_call 126; (with_reducible refine HA.mono ?_); rintro e w1 ⟨rfl, hb⟩; have HB1 := Lib.hid (HB.out.trans (hb.mono HB.out.size)); clear hb HA)
  go_ret
  exact ⟨rfl, HS.out _ HB1.out⟩

set_option maxRecDepth 100000 in
set_option maxHeartbeats 4000000 in
theorem rput_full {B v : Nat} {room : Int} {l : List It} {w : World} (h : Qu B w v room l) (hB : B ≤ w.heap.size) (hl : l.length ≤ 1000) (x : It) (hx : ¬ wrong x) (hp : ¬ 0 ≤ place l x.id) (hr : room ≤ l.length) :
    Calls Tryz.prog 84 #[.pointer (some ⟨v, 0, none⟩), val x] w fun e w' => e = .returned (.int .i64 3) ∧ Step B w v room l w' := by
  have HV := Lib.hid h
  have HS := Lib.hid (fun u (hu : Below w.heap.size w u) => Step.same h hB hu)
  obtain ⟨b0, b1, b2, b3, b4⟩ := box5 (heap_alloc_new w (.cells #[.int .i64 x.id, .int .i64 x.key, .int .i64 x.cost, .int .i64 x.cls, .int .i64 x.til] 95))
  have HB := Lib.hid ((Below.refl w.heap.size w).alloc (Nat.le_refl _) (.cells #[.int .i64 x.id, .int .i64 x.key, .int .i64 x.cost, .int .i64 x.cls, .int .i64 x.til] 95))
  have HA := rat_any (h.below HB.out) hl x.id
  obtain ⟨h1, h2, h3, h4⟩ := not_wrong hx
  generalize place l x.id = P at *
  obtain ⟨xi, xk, xc, xs, xt⟩ := x
  simp only at h1 h2 h3 h4 b0 b1 b2 b3 b4 HB HA
  clear h hx
  simp only [val]
  go_enter Tryz.func84, Tryz.ntmps84
  go_wp2_with (go_at_call 126; (with_reducible refine HA.mono ?_); rintro e w1 ⟨rfl, hb⟩; have HB1 := Lib.hid (HB.out.trans (hb.mono HB.out.size)); clear hb HA; obtain ⟨p, c, c1, -, -, c0⟩ := (HV.out.below HB1.out).cell)
  go_quiet (fail)
  go_wp2
  go_ret
  exact ⟨rfl, HS.out _ (HB1.out.trans ((below_drewN _ _).mono HB1.out.size))⟩

set_option maxRecDepth 100000 in
set_option maxHeartbeats 4000000 in
theorem rput_ok {B v : Nat} {room : Int} {l : List It} {w : World} (h : Qu B w v room l) (hB : B ≤ w.heap.size) (hl : l.length ≤ 1000) (x : It) (hx : ¬ wrong x) (hp : ¬ 0 ≤ place l x.id) (hr : ¬ room ≤ l.length) :
    Calls Tryz.prog 84 #[.pointer (some ⟨v, 0, none⟩), val x] w fun e w' => e = .returned (.int .i64 0) ∧ Step B w v room (l ++ [x]) w' := by
  have HV := Lib.hid h
  have HBB := Lib.hid hB
  have K := heap_alloc_new w (.cells #[.int .i64 x.id, .int .i64 x.key, .int .i64 x.cost, .int .i64 x.cls, .int .i64 x.til] 95)
  obtain ⟨b0, b1, b2, b3, b4⟩ := box5 K
  have HK := Lib.hid K
  have HB := Lib.hid ((Below.refl w.heap.size w).alloc (Nat.le_refl _) (.cells #[.int .i64 x.id, .int .i64 x.key, .int .i64 x.cost, .int .i64 x.cls, .int .i64 x.til] 95))
  have HA := rat_any (h.below HB.out) hl x.id
  obtain ⟨h1, h2, h3, h4⟩ := not_wrong hx
  generalize place l x.id = P at *
  obtain ⟨xi, xk, xc, xs, xt⟩ := x
  simp only at h1 h2 h3 h4 b0 b1 b2 b3 b4 HB HA HK
  clear h hx K
  simp only [val]
  go_enter Tryz.func84, Tryz.ntmps84
  go_wp2_with (go_at_call 126; (with_reducible refine HA.mono ?_); rintro e w1 ⟨rfl, hb⟩; have HB1 := Lib.hid (HB.out.trans (hb.mono HB.out.size)); have HK1 := Lib.hid ((hb.block _ (lt_of_heap HK.out)).trans HK.out); clear hb HA HK b0 b1 b2 b3 b4; obtain ⟨p, c, c1, lx, cn, c0⟩ := (HV.out.below HB1.out).cell; have LX := Lib.hid lx; have CN := Lib.hid cn; obtain ⟨b0, b1, b2, b3, b4⟩ := box5 HK1.out; clear lx cn)
  go_quiet (fail)
  have HB2 := Lib.hid (HB1.out.trans ((below_drewN w1 nq).mono HB1.out.size))
  have HK2 := Lib.hid (((below_drewN w1 nq).block _ (lt_of_heap HK1.out)).trans HK1.out)
  clear b0 b1 b2 b3 b4 c0 c1 LX CN HK1 HB1
  generalize w1.drewN nq = w2 at *
  have hv2 := (HV.out.below HB2.out).lt
  obtain ⟨p2, d2, c1, lx, cn, -⟩ := (HV.out.below HB2.out).cell
  have LX := Lib.hid (lx.below ((Below.refl _ _).alloc (Nat.le_refl _) (.cells #[] 95)))
  have CN := Lib.hid cn
  have HA2 := Lib.hid ((Below.refl w2.heap.size w2).alloc (Nat.le_refl _) (.cells #[] 95))
  have OM := Lib.hid (Kit.own_made (E := item) (T := 95) w2 w2.heap.size (Nat.le_refl _))
  clear lx cn
  have HS2 := Lib.hid (Step.same HV.out HBB.out HB2.out)
  go_wp2_with (first
    | (at_builtin; refine Kit.pushes laidR rfl _ _ rfl w2 _ _ rfl [] 0 rfl OM.out HA2.out (Below.refl _ _) l l.length d2 p2 rfl rfl LX.out CN.out (by omega) ?_; intro p4 c4 w4 R4 B4; clear c1; obtain ⟨b0, b1, b2, b3, b4⟩ := box5 ((B4.block _ (lt_of_heap HK2.out)).trans HK2.out); have R5 := Lib.hid (show Own item 95 w2.heap.size w4 (.slice p4 l.length c4) l from by (have := R4.out; rw [Nat.zero_add] at this; exact this)); have B5 := Lib.hid B4; clear R4 B4 OM LX CN)
    | (at_builtin; refine Kit.push laidR rfl _ _ rfl w2 w4 (.slice p4 l.length c4) rfl l l.length rfl R5.out B5.out ((Below.refl _ _).alloc (Nat.le_refl _) _) w4.heap.size ⟨xi, xk, xc, xs, xt⟩ rfl (heap_alloc_new _ _) (by omega) ?_; intro p6 c6 w6 R6 B6; obtain ⟨f0, ⟨u0, k0⟩, D⟩ := (HV.out.below HB2.out).store (Nat.le_trans HBB.out HB2.out.size) B6 R6.out; clear b0 b1 b2 b3 b4))
  go_ret
  exact ⟨rfl, HS2.out.trans D.out⟩
theorem rput_any {B v : Nat} {room : Int} {l : List It} {w : World} (h : Qu B w v room l) (hB : B ≤ w.heap.size) (hl : l.length ≤ 1000) (x : It) :
    Calls Tryz.prog 84 #[.pointer (some ⟨v, 0, none⟩), val x] w fun e w' => e = .returned (.int .i64 (put room l x).2) ∧ Step B w v room (put room l x).1 w' := by
  unfold put
  split
  · rename_i hx
    exact rput_no h hB x hx
  · rename_i hx
    split
    · rename_i hp
      exact rput_twice h hB hl x hx hp
    · rename_i hp
      split
      · rename_i hr
        exact rput_full h hB hl x hx hp hr
      · rename_i hr
        exact rput_ok h hB hl x hx hp hr
end Go.Proofs.YtlbpeeelgpjciaaGreat.Queue

namespace Go.Proofs.YtlbpeeelgpjciaaGreat.Queue
open Go.RowKit
open _root_.Go.Proofs.YtlbpeeelgpjciaaGreat.Codec (lt_of_heap frozen_of heap_set below_new)
open _root_.Go.Proofs.YtlbpeeelgpjciaaGreat.Kit (Enc Lies Own At Kept Laid cell_on lt_heap take_snoc below_drewN box5)

/-- What is kept of the first j. -/
theorem erase_at {l : List It} {i j : Nat} (h : j < l.length) (e : j = i) : (l.take (j + 1)).eraseIdx i = (l.take j).eraseIdx i := by
  subst e
  have hl : (l.take j).length = j := by simp; omega
  rw [take_snoc z h, List.eraseIdx_append_of_length_le (by omega), hl, Nat.sub_self, List.eraseIdx_of_length_le (l := l.take j) (by omega)]
  simp
theorem erase_not {l : List It} {i j : Nat} (h : j < l.length) (e : j ≠ i) : (l.take (j + 1)).eraseIdx i = (l.take j).eraseIdx i ++ [l.getD j z] := by
  have hl : (l.take j).length = j := by simp; omega
  rw [take_snoc z h]
  by_cases hij : i < j
  · rw [List.eraseIdx_append_of_lt_length (by omega)]
  · rw [List.eraseIdx_append_of_length_le (by omega), hl, List.eraseIdx_of_length_le (l := l.take j) (by omega), List.eraseIdx_of_length_le (by simp; omega)]
set_option maxRecDepth 100000 in
set_option maxHeartbeats 4000000 in
theorem rtake_no {B v : Nat} {room : Int} {l : List It} {w : World} (h : Qu B w v room l) (hB : B ≤ w.heap.size) (hl : l.length ≤ 1000) (id : Int) (hp : place l id < 0) :
    Calls Tryz.prog 78 #[.pointer (some ⟨v, 0, none⟩), .int .i64 id] w fun e w' => e = .returned (.tuple #[val z, .bool false]) ∧ Step B w v room l w' := by
  have HS := Lib.hid (fun u (hu : Below w.heap.size w u) => Step.same h hB hu)
  have HB := Lib.hid ((Below.refl w.heap.size w).alloc (Nat.le_refl _) (.cells #[.int .i64 0, .int .i64 0, .int .i64 0, .int .i64 0, .int .i64 0] 95))
  have HK := Lib.hid (heap_alloc_new w (.cells #[.int .i64 0, .int .i64 0, .int .i64 0, .int .i64 0, .int .i64 0] 95))
  have HA := rat_any (h.below HB.out) hl id
  generalize place l id = P at *
  clear h
  go_enter Tryz.func78, Tryz.ntmps78
  go_wp2_with (go_at_call 126; (with_reducible refine HA.mono ?_); rintro e w1 ⟨rfl, hb⟩; have HB1 := Lib.hid (HB.out.trans (hb.mono HB.out.size)); have hk1 := (hb.block _ (lt_of_heap HK.out)).trans HK.out; obtain ⟨b0, b1, b2, b3, b4⟩ := box5 hk1; obtain ⟨f0, f1, f2, f3, f4⟩ := Kit.frozen5 hk1; have HK1 := Lib.hid hk1; clear hb HA hk1)
  rw [show ((((w1.setCell ⟨w.heap.size, 0, none⟩ (.int .i64 0)).setCell ⟨w.heap.size, 1, none⟩ (.int .i64 0)).setCell ⟨w.heap.size, 2, none⟩ (.int .i64 0)).setCell ⟨w.heap.size, 3, none⟩ (.int .i64 0)).setCell ⟨w.heap.size, 4, none⟩ (.int .i64 0) = set5 w1 w.heap.size z from rfl]
  obtain ⟨e0, e1, e2, e3, e4⟩ := box5 (set5_block HK1.out z)
  have HB2 := Lib.hid (set5_below HB1.out (Nat.le_refl _) z)
  generalize set5 w1 w.heap.size z = w2 at *
  simp only [z] at e0 e1 e2 e3 e4
  refine bodyPost_ret (v := .tuple #[val z, .bool false]) (by simp [results, Tryz.results78, go_sem, val, z, e0, e1, e2, e3, e4]) rfl ⟨rfl, HS.out _ HB2.out⟩
set_option maxRecDepth 100000 in
set_option maxHeartbeats 4000000 in
theorem rtake_ok {B v : Nat} {room : Int} {l : List It} {w : World} (h : Qu B w v room l) (hB : B ≤ w.heap.size) (hl : l.length ≤ 1000) (id : Int) (i : Nat) (hp : place l id = (i : Int)) (hi : i < l.length) :
    Calls Tryz.prog 78 #[.pointer (some ⟨v, 0, none⟩), .int .i64 id] w fun e w' => e = .returned (.tuple #[val (l.getD i z), .bool true]) ∧ Step B w v room (l.eraseIdx i) w' := by
  have HV := Lib.hid h
  have HBB := Lib.hid hB
  have HB := Lib.hid ((Below.refl w.heap.size w).alloc (Nat.le_refl _) (.cells #[.int .i64 0, .int .i64 0, .int .i64 0, .int .i64 0, .int .i64 0] 95))
  have HK := Lib.hid (heap_alloc_new w (.cells #[.int .i64 0, .int .i64 0, .int .i64 0, .int .i64 0, .int .i64 0] 95))
  have HA := rat_any (h.below HB.out) hl id
  rw [hp] at HA
  have hi' : (i : Int) < (l.length : Int) := by omega
  have hvw := h.lt
  have HAT := Lib.hid (fun (u : World) (p : Option Addr) (hr : Lies item u p l) => lies_at hr hi)
  generalize l.getD i z = X at HAT ⊢
  obtain ⟨Xi, Xk, Xc, Xs, Xt⟩ := X
  clear h hp hB
  go_enter Tryz.func78, Tryz.ntmps78
  go_wp2_with (go_at_call 126; (with_reducible refine HA.mono ?_); rintro e w1 ⟨rfl, hb⟩; have HB1 := Lib.hid (HB.out.trans (hb.mono HB.out.size)); have HK1 := Lib.hid ((hb.block _ (lt_of_heap HK.out)).trans HK.out); obtain ⟨p, c, c1, hr, -, -⟩ := (HV.out.below HB1.out).cell; have HR := Lib.hid hr; obtain ⟨b, o, rfl, hat⟩ := HAT.out _ _ hr; obtain ⟨k0, k1, k2, k3, k4⟩ := at5 hat; clear hb HA hr hat)
  have HK2 := Lib.hid (heap_alloc_new w1 (.cells #[.int .i64 Xi, .int .i64 Xk, .int .i64 Xc, .int .i64 Xs, .int .i64 Xt] 95))
  have hb2 := (Below.refl w1.heap.size w1).alloc (Nat.le_refl _) (.cells #[.int .i64 Xi, .int .i64 Xk, .int .i64 Xc, .int .i64 Xs, .int .i64 Xt] 95)
  have hw1 := lt_of_heap HK1.out
  have hw2 := lt_of_heap HK2.out
  have HKR := Lib.hid ((hb2.block _ hw1).trans HK1.out)
  have HB2 := Lib.hid (HB1.out.trans (hb2.mono HB1.out.size))
  generalize w1.alloc (.cells #[.int .i64 Xi, .int .i64 Xk, .int .i64 Xc, .int .i64 Xs, .int .i64 Xt] 95) = w2 at *
  have ne1 : ¬ (v = w1.heap.size) := by omega
  have ne2 : ¬ (w1.heap.size = v) := by omega
  have ne3 : ¬ (v = w.heap.size) := by omega
  have ne4 : ¬ (w.heap.size = v) := by omega
  have ne5 : ¬ (w.heap.size = w1.heap.size) := by omega
  have ne6 : ¬ (w1.heap.size = w.heap.size) := by omega
  clear k0 k1 k2 k3 k4 c1 HR hb2 HK HB
  go_loopw [8, 9] (fun y k wr => ∃ (j : Nat) (p : Option Addr) (c n : Nat), j ≤ l.length ∧ k = .int .i64 (j : Int) ∧ y = .slice p n c ∧ Hid (Own item 95 w2.heap.size wr y ((l.take j).eraseIdx i)) ∧ Hid (((l.take j).eraseIdx i).length = n) ∧ Below w2.heap.size w2 wr) (fun _ k _ => l.length - (intOf k).toNat)
  case atStart => exact ⟨0, none, 0, 0, by omega, rfl, rfl, Own.none _ _ _ _, Lib.hid (by simp), Below.refl _ _⟩
  case round =>
    obtain ⟨j, p, c, n, hj, rfl, rfl, hown, hn, hbw⟩ := hrel
    obtain ⟨q, cq, c1, hr, -, -⟩ := ((HV.out.below HB2.out).below hbw).cell
    have HR := Lib.hid hr
    have HBW := Lib.hid hbw
    clear hr hbw
    by_cases hlt : j < l.length
    · obtain ⟨b', o', rfl, hat⟩ := lies_at HR.out hlt
      obtain ⟨k0, k1, k2, k3, k4⟩ := at5 hat
      have hlt' : (j : Int) < (l.length : Int) := by omega
      clear hat
      by_cases hk : j = i
      · have HE := Lib.hid (erase_at hlt hk)
        have hk' : ((j : Int) != (i : Int)) = false := by simp [hk]
        clear k0 k1 k2 k3 k4 HR hk
        go_wp2
        go_roundw
        case rel => exact ⟨j + 1, p, c, n, by omega, by go_num, rfl, by rw [HE.out]; exact hown, by rw [HE.out]; exact hn, HBW.out⟩
        case measure => simp only [intOf]; omega
      · have HE := Lib.hid (erase_not hlt hk)
        have hk' : ((j : Int) != (i : Int)) = true := by simp; omega
        have hn1 : ((l.take j).eraseIdx i).length ≤ 1000 := Nat.le_trans (List.eraseIdx_sublist _ _).length_le (by simp; omega)
        have hn2 : n ≤ 1000 := hn.out ▸ hn1
        clear hn1
        generalize l.getD j z = x at k0 k1 k2 k3 k4 HE
        generalize (l.take j).eraseIdx i = L at *
        obtain ⟨xi, xk, xc, xs, xt⟩ := x
        simp only at k0 k1 k2 k3 k4
        clear HR hk
        go_wp2_with (at_builtin; refine Kit.push laidR rfl _ _ rfl w2 wr (.slice p n c) rfl L n hn.out hown.out HBW.out ((Below.refl _ _).alloc (Nat.le_refl _) _) wr.heap.size ⟨xi, xk, xc, xs, xt⟩ rfl (heap_alloc_new _ _) (by omega) ?_; intro p4 c4 w4 R4 B4)
        go_roundw
        case rel => exact ⟨j + 1, p4, c4, n + 1, by omega, by go_num, rfl, by rw [HE.out]; exact R4, Lib.hid (by rw [HE.out]; simp [hn.out]), B4⟩
        case measure => simp only [intOf]; omega
    · have hlt' : ¬ (j : Int) < (l.length : Int) := by omega
      have HO := Lib.hid (show Own item 95 w2.heap.size wr (.slice p n c) (l.eraseIdx i) by have := hown.out; rwa [List.take_of_length_le (by omega)] at this)
      obtain ⟨f0, -, -⟩ := (HV.out.below HB2.out).store (Nat.le_trans HBB.out HB2.out.size) HBW.out HO.out
      have hkx := (HBW.out.block _ hw2).trans HK2.out
      obtain ⟨x0, x1, x2, x3, x4⟩ := box5 hkx
      have hkr := (HBW.out.block _ (Nat.lt_trans hw1 hw2)).trans HKR.out
      have HR2 := Lib.hid ((Below.heap_setCell wr ⟨v, 1, none⟩ (.slice p n c) _ ne4).trans hkr)
      obtain ⟨b0, b1, b2, b3, b4⟩ := box5 hkr
      obtain ⟨g0, g1, g2, g3, g4⟩ := Kit.frozen5 hkr
      have DD := Lib.hid (HV.out.store5 HBB.out (HB2.out.trans (HBW.out.mono HB2.out.size)) (Nat.le_refl w.heap.size) (Nat.lt_trans hw1 hw2) HO.out ⟨Xi, Xk, Xc, Xs, Xt⟩)
      clear HR hown hn HO hkx hkr
      go_wp2
      rw [show (((((wr.setCell ⟨v, 1, none⟩ (.slice p n c)).setCell ⟨w.heap.size, 0, none⟩ (.int .i64 Xi)).setCell ⟨w.heap.size, 1, none⟩ (.int .i64 Xk)).setCell ⟨w.heap.size, 2, none⟩ (.int .i64 Xc)).setCell ⟨w.heap.size, 3, none⟩ (.int .i64 Xs)).setCell ⟨w.heap.size, 4, none⟩ (.int .i64 Xt) = set5 (wr.setCell ⟨v, 1, none⟩ (.slice p n c)) w.heap.size ⟨Xi, Xk, Xc, Xs, Xt⟩ from rfl]
      obtain ⟨e0, e1, e2, e3, e4⟩ := box5 (set5_block HR2.out ⟨Xi, Xk, Xc, Xs, Xt⟩)
      generalize set5 (wr.setCell ⟨v, 1, none⟩ (.slice p n c)) w.heap.size ⟨Xi, Xk, Xc, Xs, Xt⟩ = w5 at *
      refine bodyPost_ret (v := .tuple #[val ⟨Xi, Xk, Xc, Xs, Xt⟩, .bool true]) (by simp [results, Tryz.results78, go_sem, val, e0, e1, e2, e3, e4]) rfl ⟨rfl, DD.out⟩
theorem rtake_any {B v : Nat} {room : Int} {l : List It} {w : World} (h : Qu B w v room l) (hB : B ≤ w.heap.size) (hl : l.length ≤ 1000) (id : Int) :
    Calls Tryz.prog 78 #[.pointer (some ⟨v, 0, none⟩), .int .i64 id] w fun e w' => e = .returned (.tuple #[val (take l id).2.1, .bool (take l id).2.2]) ∧ Step B w v room (take l id).1 w' := by
  unfold take
  split
  · rename_i hp
    exact rtake_no h hB hl id hp
  · rename_i hp
    obtain ⟨h1, h2, h3⟩ := place_some (l := l) (k := id) (by omega)
    exact rtake_ok h hB hl id (place l id).toNat (by omega) h1
end Go.Proofs.YtlbpeeelgpjciaaGreat.Queue

namespace Go.Proofs.YtlbpeeelgpjciaaGreat.Queue
open Go.RowKit
open _root_.Go.Proofs.YtlbpeeelgpjciaaGreat.Codec (lt_of_heap frozen_of heap_set below_new)
open _root_.Go.Proofs.YtlbpeeelgpjciaaGreat.Kit (Enc Lies Own At Kept Laid Two cell_on lt_heap take_snoc below_drewN box5)

set_option maxRecDepth 100000 in
set_option maxHeartbeats 4000000 in
theorem rexpire_any {B v : Nat} {room : Int} {l : List It} {w : World} (h : Qu B w v room l) (hB : B ≤ w.heap.size) (hl : l.length ≤ 1000) (now : Int) :
    Calls Tryz.prog 76 #[.pointer (some ⟨v, 0, none⟩), .int .i64 now] w fun e w' => ∃ p c, e = .returned (.slice p (expire l now).2.length c) ∧ Lies item w' p (expire l now).2 ∧ Step B w v room (expire l now).1 w' := by
  have HV := Lib.hid h
  have HBB := Lib.hid hB
  have HE1 := Lib.hid (show (expire l now).1 = l.filter (fun x => !due now x) from rfl)
  have HE2 := Lib.hid (show (expire l now).2 = l.filter (due now) from rfl)
  have HD := Lib.hid (show due now = fun x => decide (x.til ≤ now) from rfl)
  generalize (expire l now).1 = R1 at *
  generalize (expire l now).2 = R2 at *
  generalize due now = D at *
  clear h hB
  go_enter Tryz.func76, Tryz.ntmps76
  go_wp2
  go_loopw [5, 6, 7] (fun y1 y2 k wr => ∃ (j : Nat) (p1 p2 : Option Addr) (d1 d2 n1 n2 : Nat), j ≤ l.length ∧ k = .int .i64 (j : Int) ∧ y1 = .slice p1 n1 d1 ∧ y2 = .slice p2 n2 d2 ∧ Hid (Two item 95 w.heap.size wr y1 y2 ((l.take j).filter D) ((l.take j).filter fun x => !D x)) ∧ Hid (((l.take j).filter D).length = n1 ∧ ((l.take j).filter fun x => !D x).length = n2) ∧ Hid (Below w.heap.size w wr)) (fun _ _ k _ => l.length - (intOf k).toNat)
  case atStart => exact ⟨0, none, none, 0, 0, 0, 0, by omega, rfl, rfl, rfl, Lib.hid (Two.none _ _ _ _), Lib.hid ⟨rfl, rfl⟩, Lib.hid (Below.refl _ _)⟩
  case round =>
    obtain ⟨j, p1, p2, d1, d2, n1, n2, hj, rfl, rfl, rfl, HT, HN, HB⟩ := hrel
    obtain ⟨q, cq, c1, hr, -⟩ := (HV.out.below HB.out).cell
    by_cases hlj : j < l.length
    · have hlj' : (j : Int) < (l.length : Int) := by omega
      obtain ⟨b, o, rfl, hat⟩ := lies_at hr hlj
      obtain ⟨k0, k1, k2, k3, k4⟩ := at5 hat
      have hn1 : n1 ≤ 1000 := by
        rw [← HN.out.1]
        exact Nat.le_trans (List.length_filter_le _ _) (by simp; omega)
      have hn2 : n2 ≤ 1000 := by
        rw [← HN.out.2]
        exact Nat.le_trans (List.length_filter_le _ _) (by simp; omega)
      have HY := Lib.hid (filter_yes (f := D) hlj)
      have HO := Lib.hid (filter_no (f := D) hlj)
      have HY2 := Lib.hid (filter_yes (f := fun x => !D x) hlj)
      have HO2 := Lib.hid (filter_no (f := fun x => !D x) hlj)
      have hdec : D (l.getD j z) = decide ((l.getD j z).til ≤ now) := by rw [HD.out]
      generalize l.getD j z = x at *
      generalize (l.take j).filter D = F1 at *
      generalize (l.take j).filter (fun x => !D x) = F2 at *
      clear hr hat
      obtain ⟨xi, xk, xc, xs, xt⟩ := x
      simp only at k0 k1 k2 k3 k4 hdec
      by_cases hx : xt ≤ now
      · have hd : D ⟨xi, xk, xc, xs, xt⟩ = true := by rw [hdec]; simp [hx]
        have E1 := Lib.hid (HY.out hd)
        have E2 := Lib.hid (HO2.out (by simp [hd]))
        clear hdec hd HY HO HY2 HO2
        go_wp2_with (at_builtin; refine Kit.push2 laidR rfl _ _ rfl w wr (.slice p1 n1 d1) (.slice p2 n2 d2) rfl F1 F2 n1 HN.out.1 HT.out HB.out ((Below.refl _ _).alloc (Nat.le_refl _) _) wr.heap.size ⟨xi, xk, xc, xs, xt⟩ rfl (heap_alloc_new _ _) (by omega) ?_; intro p4 c4 w4 R4 B4)
        go_roundw
        case rel => exact ⟨j + 1, p4, p2, c4, d2, n1 + 1, n2, by omega, by go_num, rfl, rfl, by rw [E1.out, E2.out]; exact R4, Lib.hid ⟨by rw [E1.out, List.length_append, HN.out.1]; rfl, by rw [E2.out]; exact HN.out.2⟩, Lib.hid B4⟩
        case measure => simp only [intOf]; omega
      · have hd : D ⟨xi, xk, xc, xs, xt⟩ = false := by rw [hdec]; simp; omega
        have E1 := Lib.hid (HO.out hd)
        have E2 := Lib.hid (HY2.out (by simp [hd]))
        clear hdec hd HY HO HY2 HO2
        go_wp2_with (at_builtin; refine Kit.push2 laidR rfl _ _ rfl w wr (.slice p2 n2 d2) (.slice p1 n1 d1) rfl F2 F1 n2 HN.out.2 HT.out.swap HB.out ((Below.refl _ _).alloc (Nat.le_refl _) _) wr.heap.size ⟨xi, xk, xc, xs, xt⟩ rfl (heap_alloc_new _ _) (by omega) ?_; intro p4 c4 w4 R4 B4)
        go_roundw
        case rel => exact ⟨j + 1, p1, p4, d1, c4, n1, n2 + 1, by omega, by go_num, rfl, rfl, by rw [E1.out, E2.out]; exact R4.swap, Lib.hid ⟨by rw [E1.out]; exact HN.out.1, by rw [E2.out, List.length_append, HN.out.2]; rfl⟩, Lib.hid B4⟩
        case measure => simp only [intOf]; omega
    · have hlj' : ¬ (j : Int) < (l.length : Int) := by omega
      rw [List.take_of_length_le (by omega), ← HE1.out, ← HE2.out] at HT HN
      obtain ⟨hn1, hn2⟩ := HN.out
      subst hn1
      have hown := HT.out.o1
      obtain ⟨f0, ⟨u0, k0⟩, DD⟩ := HV.out.store HBB.out HB.out HT.out.o2
      have HF := Lib.hid (fun u => Kit.Own.set (o := 1) (u := u) hown HV.out.lt)
      clear hr hown hn2
      go_wp2
      obtain ⟨q', d', hq, hlies⟩ := (HF.out _).lies
      simp only [Value.slice.injEq] at hq
      obtain ⟨rfl, -, rfl⟩ := hq
      have HQ := Lib.hid hlies
      clear hlies
      refine bodyPost_ret (v := .slice p1 R2.length d1) (by simp [results, Tryz.results76, go_sem]) rfl ⟨p1, ⟨d1, rfl⟩, HQ.out, DD.out⟩
end Go.Proofs.YtlbpeeelgpjciaaGreat.Queue
