/-
  The program's Of, keep, Note and Want, of any estimates behind up to 200 notes, and of none; any key, any numbers.
  A step of the program's estimates, and what it leaves alone: all blocks but its own.
  The program's Of, keep, Note and Want, of any estimates behind up to 200 notes, and of none; any key, any numbers.
-/
import Derived.Lib.MinMax
import Derived.Test.YtbgdlokegibkmaaGreatMmAi
import Derived.Test.YtbgdlokegibkmaaGreatMmAb
namespace Go.Proofs.YtbgdlokegibkmaaGreat.Demand
open Go.RowKit Go.Maps
open _root_.Go.Proofs.YtbgdlokegibkmaaGreat.Codec (lt_of_heap frozen_of heap_set)
open _root_.Go.Proofs.YtbgdlokegibkmaaGreat.Kit (Kept Off cell_on)
open _root_.Go.Proofs.YtbgdlokegibkmaaGreat.Sat (fit add fit_lo fit_hi)
set_option maxRecDepth 100000 in
theorem pof_any {B q : Nat} {w : World} {l : List Nt} (h : Pm B w q l) {k : Int} (hk : Num k) :
    Calls Tryz.prog 191 #[.pointer (some ⟨q, 0, none⟩), .int .i64 k] w fun e w' => e = .returned (.int .i64 (of l k)) ∧ Below w.heap.size w w' := by
  obtain ⟨m, hc, _, hm⟩ := h.cell
  have hl := hm.get hk
  generalize of l k = R at *
  clear h hm
  go_enter Tryz.func191, Tryz.ntmps191
  go_wp2
  go_ret
  exact ⟨rfl, Below.refl _ _⟩
theorem Moved.lift {PW : Pw} {B q : Nat} {w u w' : World} {l : List Nt} (hB : B ≤ w.heap.size) (hb : Below w.heap.size w u) (h : Moved PW B u q l w') : Moved PW B w q l w' :=
  ⟨h.pw, (Off.of_below hb).trans h.off, (hb.mono hB).trans h.below⟩
set_option maxRecDepth 100000 in
set_option maxHeartbeats 1000000 in
theorem want_core (v : Value) (k e qd most : Int) (w : World) (c1 : Calls Tryz.prog 191 #[v, .int .i64 k] w fun e' w' => e' = .returned (.int .i64 e) ∧ Below w.heap.size w w') :
    Calls Tryz.prog 199 #[v, .int .i64 k, .int .i64 qd, .int .i64 most] w fun e' w' => e' = .returned (.int .i64 (want e qd most)) ∧ Below w.heap.size w w' := by
  have c2 := fun u => _root_.Go.Proofs.YtbgdlokegibkmaaGreat.Sat.add2 e qd u _ rfl
  have c3 := fun u => _root_.Go.Proofs.YtbgdlokegibkmaaGreat.Sat.fit_any most u
  have HX := Lib.hid (show min (add [e, qd]) (fit most) = want e qd most from rfl)
  generalize want e qd most = R at *
  generalize add [e, qd] = a at *
  generalize fit most = b at *
  go_enter Tryz.func199, Tryz.ntmps199
  go_wp2_with (first
    | (go_at_call 100; (with_reducible refine (c3 _).mono ?_); rintro e1 w1 ⟨rfl, rfl⟩)
    | (go_at_call 191; (with_reducible refine c1.mono ?_); rintro e1 w2 ⟨rfl, hb⟩; have HB2 := Lib.hid hb; clear hb c1)
    | (go_at_call 88; (with_reducible refine (c2 _).mono ?_); rintro e1 w3 ⟨rfl, rfl⟩))
  go_ret
  exact ⟨by simp; exact HX.out, HB2.out.alloc HB2.out.size _⟩
theorem pwant_any {B q : Nat} {w : World} {l : List Nt} (h : Pm B w q l) {k : Int} (hk : Num k) (qd most : Int) :
    Calls Tryz.prog 199 #[.pointer (some ⟨q, 0, none⟩), .int .i64 k, .int .i64 qd, .int .i64 most] w fun e' w' => e' = .returned (.int .i64 (want (of l k) qd most)) ∧ Below w.heap.size w w' :=
  want_core _ k _ qd most w (pof_any h hk)
end Go.Proofs.YtbgdlokegibkmaaGreat.Demand

namespace Go.Proofs.YtbgdlokegibkmaaGreat.DemandF
open _root_.Go.Proofs.YtbgdlokegibkmaaGreat.Demand
open Go.RowKit Go.Maps
open _root_.Go.Proofs.YtbgdlokegibkmaaGreat.Codec (lt_of_heap frozen_of heap_set)
/-- Where the map is, before a step: no other block but the object's, and the map's, turns. -/
structure Turns (B : Nat) (w : World) (q : Nat) (l : List Nt) (w' : World) : Prop where
  moved : Moved Pm B w q l w'
  rest : ∀ g, g < w.heap.size → g ≠ q → w.cell? ⟨q, 0, none⟩ ≠ some (.map (some g)) → w'.heap[g]? = w.heap[g]?
  fresh : ∀ b, w'.cell? ⟨q, 0, none⟩ = some (.map (some b)) → w.cell? ⟨q, 0, none⟩ = some (.map (some b)) ∨ w.heap.size ≤ b
section
variable {B q : Nat} {w w' : World} {l : List Nt}
theorem turnedr {u v : World} {m : Option Nat} {l' : List Nt} (h : Pm B w q l) (hB : B ≤ w.heap.size) (hc : w.cell? ⟨q, 0, none⟩ = some (.map m)) (hu : Below w.heap.size w u) (hm : Mw B w m l) (hv : u.grownBy v m) (hl : Mw B v m l') (hw : Below v.heap.size v w') : Turns B w q l' w' :=
  ⟨h.turned hB hc hu hm hv hl hw, fun g hg _ hne => (hw.block g (Nat.lt_of_lt_of_le (Nat.lt_of_lt_of_le hg hu.size) hv.size)).trans ((hv.block g (Nat.lt_of_lt_of_le hg hu.size) fun e => hne (by rw [hc, e])).trans (hu.block g hg)), fun b e => .inl (by
    obtain ⟨_, m', h1, _⟩ := h
    have hq : q < w.heap.size := lt_of_heap h1
    have hm' : some q ≠ m := fun e2 => by
      rcases hm with ⟨rfl, _⟩ | ⟨b2, D, rfl, _, ho, _⟩
      · cases e2
      · cases e2
        obtain ⟨es, clock, hb2, _⟩ := ho
        rw [hb2] at h1
        cases h1
    rwa [World.cell?_of_block (a := ⟨q, 0, none⟩) ((hw.block q (Nat.lt_of_lt_of_le (Nat.lt_of_lt_of_le hq hu.size) hv.size)).trans ((hv.block q (Nat.lt_of_lt_of_le hq hu.size) hm').trans (hu.block q hq)))] at e)⟩
theorem firstr {u v : World} {l' : List Nt} (h : Pm B w q l) (hB : B ≤ w.heap.size) (hu : Below w.heap.size w u) (hv : ((u.setCell ⟨q, 0, none⟩ (.map (some u.heap.size))).alloc (.map #[] 0)).grownBy v (some u.heap.size)) (hl : Mw B v (some u.heap.size) l') : Turns B w q l' v := by
  have hq := h.lt
  have es : (u.setCell ⟨q, 0, none⟩ (.map (some u.heap.size))).heap.size = u.heap.size := by simp
  refine ⟨h.first hB hu hv hl, fun g hg hne _ => ?_, fun b e => .inr ?_⟩
  · have hgu := Nat.lt_of_lt_of_le hg hu.size
    refine (hv.block g (by simp; omega) (fun e => by cases e; omega)).trans ?_
    refine (((Below.refl _ _).alloc (Nat.le_refl _) _).block g (by rw [es]; exact hgu)).trans ?_
    exact (Below.heap_setCell _ _ _ _ hne).trans (hu.block g hg)
  · have hqu := Nat.lt_of_lt_of_le hq hu.size
    have e1 : v.heap[q]? = (u.setCell ⟨q, 0, none⟩ (.map (some u.heap.size))).heap[q]? :=
      (hv.block q (by simp; omega) (fun e => by cases e; omega)).trans (((Below.refl _ _).alloc (Nat.le_refl _) _).block q (by rw [es]; exact hqu))
    obtain ⟨_, m', h1, _⟩ := h
    rw [heap_set q 0 _ _ ((hu.block q hq).trans h1)] at e1
    rw [cell_of_row v q 0 _ _ (0, 0) e1] at e
    simp at e
    have := hu.size
    omega
theorem Turns.lift {u : World} (hB : B ≤ w.heap.size) (hq : q < w.heap.size) (hb : Below w.heap.size w u) (h : Turns B u q l w') : Turns B w q l w' :=
  ⟨Moved.lift hB hb h.moved, fun g hg hn hm => (h.rest g (Nat.lt_of_lt_of_le hg hb.size) hn (by rw [hb.cell (p := ⟨q, 0, none⟩) hq]; exact hm)).trans (hb.block g hg), fun b e => (h.fresh b e).imp (fun e2 => by rwa [hb.cell (p := ⟨q, 0, none⟩) hq] at e2) (Nat.le_trans hb.size)⟩
end
end Go.Proofs.YtbgdlokegibkmaaGreat.DemandF

namespace Go.Proofs.YtbgdlokegibkmaaGreat.DemandF
open _root_.Go.Proofs.YtbgdlokegibkmaaGreat.Demand
open Go.RowKit Go.Maps
open _root_.Go.Proofs.YtbgdlokegibkmaaGreat.Codec (lt_of_heap frozen_of heap_set)
open _root_.Go.Proofs.YtbgdlokegibkmaaGreat.Kit (Kept Off cell_on)
open _root_.Go.Proofs.YtbgdlokegibkmaaGreat.Sat (fit add fit_lo fit_hi)
theorem map_some (b : Nat) (w : World) : (binOp BinOp.eql 198 (.map (some b)) (.map none)).run Tryz.prog w = .ok (.bool false) w := by kernel_rfl
theorem map_none (w : World) : (binOp BinOp.eql 198 (.map none) (.map none)).run Tryz.prog w = .ok (.bool true) w := by kernel_rfl
set_option maxRecDepth 100000 in
theorem pof_any {B q : Nat} {w : World} {l : List Nt} (h : Pm B w q l) {k : Int} (hk : Num k) :
    Calls Tryz.prog 191 #[.pointer (some ⟨q, 0, none⟩), .int .i64 k] w fun e w' => e = .returned (.int .i64 (of l k)) ∧ Below w.heap.size w w' := by
  obtain ⟨m, hc, _, hm⟩ := h.cell
  have hl := hm.get hk
  generalize of l k = R at *
  clear h hm
  go_enter Tryz.func191, Tryz.ntmps191
  go_wp2
  go_ret
  exact ⟨rfl, Below.refl _ _⟩
set_option maxRecDepth 100000 in
theorem keep_zero {B q : Nat} {w : World} {l : List Nt} (hB : B ≤ w.heap.size) (h : Pm B w q l) {k s : Int} (hk : Num k) (h0 : of (l ++ [⟨k, s⟩]) k = 0) :
    Calls Tryz.prog 192 #[.pointer (some ⟨q, 0, none⟩), .int .i64 k, .int .i64 0] w fun e w' => (∃ v, e = .returned v) ∧ Turns B w q (l ++ [⟨k, s⟩]) w' := by
  obtain ⟨m, hc, _, hm⟩ := h.cell
  have HT := Lib.hid (fun v l' (hv : w.grownBy v m) (hl : Mw B v m l') => turnedr h hB hc (Below.refl _ _) hm hv hl (Below.refl _ _))
  have HM := Lib.hid hm
  clear h hm
  go_enter Tryz.func192, Tryz.ntmps192
  go_wp2_with (at_delete; refine step_cut rfl _ _ rfl (mp := m) rfl HM.out hk h0 rfl ?_; intro v hv hgv)
  refine bodyPost_ret (results_none rfl _ _ _) rfl ?_
  exact ⟨⟨_, rfl⟩, HT.out _ _ hgv hv⟩
set_option maxRecDepth 100000 in
theorem keep_more {B q b : Nat} {w : World} {l : List Nt} (hB : B ≤ w.heap.size) (h : Pm B w q l) (hc : w.cell? ⟨q, 0, none⟩ = some (.map (some b))) {k s : Int} (hk : Num k) (hlen : l.length ≤ 800) (h0 : of (l ++ [⟨k, s⟩]) k ≠ 0) :
    Calls Tryz.prog 192 #[.pointer (some ⟨q, 0, none⟩), .int .i64 k, .int .i64 (of (l ++ [⟨k, s⟩]) k)] w fun e w' => (∃ v, e = .returned v) ∧ Turns B w q (l ++ [⟨k, s⟩]) w' := by
  obtain ⟨m, hc', _, hm⟩ := h.cell
  obtain rfl : m = some b := by
    rw [hc] at hc'
    simpa using hc'.symm
  clear hc'
  have HT := Lib.hid (fun v l' (hv : w.grownBy v (some b)) (hl : Mw B v (some b) l') => turnedr h hB hc (Below.refl _ _) hm hv hl (Below.refl _ _))
  obtain ⟨v, hrun, hv, hgv⟩ := hm.put (by have := keys_len l; unfold maxLen; omega) hk h0
  have he := map_some b
  have hne : (of (l ++ [⟨k, s⟩]) k == 0) = false := by simpa using h0
  generalize of (l ++ [⟨k, s⟩]) k = R at *
  clear h hm h0
  go_enter Tryz.func192, Tryz.ntmps192
  go_wp2
  go_end0
  exact ⟨⟨_, rfl⟩, HT.out _ _ hgv hv⟩
set_option maxRecDepth 100000 in
theorem keep_first {B q : Nat} {w : World} {l : List Nt} (hB : B ≤ w.heap.size) (h : Pm B w q l) (hc : w.cell? ⟨q, 0, none⟩ = some (.map none)) (hl : keys l = []) {k s : Int} (hk : Num k) (hlen : l.length ≤ 800) (h0 : of (l ++ [⟨k, s⟩]) k ≠ 0) :
    Calls Tryz.prog 192 #[.pointer (some ⟨q, 0, none⟩), .int .i64 k, .int .i64 (of (l ++ [⟨k, s⟩]) k)] w fun e w' => (∃ v, e = .returned v) ∧ Turns B w q (l ++ [⟨k, s⟩]) w' := by
  obtain ⟨m, hc', hf, hm⟩ := h.cell
  obtain rfl : m = none := by
    rw [hc] at hc'
    simpa using hc'.symm
  clear hc'
  have hq := h.lt
  have HT := Lib.hid (fun v l' hv (hl : Mw B v (some w.heap.size) l') => firstr h hB (Below.refl _ _) hv hl)
  obtain ⟨v, hrun, hv, hgv⟩ := (first_made (q := q) w hB hl).put (by have := keys_len l; unfold maxLen; omega) hk h0
  have he := map_none
  have hmm := @run_makeMap Tryz.prog
  have hne : (of (l ++ [⟨k, s⟩]) k == 0) = false := by simpa using h0
  generalize of (l ++ [⟨k, s⟩]) k = R at *
  clear h hm h0
  go_enter Tryz.func192, Tryz.ntmps192
  go_wp2
  go_end0
  exact ⟨⟨_, rfl⟩, HT.out _ _ hgv hv⟩
theorem keep_any {B q : Nat} {w : World} {l : List Nt} (h : Pm B w q l) (hB : B ≤ w.heap.size) (hlen : l.length ≤ 800) {k s : Int} (hk : Num k) :
    Calls Tryz.prog 192 #[.pointer (some ⟨q, 0, none⟩), .int .i64 k, .int .i64 (of (l ++ [⟨k, s⟩]) k)] w fun e w' => (∃ v, e = .returned v) ∧ Turns B w q (l ++ [⟨k, s⟩]) w' := by
  by_cases h0 : of (l ++ [⟨k, s⟩]) k = 0
  · have := keep_zero hB h hk h0
    rwa [← h0] at this
  · obtain ⟨m, hc, -, hm⟩ := h.cell
    rcases hm with ⟨rfl, he⟩ | ⟨b, D, rfl, -⟩
    · exact keep_first hB h hc he hk hlen h0
    · exact keep_more hB h hc hk hlen h0
set_option maxRecDepth 100000 in
set_option maxHeartbeats 1000000 in
theorem pnote_any {B q : Nat} {w : World} {l : List Nt} (h : Pm B w q l) (hB : B ≤ w.heap.size) (hlen : l.length ≤ 800) {k s : Int} (hk : Num k) :
    Calls Tryz.prog 152 #[.pointer (some ⟨q, 0, none⟩), .int .i64 k, .int .i64 s] w fun e w' => e = .returned (.int .i64 (of (l ++ [⟨k, s⟩]) k)) ∧ Turns B w q (l ++ [⟨k, s⟩]) w' := by
  have c1 := fun u => _root_.Go.Proofs.YtbgdlokegibkmaaGreat.Sat.fit_any s u
  have c2 := fun u (hu : Below w.heap.size w u) => pof_any (h.below hu) hk
  have c3 := fun u (hu : Below w.heap.size w u) => (keep_any (h.below hu) (Nat.le_trans hB hu.size) hlen (k := k) (s := s) hk).mono fun e w' ⟨he, hm⟩ => And.intro he (Turns.lift hB h.lt hu hm)
  simp only [of_same l k s] at c3 ⊢
  have n0 := of_num l k
  generalize of l k = e at *
  generalize fit s = f at *
  have HB := Lib.hid (Below.refl w.heap.size w)
  clear h
  go_enter Tryz.func152, Tryz.ntmps152
  go_wp2_with (first
    | (go_at_call 100; (with_reducible refine (c1 _).mono ?_); rintro e1 w1 ⟨rfl, rfl⟩)
    | (go_at_call 191; (with_reducible refine (c2 _ HB.out).mono ?_); rintro e1 w2 ⟨rfl, hb⟩; have HB2 := Lib.hid hb; clear hb c2)
    | (go_at_call 192; (with_reducible refine (c3 _ HB2.out).mono ?_); rintro e1 w3 ⟨⟨v3, rfl⟩, hm⟩; have HM := Lib.hid hm; clear hm c3))
  go_ret
  exact ⟨rfl, HM.out⟩
end Go.Proofs.YtbgdlokegibkmaaGreat.DemandF
