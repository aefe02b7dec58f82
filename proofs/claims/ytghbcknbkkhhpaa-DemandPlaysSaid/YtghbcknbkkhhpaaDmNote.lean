/-
  The program's Of, keep, Note and Want, of any estimates behind up to 200 notes, and of none; any key, any numbers.
-/
import Derived.Test.YtghbcknbkkhhpaaDmMem
import Derived.Test.YtghbcknbkkhhpaaSatWalks
import Derived.Lib.MinMax
namespace Go.Proofs.Ytghbcknbkkhhpaa.Demand
open Go.RowKit Go.Maps
open _root_.Go.Proofs.Ytghbcknbkkhhpaa.Codec (lt_of_heap frozen_of heap_set below_new)
open _root_.Go.Proofs.Ytghbcknbkkhhpaa.Kit (Kept Off cell_on)
open _root_.Go.Proofs.Ytghbcknbkkhhpaa.Sat (fit add fit_lo fit_hi)

theorem turn_cell {B : Nat} {u v : World} {m : Option Nat} {l : List Nt} {g : Nat} {cs : Array Value} {t : TypeId} {zz : Nat × Nat} (hg : u.grownBy v m) (hm : Mw B u m l) (h : u.heap[g]? = some (Obj.cells cs t zz)) : v.heap[g]? = some (Obj.cells cs t zz) := by
  refine (hg.block g (Codec.lt_of_heap h) fun e => ?_).trans h
  obtain ⟨es, clock, hb⟩ := Mw.map_at (e ▸ hm)
  rw [hb] at h
  cases h
theorem map_some (b : Nat) (w : World) : (binOp BinOp.eql 40 (.map (some b)) (.map none)).run Try.prog w = .ok (.bool false) w := by kernel_rfl
theorem map_none (w : World) : (binOp BinOp.eql 40 (.map none) (.map none)).run Try.prog w = .ok (.bool true) w := by kernel_rfl
set_option maxRecDepth 100000 in
theorem pof_any {B q : Nat} {w : World} {l : List Nt} (h : Pm B w q l) {k : Int} (hk : Num k) :
    Calls Try.prog 9 #[.pointer (some ⟨q, 0, none⟩), .int .i64 k] w fun e w' => e = .returned (.int .i64 (of l k)) ∧ Below w.heap.size w w' := by
  obtain ⟨m, hc, _, hm⟩ := h.cell
  have hl := hm.get hk
  generalize of l k = R at *
  clear h hm
  go_enter Try.func9, Try.ntmps9
  go_wp2
  go_ret
  exact ⟨rfl, Below.refl _ _⟩
set_option maxRecDepth 100000 in
theorem nof_any (k : Int) (w : World) : Calls Try.prog 9 #[.pointer none, .int .i64 k] w fun e w' => e = .returned (.int .i64 0) ∧ Below w.heap.size w w' := by
  go_enter Try.func9, Try.ntmps9
  go_wp2
  go_ret
  exact ⟨rfl, Below.refl _ _⟩
set_option maxRecDepth 100000 in
theorem keep_zero {B q : Nat} {w : World} {l : List Nt} (hB : B ≤ w.heap.size) (h : Pm B w q l) {k s : Int} (hk : Num k) (h0 : of (l ++ [⟨k, s⟩]) k = 0) :
    Calls Try.prog 17 #[.pointer (some ⟨q, 0, none⟩), .int .i64 k, .int .i64 0] w fun e w' => (∃ v, e = .returned v) ∧ Moved Pm B w q (l ++ [⟨k, s⟩]) w' := by
  obtain ⟨m, hc, _, hm⟩ := h.cell
  have HT := Lib.hid (fun v l' (hv : w.grownBy v m) (hl : Mw B v m l') => h.turned hB hc (Below.refl _ _) hm hv hl (Below.refl _ _))
  have HM := Lib.hid hm
  clear h hm
  go_enter Try.func17, Try.ntmps17
  go_wp2_with (at_delete; refine step_cut rfl _ _ rfl (mp := m) rfl HM.out hk h0 rfl ?_; intro v hv hgv)
  refine bodyPost_ret (results_none rfl _ _ _) rfl ?_
  exact ⟨⟨_, rfl⟩, HT.out _ _ hgv hv⟩
set_option maxRecDepth 100000 in
theorem keep_more {B q b : Nat} {w : World} {l : List Nt} (hB : B ≤ w.heap.size) (h : Pm B w q l) (hc : w.cell? ⟨q, 0, none⟩ = some (.map (some b))) {k s : Int} (hk : Num k) (hlen : l.length ≤ 200) (h0 : of (l ++ [⟨k, s⟩]) k ≠ 0) :
    Calls Try.prog 17 #[.pointer (some ⟨q, 0, none⟩), .int .i64 k, .int .i64 (of (l ++ [⟨k, s⟩]) k)] w fun e w' => (∃ v, e = .returned v) ∧ Moved Pm B w q (l ++ [⟨k, s⟩]) w' := by
  obtain ⟨m, hc', _, hm⟩ := h.cell
  obtain rfl : m = some b := by
    rw [hc] at hc'
    simpa using hc'.symm
  clear hc'
  have HT := Lib.hid (fun v l' (hv : w.grownBy v (some b)) (hl : Mw B v (some b) l') => h.turned hB hc (Below.refl _ _) hm hv hl (Below.refl _ _))
  obtain ⟨v, hrun, hv, hgv⟩ := hm.put (by have := keys_len l; unfold maxLen; omega) hk h0
  have he := map_some b
  have hne : (of (l ++ [⟨k, s⟩]) k == 0) = false := by simpa using h0
  generalize of (l ++ [⟨k, s⟩]) k = R at *
  clear h hm h0
  go_enter Try.func17, Try.ntmps17
  go_wp2
  go_end0
  exact ⟨⟨_, rfl⟩, HT.out _ _ hgv hv⟩
set_option maxRecDepth 100000 in
theorem keep_first {B q : Nat} {w : World} {l : List Nt} (hB : B ≤ w.heap.size) (h : Pm B w q l) (hc : w.cell? ⟨q, 0, none⟩ = some (.map none)) (hl : keys l = []) {k s : Int} (hk : Num k) (hlen : l.length ≤ 200) (h0 : of (l ++ [⟨k, s⟩]) k ≠ 0) :
    Calls Try.prog 17 #[.pointer (some ⟨q, 0, none⟩), .int .i64 k, .int .i64 (of (l ++ [⟨k, s⟩]) k)] w fun e w' => (∃ v, e = .returned v) ∧ Moved Pm B w q (l ++ [⟨k, s⟩]) w' := by
  obtain ⟨m, hc', hf, hm⟩ := h.cell
  obtain rfl : m = none := by
    rw [hc] at hc'
    simpa using hc'.symm
  clear hc'
  have hq := h.lt
  have HT := Lib.hid (fun v l' hv (hl : Mw B v (some w.heap.size) l') => h.first hB (Below.refl _ _) hv hl)
  obtain ⟨v, hrun, hv, hgv⟩ := (first_made (q := q) w hB hl).put (by have := keys_len l; unfold maxLen; omega) hk h0
  have he := map_none
  have hmm := @run_makeMap Try.prog
  have hne : (of (l ++ [⟨k, s⟩]) k == 0) = false := by simpa using h0
  generalize of (l ++ [⟨k, s⟩]) k = R at *
  clear h hm h0
  go_enter Try.func17, Try.ntmps17
  go_wp2
  go_end0
  exact ⟨⟨_, rfl⟩, HT.out _ _ hgv hv⟩
theorem keep_any {B q : Nat} {w : World} {l : List Nt} (h : Pm B w q l) (hB : B ≤ w.heap.size) (hlen : l.length ≤ 200) {k s : Int} (hk : Num k) :
    Calls Try.prog 17 #[.pointer (some ⟨q, 0, none⟩), .int .i64 k, .int .i64 (of (l ++ [⟨k, s⟩]) k)] w fun e w' => (∃ v, e = .returned v) ∧ Moved Pm B w q (l ++ [⟨k, s⟩]) w' := by
  by_cases h0 : of (l ++ [⟨k, s⟩]) k = 0
  · have := keep_zero hB h hk h0
    rwa [← h0] at this
  · obtain ⟨m, hc, -, hm⟩ := h.cell
    rcases hm with ⟨rfl, he⟩ | ⟨b, D, rfl, -⟩
    · exact keep_first hB h hc he hk hlen h0
    · exact keep_more hB h hc hk hlen h0
theorem Moved.lift {PW : Pw} {B q : Nat} {w u w' : World} {l : List Nt} (hB : B ≤ w.heap.size) (hb : Below w.heap.size w u) (h : Moved PW B u q l w') : Moved PW B w q l w' :=
  ⟨h.pw, (Off.of_below hb).trans h.off, (hb.mono hB).trans h.below⟩
set_option maxRecDepth 100000 in
set_option maxHeartbeats 1000000 in
theorem pnote_any {B q : Nat} {w : World} {l : List Nt} (h : Pm B w q l) (hB : B ≤ w.heap.size) (hlen : l.length ≤ 200) {k s : Int} (hk : Num k) :
    Calls Try.prog 7 #[.pointer (some ⟨q, 0, none⟩), .int .i64 k, .int .i64 s] w fun e w' => e = .returned (.int .i64 (of (l ++ [⟨k, s⟩]) k)) ∧ Moved Pm B w q (l ++ [⟨k, s⟩]) w' := by
  have c1 := fun u => _root_.Go.Proofs.Ytghbcknbkkhhpaa.Sat.fit_any s u
  have c2 := fun u (hu : Below w.heap.size w u) => pof_any (h.below hu) hk
  have c3 := fun u (hu : Below w.heap.size w u) => (keep_any (h.below hu) (Nat.le_trans hB hu.size) hlen (k := k) (s := s) hk).mono fun e w' ⟨he, hm⟩ => And.intro he (Moved.lift hB hu hm)
  simp only [of_same l k s] at c3 ⊢
  have n0 := of_num l k
  generalize of l k = e at *
  generalize fit s = f at *
  have HB := Lib.hid (Below.refl w.heap.size w)
  clear h
  go_enter Try.func7, Try.ntmps7
  go_wp2_with (first
    | (go_at_call 16; (with_reducible refine (c1 _).mono ?_); rintro e1 w1 ⟨rfl, rfl⟩)
    | (go_at_call 9; (with_reducible refine (c2 _ HB.out).mono ?_); rintro e1 w2 ⟨rfl, hb⟩; have HB2 := Lib.hid hb; clear hb c2)
    | (go_at_call 17; (with_reducible refine (c3 _ HB2.out).mono ?_); rintro e1 w3 ⟨⟨v3, rfl⟩, hm⟩; have HM := Lib.hid hm; clear hm c3))
  go_ret
  exact ⟨rfl, HM.out⟩
set_option maxRecDepth 100000 in
theorem nnote_any (k s : Int) (w : World) : Calls Try.prog 7 #[.pointer none, .int .i64 k, .int .i64 s] w fun e w' => e = .returned (.int .i64 0) ∧ Below w.heap.size w w' := by
  go_enter Try.func7, Try.ntmps7
  go_wp2
  go_ret
  exact ⟨rfl, Below.refl _ _⟩
set_option maxRecDepth 100000 in
set_option maxHeartbeats 1000000 in
theorem want_core (v : Value) (k e qd most : Int) (w : World) (c1 : Calls Try.prog 9 #[v, .int .i64 k] w fun e' w' => e' = .returned (.int .i64 e) ∧ Below w.heap.size w w') :
    Calls Try.prog 11 #[v, .int .i64 k, .int .i64 qd, .int .i64 most] w fun e' w' => e' = .returned (.int .i64 (want e qd most)) ∧ Below w.heap.size w w' := by
  have c2 := fun u => _root_.Go.Proofs.Ytghbcknbkkhhpaa.Sat.add2 e qd u _ rfl
  have c3 := fun u => _root_.Go.Proofs.Ytghbcknbkkhhpaa.Sat.fit_any most u
  have HX := Lib.hid (show min (add [e, qd]) (fit most) = want e qd most from rfl)
  generalize want e qd most = R at *
  generalize add [e, qd] = a at *
  generalize fit most = b at *
  go_enter Try.func11, Try.ntmps11
  go_wp2_with (first
    | (go_at_call 16; (with_reducible refine (c3 _).mono ?_); rintro e1 w1 ⟨rfl, rfl⟩)
    | (go_at_call 9; (with_reducible refine c1.mono ?_); rintro e1 w2 ⟨rfl, hb⟩; have HB2 := Lib.hid hb; clear hb c1)
    | (go_at_call 19; (with_reducible refine (c2 _).mono ?_); rintro e1 w3 ⟨rfl, rfl⟩))
  go_ret
  exact ⟨by simp; exact HX.out, HB2.out.alloc HB2.out.size _⟩
theorem pwant_any {B q : Nat} {w : World} {l : List Nt} (h : Pm B w q l) {k : Int} (hk : Num k) (qd most : Int) :
    Calls Try.prog 11 #[.pointer (some ⟨q, 0, none⟩), .int .i64 k, .int .i64 qd, .int .i64 most] w fun e' w' => e' = .returned (.int .i64 (want (of l k) qd most)) ∧ Below w.heap.size w w' :=
  want_core _ k _ qd most w (pof_any h hk)
theorem nwant_any (k qd most : Int) (w : World) :
    Calls Try.prog 11 #[.pointer none, .int .i64 k, .int .i64 qd, .int .i64 most] w fun e' w' => e' = .returned (.int .i64 (want 0 qd most)) ∧ Below w.heap.size w w' :=
  want_core _ k _ qd most w (nof_any k w)
end Go.Proofs.Ytghbcknbkkhhpaa.Demand
