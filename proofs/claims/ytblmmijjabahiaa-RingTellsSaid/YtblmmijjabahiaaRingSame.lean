/-
  The document's Nodes of a set is a new slice of its nodes, rising, and its Same of two slices that own one list is true; of what lay nothing has turned; any set from 0 to 2^64 less 1, any list of at most 1000.
-/
import Derived.Test.YtblmmijjabahiaaRingRef
import Derived.Lib.OwnBridge
namespace Go.Proofs.Ytblmmijjabahiaa.Ring
open Go.RowKit Go.Shelf

set_option maxRecDepth 100000 in
set_option maxHeartbeats 2000000 in
theorem refnodes_any (x : Int) (w : World) (hx0 : 0 ≤ x) :
    Calls Try.prog 22 #[.int .u64 x] w fun e W' => ∃ v, e = .returned v ∧ W'.ownsRow w.heap.size 3 1 v (nodes x).length ((nodes x).map (Value.int .i64)) ∧ Below w.heap.size w W' := by
  refine (callsIn_wide (n := 6)).1 ?_
  have hfH : Fence.wide.fn 24 := trivial
  obtain ⟨i0, hi, hz0, hz1, hz2⟩ := info_parts info_int
  refine callsIn_of_wp Try.func22 rfl trivial ?_ rfl
  simp only [Try.ntmps22, List.size_toArray, List.length_cons, List.length_nil, Nat.reduceAdd, Nat.reduceSub, Array.replicate_succ, Array.replicate_zero, List.push_toArray, List.append_toArray, List.nil_append, List.cons_append]
  gi_wp2
  gi_loopw [3, 4] (fun v i wr => ∃ k : Nat, i = .int .i64 (k : Int) ∧ k ≤ 64 ∧ wr.ownsRow w.heap.size 3 1 v (pref x k).length ((pref x k).map (Value.int .i64)) ∧ Below w.heap.size w wr)
    (fun _ i _ => 64 - (intOf i).toNat)
  case atStart =>
    exact ⟨0, rfl, by omega, World.ownsRow_nil _ _ _ _, Below.refl _ _⟩
  case round =>
    obtain ⟨k, rfl, hk, hrow, hB⟩ := hrel
    have hpl : (pref x k).length ≤ 64 := by
      have h := List.length_filter_le (fun i => x.toNat.testBit i) (List.range k)
      unfold pref; rw [List.length_map]; simp at h; omega
    by_cases hk' : k = 64
    · subst hk'
      gi_wp2
      go_ret
      exact ⟨_, rfl, by rw [← pref_all]; exact hrow, hB⟩
    · have hk2 : (k : Int) < 64 := by omega
      rcases Bool.eq_false_or_eq_true (has x (k : Int)) with hh | hh
      · have hs := pref_hit x k (by omega) hh
        have HS := Lib.hid hs; clear hs
        gi_wp2_with (first
          | (gi_at_call 24; refine (callsIn_wide.2 (refhas_any _ _ _ hx0)).mono ?_; rintro e w' ⟨rfl, rfl⟩)
          | (gi_at_builtin; refine wpListIn_append_own _ rfl _ _ 30 rfl w.heap.size 3 i0 (.int .i64 0) 1 8 Try.underlying30 hi hz0 hz1 hz2 rfl (by decide) _ _ _ rfl (hrow.alloc _) ⟨wr.heap.size, 0, none⟩ 1 1 [.int .i64 (k : Int)] rfl rfl (cell_one_new _ _ _) (by simp [Value.oneCell']) (by unfold maxLen; omega) (by omega) (by have := hB.size; simp; omega) ?_; intro v' w2 hown' hgrow _))
        have hB2 : Below w.heap.size w w2 := (hB.alloc hB.size _).grown hgrow (by have := hB.size; simp; omega) (fun j hj => (hrow.lt j hj).1)
        go_roundw
        case rel => exact ⟨k + 1, by simp, by omega, by rw [HS.out]; simpa using hown', hB2⟩
        case measure => simp only [intOf]; omega
      · have hs := pref_miss x k (by omega) hh
        have HS := Lib.hid hs; clear hs
        gi_wp2_with (gi_at_call 24; refine (callsIn_wide.2 (refhas_any _ _ _ hx0)).mono ?_; rintro e w' ⟨rfl, rfl⟩)
        go_roundw
        case rel => exact ⟨k + 1, by simp, by omega, by rw [HS.out]; exact hrow, hB⟩
        case measure => simp only [intOf]; omega

theorem same_zero (p q : Option Addr) (c d : Nat) (w : World) :
    Calls Try.prog 20 #[.slice p 0 c, .slice q 0 d] w fun e W' => e = .returned (.bool true) ∧ Below w.heap.size w W' := by
  go_enter Try.func20, Try.ntmps20
  go_wp2
  go_loop [5] (fun i => i = .int .i64 0) (fun i => 64 - (intOf i).toNat)
  case atStart => rfl
  case round =>
    subst hrel
    go_wp2
    go_ret
    exact ⟨rfl, Below.refl _ _⟩

set_option maxRecDepth 100000 in
set_option maxHeartbeats 1000000 in
theorem same_cells (g h c d : Nat) (zs : List Int) (w : World) (hl : zs.length ≤ 1000)
    (h1 : ∀ j, j < zs.length → w.cell? ⟨g, j, none⟩ = some (.int .i64 (zs.getD j 0))) (h2 : ∀ j, j < zs.length → w.cell? ⟨h, j, none⟩ = some (.int .i64 (zs.getD j 0))) :
    Calls Try.prog 20 #[.slice (some ⟨g, 0, none⟩) zs.length c, .slice (some ⟨h, 0, none⟩) zs.length d] w fun e W' => e = .returned (.bool true) ∧ Below w.heap.size w W' := by
  have H1 := Lib.hid h1; clear h1
  have H2 := Lib.hid h2; clear h2
  have hm : Try.prog.follows .mixedOrders = true := by kernel_rfl
  go_enter Try.func20, Try.ntmps20
  go_wp2
  go_loopw [5] (fun i wr => ∃ k : Nat, i = .int .i64 (k : Int) ∧ k ≤ zs.length ∧ Hid (∀ p, wr.cell? p = w.cell? p) ∧ Below w.heap.size w wr)
    (fun i _ => zs.length - (intOf i).toNat)
  case atStart => exact ⟨0, rfl, by omega, Lib.hid (fun _ => rfl), Below.refl _ _⟩
  case round =>
    obtain ⟨k, rfl, hk, hc, hB⟩ := hrel
    by_cases hlt : k < zs.length
    · have g1 : wr.cell? ⟨g, k, none⟩ = some (.int .i64 (zs.getD k 0)) := (hc.out _).trans (H1.out k hlt)
      have g2 : wr.cell? ⟨h, k, none⟩ = some (.int .i64 (zs.getD k 0)) := (hc.out _).trans (H2.out k hlt)
      generalize zs.getD k 0 = y at g1 g2
      have hlt' : (k : Int) < (zs.length : Int) := by omega
      go_wp2
      go_quiet (fail)
      go_wp2
      go_roundw
      case rel => exact ⟨k + 1, by simp, by omega, Lib.hid (fun p => hc.out p), hB.trans ⟨rfl, rfl, rfl, Nat.le_refl _, fun _ _ => rfl⟩⟩
      case measure => simp only [intOf]; omega
    · go_wp2
      go_ret
      exact ⟨rfl, hB⟩

theorem ownsRow_stays {B e : Nat} {v : Value} {n : Nat} {xs : List Value} {w w' : World} (h : w.ownsRow B e 1 v n xs) (hb : Below w.heap.size w w') : w'.ownsRow B e 1 v n xs := by
  refine ⟨h.1, ?_⟩
  rcases h.2 with h0 | ⟨g, cap, cur, hv, hg, hblk, r⟩
  · exact .inl h0
  · exact .inr ⟨g, cap, cur, hv, hg, (hb.block g (Array.getElem?_eq_some_iff.1 hblk).1).trans hblk, r⟩
theorem ownsRow_less {B B' e : Nat} {v : Value} {n : Nat} {xs : List Value} {w : World} (h : w.ownsRow B e 1 v n xs) (hb : B' ≤ B) : w.ownsRow B' e 1 v n xs := by
  refine ⟨h.1, ?_⟩
  rcases h.2 with h0 | ⟨g, cap, cur, hv, hg, hblk, r⟩
  · exact .inl h0
  · exact .inr ⟨g, cap, cur, hv, Nat.le_trans hb hg, hblk, r⟩
theorem ownsRow_slice {B e : Nat} {v : Value} {n : Nat} {xs : List Value} {w : World} (h : w.ownsRow B e 1 v n xs) : ∃ p cap, v = .slice p n cap := by
  rcases h.2 with ⟨rfl, rfl⟩ | ⟨g, cap, cur, hv, _⟩
  · exact ⟨none, 0, rfl⟩
  · exact ⟨_, cap, hv⟩
theorem ownsRow_cells {B e : Nat} {n : Nat} {cap : Nat} {p : Option Addr} {zs : List Int} {w : World} (h : w.ownsRow B e 1 (.slice p n cap) n (zs.map (Value.int .i64))) (hn : 0 < n) :
    ∃ g, p = some ⟨g, 0, none⟩ ∧ n = zs.length ∧ ∀ j, j < zs.length → w.cell? ⟨g, j, none⟩ = some (.int .i64 (zs.getD j 0)) := by
  obtain ⟨g, cap', e, _, _, _, _, hl, hH⟩ := Lib.holds_of_ownsRow (enc := Value.int .i64) h (fun e => by cases e; omega)
  cases e
  refine ⟨g, rfl, hl.symm, fun j hj => ?_⟩
  have k := (hH j (by simpa using hj)).1
  rw [Nat.zero_add] at k
  rw [k]; simp [getElem!_pos, hj]

theorem same_own {B B' e : Nat} {v v' : Value} {zs : List Int} {w0 w : World} (h : w.ownsRow B e 1 v zs.length (zs.map (Value.int .i64))) (h' : w.ownsRow B' e 1 v' zs.length (zs.map (Value.int .i64))) (hl : zs.length ≤ 1000) (hb : Below w0.heap.size w0 w) :
    Calls Try.prog 20 #[v, v'] w fun e W' => e = .returned (.bool true) ∧ Below w0.heap.size w0 W' := by
  obtain ⟨p, c, rfl⟩ := ownsRow_slice h
  obtain ⟨q, d, rfl⟩ := ownsRow_slice h'
  rcases Nat.eq_zero_or_pos zs.length with hz | hz
  · rw [hz]
    exact (same_zero p q c d w).mono fun e w' k => ⟨k.1, hb.trans (k.2.mono hb.size)⟩
  · obtain ⟨g, rfl, _, h1⟩ := ownsRow_cells h hz
    obtain ⟨g', rfl, _, h2⟩ := ownsRow_cells h' hz
    exact (same_cells g g' c d zs w hl h1 h2).mono fun e w' k => ⟨k.1, hb.trans (k.2.mono hb.size)⟩
end Go.Proofs.Ytblmmijjabahiaa.Ring
