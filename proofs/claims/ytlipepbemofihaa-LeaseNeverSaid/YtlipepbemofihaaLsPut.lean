/-
  Put of any wallet of leases that rise by keys, and of none; any lease.
-/
import Derived.Test.YtlipepbemofihaaLsSpend
namespace Go.Proofs.Ytlipepbemofihaa.Lease
open Go.RowKit Go.Maps
open _root_.Go.Proofs.Ytlipepbemofihaa.Codec (lt_of_heap frozen_of heap_set below_new)

theorem map_some (b : Nat) (w : World) : (binOp BinOp.eql 48 (.map (some b)) (.map none)).run Try.prog w = .ok (.bool false) w := by kernel_rfl
theorem map_none (w : World) : (binOp BinOp.eql 48 (.map none) (.map none)).run Try.prog w = .ok (.bool true) w := by kernel_rfl
set_option maxRecDepth 100000 in
set_option maxHeartbeats 1000000 in
theorem nput_any (x : Lz) (w : World) : Calls Try.prog 15 #[.pointer none, val x] w fun e w' => e = .returned (.int .i64 1) ∧ Below w.heap.size w w' := by
  simp only [val]
  go_enter Try.func15, Try.ntmps15
  go_wp2
  go_ret
  exact ⟨rfl, lay _ _⟩
set_option maxRecDepth 100000 in
set_option maxHeartbeats 1000000 in
theorem pput_wrong (q : Nat) (x : Lz) (w : World) (hx : wrong x) : Calls Try.prog 15 #[.pointer (some ⟨q, 0, none⟩), val x] w fun e w' => e = .returned (.int .i64 1) ∧ Below w.heap.size w w' := by
  have hf := fun u => fresh_any x u
  rw [decide_eq_true hx] at hf
  clear hx
  simp only [val] at hf ⊢
  go_enter Try.func15, Try.ntmps15
  go_wp2_with (go_at_call 28; refine (hf _).mono ?_; clear hf; rintro e u ⟨rfl, hb⟩)
  go_ret
  exact ⟨rfl, (lay _ _).trans (hb.mono (by simp))⟩
set_option maxRecDepth 100000 in
set_option maxHeartbeats 2000000 in
theorem put_twice {B q : Nat} {w : World} {l : List Lz} (h : Pm B w q l) (hr : Rise l) (x : Lz) (hx : ¬ wrong x) (hk : Num x.key) (hp : 0 ≤ place l x.key) : Calls Try.prog 15 #[.pointer (some ⟨q, 0, none⟩), val x] w fun e w' => e = .returned (.int .i64 5) ∧ Below w.heap.size w w' := by
  have hf := fun u => fresh_any x u
  rw [decide_eq_false hx] at hf
  clear hx
  obtain ⟨m, hc, _, hm⟩ := h.cell
  have hq := h.lt
  have HL := Lib.hid (fun u (hu : Below w.heap.size w u) => (hm.below hu).look hr hk)
  have HC := Lib.hid (fun u (hu : Below w.heap.size w u) => cell_on hc hu)
  rw [decide_eq_true hp] at HL
  generalize found l x.key = y at HL
  clear hc hm h hp
  obtain ⟨key, gen, amount, spent, til⟩ := x
  simp only [val] at hf HL ⊢
  go_enter Try.func15, Try.ntmps15
  go_wp2_with (go_at_call 28; refine (hf _).mono ?_; clear hf; rintro e u ⟨rfl, hbu⟩
               have hb := (lay w _).trans (hbu.mono (by simp))
               have hz := (hbu.block w.heap.size (by simp)).trans (MapKept.heap_alloc w _).1
               obtain ⟨z0, z1, z2, z3, z4⟩ := box5 hz; clear hz
               have hw5 : w.heap.size < u.heap.size := by have := hbu.size; simp at this; omega
               clear hbu)
  have hq5 := Nat.lt_of_lt_of_le hq hb.size
  have hc5 := HC.out _ hb
  have hl5 := HL.out _ hb.drew
  have hl6 := fun o => HL.out _ (hb.alloc hb.size o).drew
  go_region
  all_goals go_wp2
  all_goals go_ret
  all_goals exact ⟨rfl, (hb.alloc hb.size _).drew⟩

set_option maxRecDepth 100000 in
set_option maxHeartbeats 2000000 in
theorem put_more {B q b : Nat} {w : World} {l : List Lz} (hB : B ≤ w.heap.size) (h : Pm B w q l) (hc : w.cell? ⟨q, 0, none⟩ = some (.map (some b))) (hr : Rise l) (hlen : l.length < maxLen) (x : Lz) (hx : ¬ wrong x) (hk : Num x.key) (hp : place l x.key < 0) :
    Calls Try.prog 15 #[.pointer (some ⟨q, 0, none⟩), val x] w fun e w' => e = .returned (.int .i64 0) ∧ Moved Pm B w q (ins x l) w' := by
  have hf := fun u => fresh_any x u
  rw [decide_eq_false hx] at hf
  clear hx
  obtain ⟨m, hc', _, hm⟩ := h.cell
  obtain rfl : m = some b := by
    rw [hc] at hc'
    simpa using hc'.symm
  clear hc'
  have hq := h.lt
  have HL := Lib.hid (fun u (hu : Below w.heap.size w u) => (hm.below hu).look hr hk)
  have HC := Lib.hid (fun u (hu : Below w.heap.size w u) => cell_on hc hu)
  have HT := Lib.hid (fun u v w' l' (hu : Below w.heap.size w u) (hv : u.grownBy v (some b)) (hl : Mw B v (some b) l') (hw : Below v.heap.size v w') => h.turned hB hc hu hm hv hl hw)
  have HU := Lib.hid (fun u (hu : Below w.heap.size w u) => (hm.below hu).put hr hlen x hk)
  rw [if_pos hp] at HU
  rw [decide_eq_false (by omega)] at HL
  generalize found l x.key = y at HL
  generalize ins x l = l' at HU ⊢
  clear hc hm h hp
  obtain ⟨key, gen, amount, spent, til⟩ := x
  simp only [val] at hf HL HU ⊢
  have he := map_some b
  go_enter Try.func15, Try.ntmps15
  go_wp2_with (go_at_call 28; refine (hf _).mono ?_; clear hf; rintro e u ⟨rfl, hbu⟩
               have hb := (lay w _).trans (hbu.mono (by simp))
               have hz := (hbu.block w.heap.size (by simp)).trans (MapKept.heap_alloc w _).1
               obtain ⟨z0, z1, z2, z3, z4⟩ := box5 hz; clear hz
               have hw5 : w.heap.size < u.heap.size := by have := hbu.size; simp at this; omega
               clear hbu)
  have hq5 := Nat.lt_of_lt_of_le hq hb.size
  have hc5 := HC.out _ hb
  have hl5 := HL.out _ hb.drew
  have hl6 := fun o => HL.out _ (hb.alloc hb.size o).drew
  go_region
  all_goals (
    clear hl5 hl6
    have hb6 := (hb.alloc hb.size (.cells #[.int .i64 y.key, .int .i64 y.gen, .int .i64 y.amount, .int .i64 y.spent, .int .i64 y.til] 33)).drew
    have hk6 : Below u.heap.size u (u.alloc (.cells #[.int .i64 y.key, .int .i64 y.gen, .int .i64 y.amount, .int .i64 y.spent, .int .i64 y.til] 33)).drew := (lay u _).drew
    obtain ⟨u6, h6⟩ : ∃ u6, (u.alloc (.cells #[.int .i64 y.key, .int .i64 y.gen, .int .i64 y.amount, .int .i64 y.spent, .int .i64 y.til] 33)).drew = u6 := ⟨_, rfl⟩
    rw [h6] at hb6 hk6 ⊢
    replace z0 := cell_on z0 hk6
    replace z1 := cell_on z1 hk6
    replace z2 := cell_on z2 hk6
    replace z3 := cell_on z3 hk6
    replace z4 := cell_on z4 hk6
    clear hk6 h6 hc5
    have hc6 := HC.out _ hb6
    obtain ⟨v, hrun, hv, hgv⟩ := HU.out _ hb6.drew
    go_wp2)
  all_goals go_region
  all_goals go_wp2
  all_goals go_ret
  all_goals exact ⟨rfl, HT.out _ _ _ _ hb6.drew hgv hv (Below.refl _ _)⟩

/-- The first map. -/
theorem Pm.first {B q : Nat} {w u v : World} {l l' : List Lz} (h : Pm B w q l) (hB : B ≤ w.heap.size) (hu : Below w.heap.size w u) (hv : ((u.setCell ⟨q, 0, none⟩ (.map (some u.heap.size))).alloc (.map #[] 0)).grownBy v (some u.heap.size)) (hl : Mw B v (some u.heap.size) l') : Moved Pm B w q l' v := by
  obtain ⟨h0, m, h1, h2⟩ := h
  have hq : q < w.heap.size := lt_of_heap h1
  have hqu : q < u.heap.size := Nat.lt_of_lt_of_le hq hu.size
  have es : (u.setCell ⟨q, 0, none⟩ (.map (some u.heap.size))).heap.size = u.heap.size := by simp
  have keep : ∀ g : Nat, g < u.heap.size → v.heap[g]? = (u.setCell ⟨q, 0, none⟩ (.map (some u.heap.size))).heap[g]? := by
    intro g hg
    refine (hv.block g (by simp; omega) (fun e => by cases e; omega)).trans ?_
    exact (lay _ _).block g (by rw [es]; exact hg)
  have other : ∀ g : Nat, g < w.heap.size → g ≠ q → v.heap[g]? = w.heap[g]? := by
    intro g hg hne
    refine (keep g (Nat.lt_of_lt_of_le hg hu.size)).trans ?_
    exact (Below.heap_setCell _ _ _ _ hne).trans (hu.block g hg)
  have hqv : v.heap[q]? = some (.cells #[.map (some u.heap.size)] 50 (0, 0)) := by
    refine (keep q hqu).trans ?_
    rw [heap_set q 0 _ _ ((hu.block q hq).trans h1)]
    rfl
  refine ⟨⟨h0, _, hqv, hl⟩, ⟨?_, fun g cs t zz e ht => ?_⟩, ?_⟩
  · refine Nat.le_trans hu.size (Nat.le_trans ?_ hv.size)
    simp
  · refine (other g (lt_of_heap e) ?_).trans e
    rintro rfl
    rw [h1] at e
    cases e
    simp at ht
  · refine ((((hu.mono hB).setCell (p := ⟨q, 0, none⟩) h0 _).alloc (by rw [es]; exact Nat.le_trans hB hu.size) _).grown hv (by have := hu.size; simp; omega) ?_)
    intro k e
    cases e
    exact Nat.le_trans hB hu.size
theorem first_made {B q : Nat} (u : World) (hB : B ≤ u.heap.size) : Mw B ((u.setCell ⟨q, 0, none⟩ (.map (some u.heap.size))).alloc (.map #[] 0)) (some u.heap.size) [] := by
  have h := World.ownsMap_made (u.setCell ⟨q, 0, none⟩ (.map (some u.heap.size))) Try.prog 3 rdz
  have es : (u.setCell ⟨q, 0, none⟩ (.map (some u.heap.size))).heap.size = u.heap.size := by simp
  rw [es] at h
  exact Mw.of hB h is_nil

set_option maxRecDepth 100000 in
set_option maxHeartbeats 2000000 in
theorem put_first {B q : Nat} {w : World} (hB : B ≤ w.heap.size) (h : Pm B w q []) (hc : w.cell? ⟨q, 0, none⟩ = some (.map none)) (x : Lz) (hx : ¬ wrong x) (hk : Num x.key) :
    Calls Try.prog 15 #[.pointer (some ⟨q, 0, none⟩), val x] w fun e w' => e = .returned (.int .i64 0) ∧ Moved Pm B w q [x] w' := by
  have hf := fun u => fresh_any x u
  rw [decide_eq_false hx] at hf
  clear hx
  obtain ⟨m, hc', hfz, hm⟩ := h.cell
  obtain rfl : m = none := by
    rw [hc] at hc'
    simpa using hc'.symm
  clear hc'
  have hq := h.lt
  have HL := Lib.hid (fun u (hu : Below w.heap.size w u) => (hm.below hu).look (k := x.key) .nil hk)
  have HC := Lib.hid (fun u (hu : Below w.heap.size w u) => cell_on hc hu)
  have HF := Lib.hid (fun u (hu : Below w.heap.size w u) => (hu.frozen (p := ⟨q, 0, none⟩) hq).trans hfz)
  have HT := Lib.hid (fun u v l' (hu : Below w.heap.size w u) hv (hl : Mw B v (some u.heap.size) l') => h.first hB hu hv hl)
  have HU := Lib.hid (fun u (hu : Below w.heap.size w u) => (Mw.below (first_made (q := q) u (Nat.le_trans hB hu.size)) (Below.refl _ _).drew).put .nil (by decide) x hk)
  rw [if_pos (by simp [place, Ledger.spot])] at HU
  rw [decide_eq_false (by simp [place, Ledger.spot])] at HL
  generalize found [] x.key = y at HL
  have el : ins x [] = [x] := rfl
  rw [el] at HU
  generalize [x] = l' at HU ⊢
  clear hc hm h el
  obtain ⟨key, gen, amount, spent, til⟩ := x
  simp only [val] at hf HL HU ⊢
  have hmm := @run_makeMap Try.prog
  have he := map_none
  go_enter Try.func15, Try.ntmps15
  go_wp2_with (go_at_call 28; refine (hf _).mono ?_; clear hf; rintro e u ⟨rfl, hbu⟩
               have hb := (lay w _).trans (hbu.mono (by simp))
               have hz := (hbu.block w.heap.size (by simp)).trans (MapKept.heap_alloc w _).1
               obtain ⟨z0, z1, z2, z3, z4⟩ := box5 hz; clear hz
               have hw5 : w.heap.size < u.heap.size := by have := hbu.size; simp at this; omega
               clear hbu)
  have hq5 := Nat.lt_of_lt_of_le hq hb.size
  have hc5 := HC.out _ hb
  have hl5 := HL.out _ hb.drew
  have hl6 := fun o => HL.out _ (hb.alloc hb.size o).drew
  go_region
  all_goals (
    clear hl5 hl6
    have hb6 := (hb.alloc hb.size (.cells #[.int .i64 y.key, .int .i64 y.gen, .int .i64 y.amount, .int .i64 y.spent, .int .i64 y.til] 33)).drew
    have hk6 : Below u.heap.size u (u.alloc (.cells #[.int .i64 y.key, .int .i64 y.gen, .int .i64 y.amount, .int .i64 y.spent, .int .i64 y.til] 33)).drew := (lay u _).drew
    obtain ⟨u6, h6⟩ : ∃ u6, (u.alloc (.cells #[.int .i64 y.key, .int .i64 y.gen, .int .i64 y.amount, .int .i64 y.spent, .int .i64 y.til] 33)).drew = u6 := ⟨_, rfl⟩
    rw [h6] at hb6 hk6 ⊢
    replace z0 := cell_on z0 hk6
    replace z1 := cell_on z1 hk6
    replace z2 := cell_on z2 hk6
    replace z3 := cell_on z3 hk6
    replace z4 := cell_on z4 hk6
    have hw6 : w.heap.size < u6.heap.size := Nat.lt_of_lt_of_le hw5 hk6.size
    clear hk6 h6 hc5 hw5
    have hq6 := Nat.lt_of_lt_of_le hq hb6.size
    have hc6 := HC.out _ hb6
    have hf6 := HF.out _ hb6
    have hne : ¬ (q = w.heap.size) := by omega
    have hne' : ¬ (w.heap.size = q) := by omega
    obtain ⟨v, hrun, hv, hgv⟩ := HU.out _ hb6
    go_wp2)
  all_goals go_region
  all_goals go_wp2
  all_goals go_ret
  all_goals exact ⟨rfl, HT.out _ _ _ hb6 ⟨hgv.os, hgv.tape, hgv.output, hgv.size, hgv.block⟩ hv⟩
theorem pput_any {B q : Nat} {w : World} {l : List Lz} (h : Pm B w q l) (hB : B ≤ w.heap.size) (hg : Good l) (hlen : l.length ≤ 100) (x : Lz) (hk : Num x.key) :
    Calls Try.prog 15 #[.pointer (some ⟨q, 0, none⟩), val x] w fun e w' => e = .returned (.int .i64 (put l x).2) ∧ Moved Pm B w q (put l x).1 w' := by
  unfold put
  by_cases hx : wrong x
  · rw [if_pos hx]
    refine (pput_wrong q x w hx).mono ?_
    rintro e w' ⟨rfl, hb⟩
    exact ⟨rfl, h.same hB hb⟩
  rw [if_neg hx]
  by_cases hp : 0 ≤ place l x.key
  · rw [if_pos hp]
    refine (put_twice h hg.rise x hx hk hp).mono ?_
    rintro e w' ⟨rfl, hb⟩
    exact ⟨rfl, h.same hB hb⟩
  rw [if_neg hp]
  obtain ⟨m, hc, -, hm⟩ := h.cell
  rcases hm with ⟨rfl, rfl⟩ | ⟨b, D, rfl, -⟩
  · exact put_first hB h hc x hx hk
  · exact put_more hB h hc hg.rise (by unfold maxLen; omega) x hx hk (by omega)
end Go.Proofs.Ytlipepbemofihaa.Lease
