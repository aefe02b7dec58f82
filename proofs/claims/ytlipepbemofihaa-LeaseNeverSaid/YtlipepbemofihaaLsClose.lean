/-
  Close of any wallet of leases that rise by keys, and of none; any key, any generation.
-/
import Derived.Test.YtlipepbemofihaaLsAsk
namespace Go.Proofs.Ytlipepbemofihaa.Lease
open Go.RowKit Go.Maps

theorem turn_cell {B : Nat} {u v : World} {m : Option Nat} {l : List Lz} {g : Nat} {cs : Array Value} {t : TypeId} {zz : Nat × Nat} (hg : u.grownBy v m) (hm : Mw B u m l) (h : u.heap[g]? = some (Obj.cells cs t zz)) : v.heap[g]? = some (Obj.cells cs t zz) := by
  refine (hg.block g (Codec.lt_of_heap h) fun e => ?_).trans h
  obtain ⟨es, clock, hb⟩ := Mw.map_at (e ▸ hm)
  rw [hb] at h
  cases h
set_option maxRecDepth 100000 in
set_option maxHeartbeats 1000000 in
theorem close_none (v : Value) (k g : Int) (x : Lz) (w : World)
    (ho : Calls Try.prog 26 #[v, .int .i64 k] w fun e w' => e = .returned (.tuple #[val x, .bool false]) ∧ Below w.heap.size w w') :
    Calls Try.prog 17 #[v, .int .i64 k, .int .i64 g] w fun e w' => e = .returned (.int .i64 (-1)) ∧ Below w.heap.size w w' := by
  simp only [val] at ho
  go_enter Try.func17, Try.ntmps17
  go_wp2_with (go_at_call 26; refine ho.mono ?_; clear ho; rintro e u ⟨rfl, hb⟩)
  go_ret
  exact ⟨rfl, hb.alloc hb.size _⟩
set_option maxRecDepth 100000 in
set_option maxHeartbeats 1000000 in
theorem close_some {B q : Nat} {w : World} {l : List Lz} (hB : B ≤ w.heap.size) (h : Pm B w q l) (hr : Rise l) {k g : Int} (hk : Num k) (x : Lz)
    (ho : Calls Try.prog 26 #[.pointer (some ⟨q, 0, none⟩), .int .i64 k] w fun e w' => e = .returned (.tuple #[val x, .bool true]) ∧ Below w.heap.size w w') :
    Calls Try.prog 17 #[.pointer (some ⟨q, 0, none⟩), .int .i64 k, .int .i64 g] w fun e w' => e = .returned (.int .i64 (if x.gen = g then x.spent else -1)) ∧ Moved Pm B w q (without l k) w' := by
  obtain ⟨key, gen, amount, spent, til⟩ := x
  simp only [val] at ho ⊢
  obtain ⟨m, hc, _, hm⟩ := h.cell
  have hq := h.lt
  have HT := Lib.hid (fun u v w' l' (hu : Below w.heap.size w u) (hv : u.grownBy v m) (hl : Mw B v m l') (hw : Below v.heap.size v w') => h.turned hB hc hu hm hv hl hw)
  have HM := Lib.hid hm
  have HC := Lib.hid (fun u (hu : Below w.heap.size w u) => cell_on hc hu)
  clear h hm hc
  by_cases hg : gen = g
  · subst hg
    rw [if_pos rfl]
    go_enter Try.func17, Try.ntmps17
    go_wp2_with (first
      | (go_at_call 26; refine ho.mono ?_; clear ho; rintro e u ⟨rfl, hb⟩; have hc := HC.out _ (hb.alloc hb.size (.cells #[.int .i64 key, .int .i64 gen, .int .i64 amount, .int .i64 spent, .int .i64 til] 33)))
      | (at_delete; refine step_cut rfl _ _ rfl (mp := m) rfl (HM.out.below (hb.alloc hb.size _)) hr hk rfl ?_; intro v hv hgv
         have hz := turn_cell hgv (HM.out.below (hb.alloc hb.size _)) (MapKept.heap_alloc u _).1
         obtain ⟨-, z1, -, z3, -⟩ := box5 hz; clear hz))
    go_ret
    exact ⟨rfl, HT.out _ _ _ _ (hb.alloc hb.size _) hgv hv (Below.refl _ _)⟩
  · rw [if_neg hg]
    go_enter Try.func17, Try.ntmps17
    go_wp2_with (first
      | (go_at_call 26; refine ho.mono ?_; clear ho; rintro e u ⟨rfl, hb⟩; have hc := HC.out _ (hb.alloc hb.size (.cells #[.int .i64 key, .int .i64 gen, .int .i64 amount, .int .i64 spent, .int .i64 til] 33)))
      | (at_delete; refine step_cut rfl _ _ rfl (mp := m) rfl (HM.out.below (hb.alloc hb.size _)) hr hk rfl ?_; intro v hv hgv
         have hz := turn_cell hgv (HM.out.below (hb.alloc hb.size _)) (MapKept.heap_alloc u _).1
         obtain ⟨-, z1, -, z3, -⟩ := box5 hz; clear hz))
    go_ret
    exact ⟨rfl, HT.out _ _ _ _ (hb.alloc hb.size _) hgv hv (Below.refl _ _)⟩
theorem pclose_any {B q : Nat} {w : World} {l : List Lz} (h : Pm B w q l) (hB : B ≤ w.heap.size) (hg : Good l) {k g : Int} (hk : Num k) :
    Calls Try.prog 17 #[.pointer (some ⟨q, 0, none⟩), .int .i64 k, .int .i64 g] w fun e w' => e = .returned (.int .i64 (close l k g).2) ∧ Moved Pm B w q (close l k g).1 w' := by
  have ho := pof_any h hg.rise hk
  by_cases hp : place l k < 0
  · rw [decide_eq_false (by omega)] at ho
    refine (close_none _ k g _ w ho).mono ?_
    rintro e w' ⟨rfl, hb⟩
    unfold close
    rw [if_pos hp]
    exact ⟨rfl, h.same hB hb⟩
  · rw [decide_eq_true (by omega)] at ho
    refine (close_some hB h hg.rise (g := g) hk _ ho).mono ?_
    rintro e w' ⟨rfl, hm⟩
    have ef : found l k = the l k := by unfold found; rw [if_pos (by omega)]
    rw [ef]
    unfold without at hm
    unfold close
    rw [if_neg hp] at hm ⊢
    exact ⟨rfl, hm⟩
theorem nclose_any (k g : Int) (w : World) : Calls Try.prog 17 #[.pointer none, .int .i64 k, .int .i64 g] w fun e w' => e = .returned (.int .i64 (-1)) ∧ Below w.heap.size w w' :=
  close_none _ k g z w (nof_any _ w)
end Go.Proofs.Ytlipepbemofihaa.Lease
