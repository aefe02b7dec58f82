/-
  of, Left, fresh, Close, and their nil receivers: of any wallet of leases that rise by keys; any key, any reading.
-/
import Derived.Test.YtlipepbemofihaaLsMem
namespace Go.Proofs.Ytlipepbemofihaa.Lease
open Go.RowKit Go.Maps

theorem lay (w : World) (o : Obj) : Below w.heap.size w (w.alloc o) := (Below.refl _ w).alloc (Nat.le_refl _) o
theorem lay2 (w : World) (o o' : Obj) : Below w.heap.size w ((w.alloc o).alloc o') := (lay w o).alloc (lay w o).size o'

set_option maxRecDepth 100000 in
set_option maxHeartbeats 1000000 in
theorem of_core (q : Nat) (m : Option Nat) (k : Int) (x : Lz) (h : Bool) (w : World) (hc : w.cell? ⟨q, 0, none⟩ = some (.map m)) (hq : q < w.heap.size)
    (hl : ∀ o, (Instr.lookup 48 (.map m) (.int .i64 k) true).run Try.prog (w.alloc o) = .ok (.tuple #[val x, .bool h]) (w.alloc o)) :
    Calls Try.prog 26 #[.pointer (some ⟨q, 0, none⟩), .int .i64 k] w fun e w' => e = .returned (.tuple #[val x, .bool h]) ∧ Below w.heap.size w w' := by
  simp only [val] at hl ⊢
  go_enter Try.func26, Try.ntmps26
  go_wp2
  refine bodyPost_ret (v := .tuple #[.agg #[.int .i64 x.key, .int .i64 x.gen, .int .i64 x.amount, .int .i64 x.spent, .int .i64 x.til], .bool h]) (by simp [results, Try.results26, go_sem]) rfl ⟨rfl, ?_⟩
  exact lay2 _ _ _
theorem pof_any {B q : Nat} {w : World} {l : List Lz} (h : Pm B w q l) (hr : Rise l) {k : Int} (hk : Num k) :
    Calls Try.prog 26 #[.pointer (some ⟨q, 0, none⟩), .int .i64 k] w fun e w' => e = .returned (.tuple #[val (found l k), .bool (decide (0 ≤ place l k))]) ∧ Below w.heap.size w w' := by
  obtain ⟨m, hc, _, hm⟩ := h.cell
  exact of_core q m k _ _ w hc h.lt fun o => (hm.below (lay w o)).look hr hk
set_option maxRecDepth 100000 in
set_option maxHeartbeats 1000000 in
theorem nof_any (k : Value) (w : World) : Calls Try.prog 26 #[.pointer none, k] w fun e w' => e = .returned (.tuple #[val z, .bool false]) ∧ Below w.heap.size w w' := by
  go_enter Try.func26, Try.ntmps26
  go_wp2
  refine bodyPost_ret (v := .tuple #[.agg #[.int .i64 0, .int .i64 0, .int .i64 0, .int .i64 0, .int .i64 0], .bool false]) (by simp [results, Try.results26, go_sem]) rfl ⟨rfl, ?_⟩
  exact lay _ _

set_option maxRecDepth 100000 in
set_option maxHeartbeats 1000000 in
theorem left_core (v : Value) (k now : Int) (x : Lz) (h : Bool) (w : World) (hs : -9223372036854775808 ≤ x.amount - x.spent ∧ x.amount - x.spent ≤ 9223372036854775807)
    (ho : Calls Try.prog 26 #[v, .int .i64 k] w fun e w' => e = .returned (.tuple #[val x, .bool h]) ∧ Below w.heap.size w w') :
    Calls Try.prog 12 #[v, .int .i64 k, .int .i64 now] w fun e w' => e = .returned (.int .i64 (if x.til ≤ now then 0 else x.amount - x.spent)) ∧ Below w.heap.size w w' := by
  obtain ⟨key, gen, amount, spent, til⟩ := x
  simp only [val] at ho hs ⊢
  have hd : IntKind.i64.wrap (amount - spent) = amount - spent := IntWalk.i64_in _ hs
  clear hs
  by_cases hn : til ≤ now
  · rw [if_pos hn]
    go_enter Try.func12, Try.ntmps12
    go_wp2_with (go_at_call 26; refine ho.mono ?_; clear ho; rintro e u ⟨rfl, hb⟩)
    go_ret
    exact ⟨rfl, hb.alloc hb.size _⟩
  · rw [if_neg hn]
    go_enter Try.func12, Try.ntmps12
    go_wp2_with (go_at_call 26; refine ho.mono ?_; clear ho; rintro e u ⟨rfl, hb⟩)
    go_ret
    exact ⟨by simp [], hb.alloc hb.size _⟩
theorem found_good {l : List Lz} (h : Good l) (k : Int) : 0 ≤ (found l k).spent ∧ (found l k).spent ≤ (found l k).amount ∧ Nums (found l k) := by
  unfold found
  split
  · rename_i hp
    exact h.each _ (place_some hp).2.2
  · refine ⟨by decide, by decide, ?_⟩
    unfold Nums Num z
    simp
theorem left_found (l : List Lz) (k now : Int) : (if (found l k).til ≤ now then 0 else (found l k).amount - (found l k).spent) = left l k now := by
  unfold left found
  by_cases hp : 0 ≤ place l k
  · rw [if_pos hp]
    by_cases hn : (the l k).til ≤ now
    · rw [if_pos hn, if_pos (.inr hn)]
    · rw [if_neg hn, if_neg (by omega)]
  · rw [if_neg hp, if_pos (Or.inl (by omega) : place l k < 0 ∨ (the l k).til ≤ now)]
    split <;> rfl
theorem pleft_any {B q : Nat} {w : World} {l : List Lz} (h : Pm B w q l) (hg : Good l) {k now : Int} (hk : Num k) :
    Calls Try.prog 12 #[.pointer (some ⟨q, 0, none⟩), .int .i64 k, .int .i64 now] w fun e w' => e = .returned (.int .i64 (left l k now)) ∧ Below w.heap.size w w' := by
  have hf := found_good hg k
  rw [← left_found]
  exact left_core _ k now _ _ w (by unfold Nums Num at hf; omega) (pof_any h hg.rise hk)
theorem nleft_any (k now : Int) (w : World) : Calls Try.prog 12 #[.pointer none, .int .i64 k, .int .i64 now] w fun e w' => e = .returned (.int .i64 0) ∧ Below w.heap.size w w' := by
  have := left_core (.pointer none) k now z false w (by simp [z]) (nof_any _ w)
  have e : (if z.til ≤ now then 0 else z.amount - z.spent) = (0 : Int) := by split <;> rfl
  rwa [e] at this

set_option maxRecDepth 100000 in
set_option maxHeartbeats 1000000 in
theorem fresh_any (x : Lz) (w : World) : Calls Try.prog 28 #[val x] w fun e w' => e = .returned (.bool (!decide (wrong x))) ∧ Below w.heap.size w w' := by
  obtain ⟨key, gen, amount, spent, til⟩ := x
  simp only [val, wrong]
  rcases Int.lt_or_le gen 1 with h1 | h1
  · have e : decide (gen < 1 ∨ amount < 1 ∨ spent ≠ 0 ∨ til < 0) = true := decide_eq_true (.inl h1)
    rw [e]
    clear e
    go_enter Try.func28, Try.ntmps28
    go_wp2
    go_ret
    exact ⟨rfl, lay _ _⟩
  rcases Int.lt_or_le amount 1 with h2 | h2
  · have e : decide (gen < 1 ∨ amount < 1 ∨ spent ≠ 0 ∨ til < 0) = true := decide_eq_true (.inr (.inl h2))
    rw [e]
    clear e
    go_enter Try.func28, Try.ntmps28
    go_wp2
    go_ret
    exact ⟨rfl, lay _ _⟩
  by_cases h3 : spent = 0
  · rcases Int.lt_or_le til 0 with h4 | h4
    · have e : decide (gen < 1 ∨ amount < 1 ∨ spent ≠ 0 ∨ til < 0) = true := decide_eq_true (.inr (.inr (.inr h4)))
      rw [e]
      clear e
      go_enter Try.func28, Try.ntmps28
      go_wp2
      go_ret
      exact ⟨by simp <;> omega, lay _ _⟩
    · have e : decide (gen < 1 ∨ amount < 1 ∨ spent ≠ 0 ∨ til < 0) = false := decide_eq_false (by omega)
      rw [e]
      clear e
      go_enter Try.func28, Try.ntmps28
      go_wp2
      go_ret
      exact ⟨by simp <;> omega, lay _ _⟩
  · have e : decide (gen < 1 ∨ amount < 1 ∨ spent ≠ 0 ∨ til < 0) = true := decide_eq_true (.inr (.inr (.inl h3)))
    rw [e]
    clear e
    go_enter Try.func28, Try.ntmps28
    go_wp2
    go_ret
    exact ⟨rfl, lay _ _⟩
end Go.Proofs.Ytlipepbemofihaa.Lease
