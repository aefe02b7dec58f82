/-
  What lies while LedgerBudget goes on: the table's rows, and three lists of ints that the law appends to, each in a block of its own; and what was told so far, plain.
-/
import Derived.Test.YtcnnepmhdccipaaLedgerSameRow
import Derived.Test.YtcnnepmhdccipaaLedgerBudgetPlain
import Derived.Maps.AppendAt
namespace Go.Proofs.Ytcnnepmhdccipaa.Ledger
open Go.RowKit
open _root_.Go.Proofs.Ytcnnepmhdccipaa.Frame (Rw Tb noRow LeasesAt cell_on)
open _root_.Go.Proofs.Ytcnnepmhdccipaa.Codec (own_below own_lower lt_of_heap frozen_of heap_set)
open _root_.Go.Proofs.Ytcnnepmhdccipaa.Sat (fit add sub mul fit_self)

/-! What was told so far. -/
structure Hist (R B : Int) (j : Nat) (TS MS SS : List Int) (n : Nat) (sp tot mark : Int) : Prop where
  lt : TS.length = j
  lm : MS.length = j
  ls : SS.length = j
  all : ∀ k, k < j → 0 ≤ TS.getD k 0 ∧ TS.getD k 0 ≤ B ∧ 0 ≤ MS.getD k 0 ∧ MS.getD k 0 ≤ mark ∧ 0 ≤ SS.getD k 0 ∧ SS.getD k 0 ≤ sp ∧ sp + tot ≤ TS.getD k 0 + SS.getD k 0 + R * (mark - MS.getD k 0)
  sp0 : 0 ≤ sp
  sp1 : sp ≤ n * 2147483648
  tot0 : 0 ≤ tot
  totB : tot ≤ B
  mark0 : 0 ≤ mark
theorem hist_step {R B : Int} {j n : Nat} {TS MS SS : List Int} {sp tot mark s tot' mark' : Int} (h : Hist R B j TS MS SS n sp tot mark) (h1 : tot' + s ≤ tot + R * (mark' - mark)) (h2 : 0 ≤ s) (h3 : s ≤ 2147483648) (h4 : mark ≤ mark') (h5 : 0 ≤ tot') (h6 : tot' ≤ B) : Hist R B j TS MS SS (n + 1) (sp + s) tot' mark' := by
  have hn := h.sp1
  have hp := h.sp0
  have hm := h.mark0
  refine ⟨h.lt, h.lm, h.ls, fun k hk => ?_, by omega, by rw [Int.natCast_add, Int.add_mul]; omega, h5, h6, by omega⟩
  obtain ⟨a1, a2, a3, a4, a5, a6, a7⟩ := h.all k hk
  have e : R * (mark' - MS.getD k 0) = R * (mark' - mark) + R * (mark - MS.getD k 0) := by
    rw [← Int.mul_add]; congr 1; omega
  exact ⟨a1, a2, a3, by omega, a5, by omega, by omega⟩
theorem hist_ask {R B : Int} {j n : Nat} {TS MS SS : List Int} {sp tot mark : Int} (h : Hist R B j TS MS SS n sp tot mark) (hR0 : 0 ≤ R) (hR1 : R ≤ 2147483648) (hB1 : B ≤ 2147483648) (hn : n ≤ 61) (hm : mark ≤ 2147483648) {k : Nat} (hk : k < j) :
    sp - SS.getD k 0 ≤ add [TS.getD k 0, mul R (mark - MS.getD k 0)] := by
  obtain ⟨a1, a2, a3, a4, a5, a6, a7⟩ := h.all k hk
  have hn1 := h.sp1
  have ht := h.tot0
  have h2 : R * (mark - MS.getD k 0) ≤ 2147483648 * 2147483648 := Int.mul_le_mul hR1 (by omega) (by omega) (by omega)
  have hp : 0 ≤ R * (mark - MS.getD k 0) := Int.mul_nonneg hR0 (by omega)
  have m1 : mul R (mark - MS.getD k 0) = R * (mark - MS.getD k 0) := by
    unfold mul Sat.top
    rw [fit_self hR0 (by omega), fit_self (x := mark - MS.getD k 0) (by omega) (by omega), if_neg (by omega)]
  rw [m1, add_two]
  generalize R * (mark - MS.getD k 0) = X at *
  rw [fit_self a1 (by omega), fit_self hp (by omega)]
  split <;> omega
theorem getD_snoc (l : List Int) (x : Int) (k : Nat) : (l ++ [x]).getD k 0 = if k < l.length then l.getD k 0 else if k = l.length then x else 0 := by
  by_cases h : k < l.length
  · rw [if_pos h]; simp [List.getD, List.getElem?_append_left h]
  · rw [if_neg h]
    by_cases h2 : k = l.length
    · rw [if_pos h2, h2]; simp [List.getD]
    · rw [if_neg h2]; simp only [List.getD]; rw [List.getElem?_eq_none (by simp; omega)]; rfl
theorem hist_push {R B : Int} {j n : Nat} {TS MS SS : List Int} {sp tot mark : Int} (h : Hist R B j TS MS SS n sp tot mark) : Hist R B (j + 1) (TS ++ [tot]) (MS ++ [mark]) (SS ++ [sp]) n sp tot mark := by
  have h1 := h.lt
  have h2 := h.lm
  have h3 := h.ls
  have h4 := h.tot0
  have h5 := h.mark0
  have h6 := h.sp0
  have h7 := h.totB
  refine ⟨by simp [h1], by simp [h2], by simp [h3], fun k hk => ?_, h.sp0, h.sp1, h.tot0, h.totB, h.mark0⟩
  rw [getD_snoc, getD_snoc, getD_snoc, h1, h2, h3]
  by_cases hlt : k < j
  · rw [if_pos hlt, if_pos hlt, if_pos hlt]
    exact h.all k hlt
  · have e : k = j := by omega
    rw [if_neg hlt, if_neg hlt, if_neg hlt, if_pos e, if_pos e, if_pos e, Int.sub_self, Int.mul_zero]
    omega
theorem hist_none {R B : Int} (hB : 0 ≤ B) {mark : Int} (hm : 0 ≤ mark) : Hist R B 0 [] [] [] 0 0 0 mark := ⟨rfl, rfl, rfl, fun k hk => by omega, by omega, by omega, by omega, hB, hm⟩

/-! What lies. -/
def Apart (v1 v2 v3 : Value) (b : Nat) : Prop := v1.ownBlock ≠ some b ∧ v2.ownBlock ≠ some b ∧ v3.ownBlock ≠ some b
structure Bud (W : World) (bs : List (Nat × Array Value × TypeId)) (p : Option Addr) (rows : List Rw) (v1 v2 v3 : Value) (l1 l2 l3 : List Int) (u : World) : Prop where
  boxes : ∀ (i : Nat) (g : Nat) (vs : Array Value) (T : TypeId), bs[i]? = some (g, vs, T) → u.heap[g]? = some (.cells vs T (0, 0)) ∧ T ≠ 3
  rows : RowsIn (Apart v1 v2 v3) u p rows
  o1 : OwnI W.heap.size u v1 l1
  o2 : OwnI W.heap.size u v2 l2
  o3 : OwnI W.heap.size u v3 l3
  d12 : ∀ b, v1.ownBlock = some b → v2.ownBlock ≠ some b
  d13 : ∀ b, v1.ownBlock = some b → v3.ownBlock ≠ some b
  d23 : ∀ b, v2.ownBlock = some b → v3.ownBlock ≠ some b
  below : Below W.heap.size W u
theorem own_heap {B : Nat} {u : World} {v : Value} {l : List Int} (h : OwnI B u v l) {b : Nat} (hb : v.ownBlock = some b) : ∃ cur, u.heap[b]? = some (.cells cur 3 (0, 0)) := by
  rcases h.2 with ⟨rfl, -⟩ | ⟨g, cap, cur, rfl, h1, h2, -⟩
  · simp [Value.ownBlock] at hb
  · simp only [Value.ownBlock, Option.some.injEq] at hb
    subst hb
    exact ⟨cur, h2⟩
theorem own_keep {B : Nat} {u u' : World} {v : Value} {l : List Int} (h : OwnI B u v l) (hk : ∀ b, v.ownBlock = some b → u'.heap[b]? = u.heap[b]?) : OwnI B u' v l := by
  refine ⟨h.1, ?_⟩
  rcases h.2 with h0 | ⟨g, cap, cur, rfl, h1, h2, h3⟩
  · exact .inl h0
  · exact .inr ⟨g, cap, cur, rfl, h1, (hk g rfl).trans h2, h3⟩
section
variable {W u u' : World} {bs : List (Nat × Array Value × TypeId)} {p : Option Addr} {rows : List Rw} {v1 v2 v3 v' : Value} {l1 l2 l3 l' : List Int}
theorem Bud.on (h : Bud W bs p rows v1 v2 v3 l1 l2 l3 u) (hb : Below u.heap.size u u') : Bud W bs p rows v1 v2 v3 l1 l2 l3 u' := by
  have hk : ∀ {v l}, OwnI W.heap.size u v l → ∀ b, v.ownBlock = some b → u'.heap[b]? = u.heap[b]? := fun {v l} ho b e => by
    obtain ⟨cur, hc⟩ := own_heap ho e
    exact hb.block b (lt_of_heap hc)
  exact ⟨fun i g vs T e => ⟨(hb.block _ (lt_of_heap (h.boxes i g vs T e).1)).trans (h.boxes i g vs T e).1, (h.boxes i g vs T e).2⟩, h.rows.below hb, own_keep h.o1 (hk h.o1), own_keep h.o2 (hk h.o2), own_keep h.o3 (hk h.o3), h.d12, h.d13, h.d23, h.below.trans (hb.mono h.below.size)⟩
theorem Bud.box (h : Bud W bs p rows v1 v2 v3 l1 l2 l3 u) (vs : Array Value) (T : TypeId) (hT : T ≠ 3) : Bud W ((u.heap.size, vs, T) :: bs) p rows v1 v2 v3 l1 l2 l3 (u.alloc (.cells vs T)) := by
  have h' := h.on ((Below.refl _ _).alloc (Nat.le_refl _) (.cells vs T))
  refine ⟨fun i g vs' T' e => ?_, h'.rows, h'.o1, h'.o2, h'.o3, h'.d12, h'.d13, h'.d23, h'.below⟩
  cases i with
  | zero =>
    simp only [List.getElem?_cons_zero, Option.some.injEq, Prod.mk.injEq] at e
    obtain ⟨rfl, rfl, rfl⟩ := e
    exact ⟨heap_alloc_new _ _, hT⟩
  | succ i => exact h'.boxes i g vs' T' (by simpa using e)
theorem Bud.sub {bs' : List (Nat × Array Value × TypeId)} (h : Bud W bs p rows v1 v2 v3 l1 l2 l3 u) (hb : ∀ x ∈ bs', x ∈ bs) : Bud W bs' p rows v1 v2 v3 l1 l2 l3 u := by
  refine ⟨fun i g vs T e => ?_, h.rows, h.o1, h.o2, h.o3, h.d12, h.d13, h.d23, h.below⟩
  obtain ⟨j, hj, e2⟩ := List.mem_iff_getElem.1 (hb _ (List.mem_of_getElem? e))
  exact h.boxes j g vs T (by rw [List.getElem?_eq_getElem hj, e2])
/-- New rows, that lie apart. -/
theorem Bud.turn {p' : Option Addr} {rows' : List Rw} (h : Bud W bs p rows v1 v2 v3 l1 l2 l3 u) (hb : Below u.heap.size u u') (hr : RowsIn (fun b => Apart v1 v2 v3 b ∨ u.heap.size ≤ b) u' p' rows') : Bud W bs p' rows' v1 v2 v3 l1 l2 l3 u' := by
  have h' := h.on hb
  refine ⟨h'.boxes, hr.on (fun b hb2 _ => ?_) (fun b _ _ => rfl), h'.o1, h'.o2, h'.o3, h'.d12, h'.d13, h'.d23, h'.below⟩
  rcases hb2 with hb2 | hb2
  · exact hb2
  · have key : ∀ {v l}, OwnI W.heap.size u v l → v.ownBlock ≠ some b := fun {v l} ho e => by
      obtain ⟨cur, hc⟩ := own_heap ho e
      have := lt_of_heap hc
      omega
    exact ⟨key h.o1, key h.o2, key h.o3⟩
/-- The table's box is set. -/
theorem Bud.setTab {g n : Nat} {x y : Int} {q pp : Option Addr} {m k c : Nat} (h : Bud W ((g, #[.int .i64 x, .slice q m k], 24) :: bs) p rows v1 v2 v3 l1 l2 l3 u) (hg : W.heap.size ≤ g) (hd : ∀ x ∈ bs, x.1 ≠ g ∨ x.2.2 ≠ 24) :
    Bud W ((g, #[.int .i64 y, .slice pp n c], 24) :: bs) p rows v1 v2 v3 l1 l2 l3 ((u.setCell ⟨g, 0, none⟩ (.int .i64 y)).setCell ⟨g, 1, none⟩ (.slice pp n c)) := by
  obtain ⟨h1, h1t⟩ := h.boxes 0 _ _ _ rfl
  have h2 : (u.setCell ⟨g, 0, none⟩ (.int .i64 y)).heap[g]? = some (.cells #[.int .i64 y, .slice q m k] 24 (0, 0)) := by rw [heap_set _ 0 _ _ h1]; rfl
  have h3 : ((u.setCell ⟨g, 0, none⟩ (.int .i64 y)).setCell ⟨g, 1, none⟩ (.slice pp n c)).heap[g]? = some (.cells #[.int .i64 y, .slice pp n c] 24 (0, 0)) := by rw [heap_set _ 1 _ _ h2]; rfl
  have hne : ∀ {v l}, OwnI W.heap.size u v l → ∀ b, v.ownBlock = some b → ((u.setCell ⟨g, 0, none⟩ (.int .i64 y)).setCell ⟨g, 1, none⟩ (.slice pp n c)).heap[b]? = u.heap[b]? := fun {v l} ho b e => by
    obtain ⟨cur, hc⟩ := own_heap ho e
    have hb : b ≠ g := by
      rintro rfl
      rw [h1] at hc
      simp only [Option.some.injEq, Obj.cells.injEq] at hc
      exact h1t hc.2.1
    exact (Below.heap_setCell _ _ _ _ hb).trans (Below.heap_setCell _ _ _ _ hb)
  refine ⟨fun i g' vs T e => ?_, rowsin_tab h2 (rowsin_tab h1 h.rows), own_keep h.o1 (hne h.o1), own_keep h.o2 (hne h.o2), own_keep h.o3 (hne h.o3), h.d12, h.d13, h.d23, (h.below.setCell hg _).setCell hg _⟩
  cases i with
  | zero =>
    simp only [List.getElem?_cons_zero, Option.some.injEq, Prod.mk.injEq] at e
    obtain ⟨rfl, rfl, rfl⟩ := e
    exact ⟨h3, h1t⟩
  | succ i =>
    have e' : bs[i]? = some (g', vs, T) := by simpa using e
    obtain ⟨k1, k2⟩ := h.boxes (i + 1) g' vs T e
    have hn : g' ≠ g := by
      rintro rfl
      rw [h1] at k1
      simp only [Option.some.injEq, Obj.cells.injEq] at k1
      rcases hd _ (List.mem_of_getElem? e') with h4 | h4
      · exact h4 rfl
      · exact h4 k1.2.1.symm
    exact ⟨((Below.heap_setCell _ _ _ _ hn).trans (Below.heap_setCell _ _ _ _ hn)).trans k1, k2⟩
/-- An int is appended. -/
theorem Bud.push1 (h : Bud W bs p rows v1 v2 v3 l1 l2 l3 u) (ho : OwnI W.heap.size u' v' l') (hg : u.grownBy u' v1.ownBlock) (ha : v'.ownBlock = v1.ownBlock ∨ v'.ownBlock = some u.heap.size) : Bud W bs p rows v' v2 v3 l' l2 l3 u' := by
  have hk : ∀ b, b < u.heap.size → v1.ownBlock ≠ some b → u'.heap[b]? = u.heap[b]? := fun b hb hn => hg.block b hb (fun e => hn e.symm)
  have key : ∀ {v l}, OwnI W.heap.size u v l → ∀ b, v.ownBlock = some b → b < u.heap.size := fun {v l} ho b e => by
    obtain ⟨cur, hc⟩ := own_heap ho e
    exact lt_of_heap hc
  have dis : ∀ {v l}, OwnI W.heap.size u v l → (∀ b, v1.ownBlock = some b → v.ownBlock ≠ some b) → ∀ b, v'.ownBlock = some b → v.ownBlock ≠ some b := fun {v l} ho hd b e e2 => by
    rcases ha with ha | ha
    · exact hd b (by rw [← ha]; exact e) e2
    · have h1 := key ho b e2
      rw [ha] at e
      simp only [Option.some.injEq] at e
      omega
  refine ⟨fun i g vs T e => ?_, h.rows.on (fun b hb hlt => ⟨fun e => ?_, hb.2.1, hb.2.2⟩) (fun b hb hlt => hk b hlt hb.1), ho, own_keep h.o2 (fun b e => hk b (key h.o2 b e) (fun e1 => h.d12 b e1 e)), own_keep h.o3 (fun b e => hk b (key h.o3 b e) (fun e1 => h.d13 b e1 e)), dis h.o2 h.d12, dis h.o3 h.d13, h.d23,
    h.below.grown hg h.below.size (fun k e => ?_)⟩
  · obtain ⟨k1, k2⟩ := h.boxes i g vs T e
    refine ⟨(hk g (lt_of_heap k1) (fun e2 => ?_)).trans k1, k2⟩
    obtain ⟨cur, hc⟩ := own_heap h.o1 e2
    rw [k1] at hc
    simp only [Option.some.injEq, Obj.cells.injEq] at hc
    exact k2 hc.2.1
  · rcases ha with ha | ha
    · exact hb.1 (by rw [← ha]; exact e)
    · rw [ha] at e
      simp only [Option.some.injEq] at e
      omega
  · exact (World.ownsRow.lt h.o1 k e).1
/-- The lists in another order. -/
theorem Bud.rot (h : Bud W bs p rows v1 v2 v3 l1 l2 l3 u) : Bud W bs p rows v2 v3 v1 l2 l3 l1 u :=
  ⟨h.boxes, h.rows.on (fun _ hb _ => ⟨hb.2.1, hb.2.2, hb.1⟩) (fun _ _ _ => rfl), h.o2, h.o3, h.o1, h.d23, fun b e e2 => h.d12 b e2 e, fun b e e2 => h.d13 b e2 e, h.below⟩
end
theorem push_int {u : World} {ops : Array Oper} {rest : List Oper} {o : Oper} {a : Act} {Q : Exit → Act → World → Prop} (hgd : o.guard = none) (s y : Operand)
    (ho : o.op = .call { callee := .builtin .append, args := #[s, y], argTypes := #[46, 46] })
    (B : Nat) (v : Value) (hs : a.eval s = v) (l : List Int) (n : Nat) (hn : l.length = n) (hown : OwnI B u v l) (hB : B ≤ u.heap.size)
    (g : Nat) (x : Int) (hy : a.eval y = .slice (some ⟨g, 0, Option.none⟩) 1 1) (hg : u.heap[g]? = some (.cells #[.int .i64 x] 3 (0, 0))) (hlen : n ≤ 100000)
    (h : ∀ p c w', Hid (OwnI B w' (.slice p (n + 1) c) (l ++ [x])) → u.grownBy w' v.ownBlock → ((Value.slice p (n + 1) c).ownBlock = v.ownBlock ∨ (Value.slice p (n + 1) c).ownBlock = some u.heap.size) → wpList Try.prog ops Q rest (a.put o.dst (.slice p (n + 1) c)) w') : wpList Try.prog ops Q (o :: rest) a u := by
  subst hn
  obtain ⟨i0, hi, hz0, hz1, hz2⟩ := info_parts infoI
  refine wpList_append_own_at _ hgd s y 46 ho B 3 i0 (.int .i64 0) 1 8 Try.underlying46 hi hz0 hz1 hz2 rfl (by decide) v l.length (cellsI l) hs hown ⟨g, 0, Option.none⟩ 1 1 [.int .i64 x] hy rfl (World.news_of_block hg) ?_ (by unfold maxLen; omega) (by omega) hB ?_
  · intro z hz
    simp at hz
    rw [hz]; rfl
  · intro v' w' ho2 hg2 _ hat
    have R : OwnI B w' v' (l ++ [x]) := OwnI.app (xs := [x]) ho2 rfl
    obtain ⟨p, c, rfl⟩ : ∃ p c, v' = .slice p (l.length + 1) c := by
      rcases ho2.2 with ⟨_, h0⟩ | ⟨g, cap, cur, rfl, _⟩
      · omega
      · exact ⟨_, cap, rfl⟩
    exact h p c w' R hg2 hat
end Go.Proofs.Ytcnnepmhdccipaa.Ledger
