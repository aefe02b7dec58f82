/-
  Words for memory: leases, the document's wallet, what lies of it, and what a step of it leaves alone. No conditions beyond those that each names.
-/
import Derived.Test.YtlipepbemofihaaChecked
import Derived.Test.YtlipepbemofihaaLeasePlain
import Derived.Test.YtlipepbemofihaaCodecWords
import Derived.Laws.AppendOwnNone
import Derived.Outline
namespace Go.Proofs.Ytlipepbemofihaa.Lease
open Go.RowKit
open _root_.Go.Proofs.Ytlipepbemofihaa.Codec (own_below own_lower own_stays lt_of_heap frozen_of heap_set grown_set below_new)

def val (x : Lz) : Value := .agg #[.int .i64 x.key, .int .i64 x.gen, .int .i64 x.amount, .int .i64 x.spent, .int .i64 x.til]
theorem infoZ : (Try.prog.info? 52).map (fun i => (i.zero, i.size, i.bytes)) = some (some (.agg #[.int .i64 0, .int .i64 0, .int .i64 0, .int .i64 0, .int .i64 0]), 5, 40) := by kernel_rfl
def cells5 (l : List Lz) : List Value := l.flatMap fun x => [.int .i64 x.key, .int .i64 x.gen, .int .i64 x.amount, .int .i64 x.spent, .int .i64 x.til]
theorem cells5_snoc (l : List Lz) (x : Lz) : cells5 (l ++ [x]) = cells5 l ++ [.int .i64 x.key, .int .i64 x.gen, .int .i64 x.amount, .int .i64 x.spent, .int .i64 x.til] := by simp [cells5]
theorem cells5_len (l : List Lz) : (cells5 l).length = l.length * 5 := by
  induction l with
  | nil => rfl
  | cons s l ih =>
    simp only [cells5, List.flatMap_cons, List.length_append, List.length_cons, List.length_nil] at ih ⊢
    omega
theorem cells5_one (l : List Lz) : ∀ u ∈ cells5 l, u.oneCell' = true := by
  intro u hu
  simp only [cells5, List.mem_flatMap] at hu
  obtain ⟨s, _, hs⟩ := hu
  simp at hs
  rcases hs with rfl | rfl | rfl | rfl | rfl <;> rfl
theorem cells5_at : ∀ (l : List Lz) (j : Nat) (_ : j < l.length), (cells5 l)[j * 5]? = some (.int .i64 (l.getD j z).key) ∧ (cells5 l)[j * 5 + 1]? = some (.int .i64 (l.getD j z).gen) ∧ (cells5 l)[j * 5 + 2]? = some (.int .i64 (l.getD j z).amount) ∧ (cells5 l)[j * 5 + 3]? = some (.int .i64 (l.getD j z).spent) ∧ (cells5 l)[j * 5 + 4]? = some (.int .i64 (l.getD j z).til)
  | [], j, hj => by simp at hj
  | x :: l, 0, _ => by simp [cells5]
  | x :: l, j + 1, hj => by
    have := cells5_at l j (by simpa using hj)
    have e : cells5 (x :: l) = [.int .i64 x.key, .int .i64 x.gen, .int .i64 x.amount, .int .i64 x.spent, .int .i64 x.til] ++ cells5 l := by simp [cells5]
    rw [e]
    have s : ∀ n, ([Value.int .i64 x.key, .int .i64 x.gen, .int .i64 x.amount, .int .i64 x.spent, .int .i64 x.til] ++ cells5 l)[5 + n]? = (cells5 l)[n]? := fun n => by
      rw [List.getElem?_append_right (by simp)]; simp
    have d : (x :: l).getD (j + 1) z = l.getD j z := by simp [List.getD]
    rw [d]
    refine ⟨?_, ?_, ?_, ?_, ?_⟩
    · rw [show (j + 1) * 5 = 5 + j * 5 by omega, s]; exact this.1
    · rw [show (j + 1) * 5 + 1 = 5 + (j * 5 + 1) by omega, s]; exact this.2.1
    · rw [show (j + 1) * 5 + 2 = 5 + (j * 5 + 2) by omega, s]; exact this.2.2.1
    · rw [show (j + 1) * 5 + 3 = 5 + (j * 5 + 3) by omega, s]; exact this.2.2.2.1
    · rw [show (j + 1) * 5 + 4 = 5 + (j * 5 + 4) by omega, s]; exact this.2.2.2.2
/-- The five cells of a lease. -/
def At (w : World) (b o : Nat) (x : Lz) : Prop := w.cell? ⟨b, o, none⟩ = some (.int .i64 x.key) ∧ w.cell? ⟨b, o + 1, none⟩ = some (.int .i64 x.gen) ∧ w.cell? ⟨b, o + 2, none⟩ = some (.int .i64 x.amount) ∧ w.cell? ⟨b, o + 3, none⟩ = some (.int .i64 x.spent) ∧ w.cell? ⟨b, o + 4, none⟩ = some (.int .i64 x.til)
/-- Leases that lie. -/
def Lies (w : World) (p : Option Addr) (l : List Lz) : Prop := l = [] ∨ ∃ b o, p = some ⟨b, o, none⟩ ∧ ∀ j, j < l.length → At w b (o + j * 5) (l.getD j z)
theorem cell_on {w w' : World} {b o : Nat} {v : Value} (h : w.cell? ⟨b, o, none⟩ = some v) (hb : Below w.heap.size w w') : w'.cell? ⟨b, o, none⟩ = some v :=
  (hb.cell (p := ⟨b, o, none⟩) (World.block_lt_of_cell? _ _ h)).trans h
theorem At.below {w w' : World} {b o : Nat} {x : Lz} (h : At w b o x) (hb : Below w.heap.size w w') : At w' b o x :=
  ⟨cell_on h.1 hb, cell_on h.2.1 hb, cell_on h.2.2.1 hb, cell_on h.2.2.2.1 hb, cell_on h.2.2.2.2 hb⟩
theorem Lies.below {w w' : World} {p : Option Addr} {l : List Lz} (h : Lies w p l) (hb : Below w.heap.size w w') : Lies w' p l := by
  rcases h with h | ⟨b, o, e, hc⟩
  · exact .inl h
  · exact .inr ⟨b, o, e, fun j hj => (hc j hj).below hb⟩
theorem lies_at {w : World} {p : Option Addr} {l : List Lz} (h : Lies w p l) {j : Nat} (hj : j < l.length) : ∃ b o, p = some ⟨b, o, none⟩ ∧ At w b (o + j * 5) (l.getD j z) := by
  rcases h with h | ⟨b, o, e, hc⟩
  · rw [h] at hj; simp at hj
  · exact ⟨b, o, e, hc j hj⟩

/-- Leases (of element type E) that a call owns. -/
def Own (E : TypeId) (B : Nat) (w : World) (v : Value) (l : List Lz) : Prop := w.ownsRow B E 5 v l.length (cells5 l)
section
variable {w w' : World} {E : TypeId} {B b : Nat} {v : Value} {l : List Lz}
theorem Own.none (E : TypeId) (B : Nat) (w : World) : Own E B w (.slice Option.none 0 0) [] := World.ownsRow_nil _ _ _ _
theorem Own.on (h : Own E B w v l) (hb : Below w.heap.size w w') : Own E B w' v l := own_below h hb
theorem Own.lies (h : Own E B w v l) : ∃ p c, v = .slice p l.length c ∧ Lies w p l := by
  have ho := h
  rcases h.2 with ⟨rfl, h0⟩ | ⟨g, cap, cur, rfl, h1, h2, h3⟩
  · exact ⟨Option.none, 0, by rw [h0], .inl (List.eq_nil_of_length_eq_zero h0)⟩
  · refine ⟨_, cap, rfl, .inr ⟨g, 0, rfl, fun j hj => ?_⟩⟩
    obtain ⟨c0, c1, c2, c3, c4⟩ := cells5_at l j hj
    have hc := World.ownsRow.cells (g := g) ho rfl
    have k0 := hc _ _ c0
    have k1 := hc _ _ c1
    have k2 := hc _ _ c2
    have k3 := hc _ _ c3
    have k4 := hc _ _ c4
    rw [Codec.add_at] at k0 k1 k2 k3 k4
    rw [← Nat.add_assoc] at k1 k2 k3 k4
    exact ⟨k0, k1, k2, k3, k4⟩
theorem Own.set {o : Nat} {u : Value} (h : Own E B w v l) (hb : b < B) : Own E B (w.setCell ⟨b, o, Option.none⟩ u) v l := by
  refine ⟨h.1, ?_⟩
  rcases h.2 with h0 | ⟨g, cap, cur, rfl, h1, h2, h3⟩
  · exact .inl h0
  · exact .inr ⟨g, cap, cur, rfl, h1, (Below.heap_setCell _ _ _ _ (by simp; omega)).trans h2, h3⟩

theorem lt_heap {w : World} {g : Nat} {o : Obj} (h : w.heap[g]? = some o) : g < w.heap.size := (Array.getElem?_eq_some_iff.1 h).1
/-- What is of none of these types stays. -/
structure Kept (ts : List TypeId) (w w' : World) : Prop where
  size : w.heap.size ≤ w'.heap.size
  obj : ∀ (g : Nat) (o : Obj), w.heap[g]? = some o → (∀ cs t z, o = Obj.cells cs t z → t ∉ ts) → w'.heap[g]? = some o
theorem Kept.block {ts : List TypeId} {w w' : World} (h : Kept ts w w') (g : Nat) (cs : Array Value) (t : TypeId) (z : Nat × Nat) (e : w.heap[g]? = some (Obj.cells cs t z)) (ht : t ∉ ts) : w'.heap[g]? = some (Obj.cells cs t z) :=
  h.obj g _ e fun cs' t' z' k => by
    simp only [Obj.cells.injEq] at k
    exact k.2.1 ▸ ht
/-- The document's wallet. -/
def Wl (B : Nat) (w : World) (v : Nat) (l : List Lz) : Prop := B ≤ v ∧ ∃ y, w.heap[v]? = some (.cells #[y] 29 (0, 0)) ∧ Own 52 B w y l
/-- The document's step. -/
structure Step (B : Nat) (w : World) (v : Nat) (l : List Lz) (w' : World) : Prop where
  wl : Wl B w' v l
  kept : Kept [29] w w'
  below : Below B w w'
theorem Wl.lt (h : Wl B w b l) : b < w.heap.size := by
  obtain ⟨_, y, h, _⟩ := h
  exact lt_of_heap h
theorem Wl.below (h : Wl B w b l) (hb : Below w.heap.size w w') : Wl B w' b l := by
  obtain ⟨h0, y, h1, h2⟩ := h
  exact ⟨h0, y, (hb.block b (lt_of_heap h1)).trans h1, h2.on hb⟩
theorem Wl.cell (h : Wl B w b l) : ∃ p c, w.cell? ⟨b, 0, Option.none⟩ = some (.slice p l.length c) ∧ Lies w p l := by
  obtain ⟨_, y, h1, h2⟩ := h
  obtain ⟨p, c, rfl, hl⟩ := h2.lies
  exact ⟨p, c, by rw [cell_of_row w b 0 _ _ (0, 0) h1]; rfl, hl⟩
theorem Step.same (h : Wl B w b l) (hB : B ≤ w.heap.size) (hb : Below w.heap.size w w') : Step B w b l w' :=
  ⟨h.below hb, ⟨hb.size, fun g _ e _ => (hb.block g (lt_heap e)).trans e⟩, hb.mono hB⟩
theorem Step.trans {w2 : World} {l' l2 : List Lz} (h : Step B w b l' w') (k : Step B w' b l2 w2) : Step B w b l2 w2 :=
  ⟨k.wl, ⟨Nat.le_trans h.kept.size k.kept.size, fun g o e ht => k.kept.obj g o (h.kept.obj g o e ht) ht⟩, h.below.trans k.below⟩
/-- New leases are stored. -/
theorem Wl.store {l' : List Lz} {y : Value} (h : Wl B w b l) (hB : B ≤ w.heap.size) (hb : Below w.heap.size w w') (ho : Own 52 w.heap.size w' y l') :
    w'.frozen? ⟨b, 0, Option.none⟩ = false ∧ (∃ u, w'.cell? ⟨b, 0, Option.none⟩ = some u) ∧ Hid (Step B w b l' (w'.setCell ⟨b, 0, Option.none⟩ y)) := by
  obtain ⟨h0, y0, h1, h2⟩ := h
  have hv : w'.heap[b]? = _ := (hb.block b (lt_of_heap h1)).trans h1
  refine ⟨frozen_of hv, ⟨_, by rw [cell_of_row w' b 0 _ _ (0, 0) hv]; rfl⟩, ⟨⟨h0, y, ?_, ?_⟩, ⟨Nat.le_trans hb.size (by simp), ?_⟩, (hb.mono hB).setCell (p := ⟨b, 0, Option.none⟩) h0 _⟩⟩
  · rw [heap_set b 0 _ _ hv]; rfl
  · exact own_lower (Own.set ho (lt_of_heap h1)) hB
  · intro g o e ht
    have hne : g ≠ b := by
      rintro rfl
      rw [h1] at e
      simp only [Option.some.injEq] at e
      exact ht _ _ _ e.symm (by simp)
    exact (Below.heap_setCell _ _ _ _ hne).trans ((hb.block g (lt_heap e)).trans e)
end
theorem box5 {w : World} {b : Nat} {v0 v1 v2 v3 v4 : Value} {T : TypeId} (h : w.heap[b]? = some (.cells #[v0, v1, v2, v3, v4] T (0, 0))) : w.cell? ⟨b, 0, none⟩ = some v0 ∧ w.cell? ⟨b, 1, none⟩ = some v1 ∧ w.cell? ⟨b, 2, none⟩ = some v2 ∧ w.cell? ⟨b, 3, none⟩ = some v3 ∧ w.cell? ⟨b, 4, none⟩ = some v4 :=
  ⟨by rw [cell_of_row w b 0 _ _ (0, 0) h]; rfl, by rw [cell_of_row w b 1 _ _ (0, 0) h]; rfl, by rw [cell_of_row w b 2 _ _ (0, 0) h]; rfl, by rw [cell_of_row w b 3 _ _ (0, 0) h]; rfl, by rw [cell_of_row w b 4 _ _ (0, 0) h]; rfl⟩
/-- A lease, just laid, is appended. -/
theorem push_lease {u : World} {ops : Array Oper} {rest : List Oper} {o : Oper} {a : Act} {Q : Exit → Act → World → Prop} (hgd : o.guard = none) (s y : Operand)
    (ho : o.op = .call { callee := .builtin .append, args := #[s, y], argTypes := #[27, 27] })
    (w0 wr : World) (v : Value) (hs : a.eval s = v) (l : List Lz) (n : Nat) (hn : l.length = n) (hown : Own 52 w0.heap.size wr v l) (hbw : Below w0.heap.size w0 wr) (hu : Below wr.heap.size wr u)
    (g : Nat) (x : Lz) (hy : a.eval y = .slice (some ⟨g, 0, Option.none⟩) 1 1)
    (hg : (u.alloc (.cells #[.int .i64 x.key, .int .i64 x.gen, .int .i64 x.amount, .int .i64 x.spent, .int .i64 x.til] 52)).heap[g]? = some (.cells #[.int .i64 x.key, .int .i64 x.gen, .int .i64 x.amount, .int .i64 x.spent, .int .i64 x.til] 52 (0, 0))) (hlen : n ≤ 100000)
    (h : ∀ p c w', Hid (Own 52 w0.heap.size w' (.slice p (n + 1) c) (l ++ [x])) → Below w0.heap.size w0 w' → wpList Try.prog ops Q rest (a.put o.dst (.slice p (n + 1) c)) w') : wpList Try.prog ops Q (o :: rest) a (u.alloc (.cells #[.int .i64 x.key, .int .i64 x.gen, .int .i64 x.amount, .int .i64 x.spent, .int .i64 x.til] 52)) := by
  subst hn
  obtain ⟨i0, hi, hz0, hz1, hz2⟩ := info_parts infoZ
  have hua : Below wr.heap.size wr (u.alloc (.cells #[.int .i64 x.key, .int .i64 x.gen, .int .i64 x.amount, .int .i64 x.spent, .int .i64 x.til] 52)) := hu.alloc hu.size _
  refine wpList_append_own _ hgd s y 27 ho w0.heap.size 52 i0 (.agg #[.int .i64 0, .int .i64 0, .int .i64 0, .int .i64 0, .int .i64 0]) 5 40 Try.underlying27 hi hz0 hz1 hz2 rfl (by decide) v l.length (cells5 l) hs (own_below hown hua) ⟨g, 0, Option.none⟩ 1 1 [.int .i64 x.key, .int .i64 x.gen, .int .i64 x.amount, .int .i64 x.spent, .int .i64 x.til] hy rfl (World.news_of_block hg) ?_ (by unfold maxLen; omega) (by omega) (Nat.le_trans hbw.size hua.size) ?_
  · intro z hz
    simp at hz
    rcases hz with rfl | rfl | rfl | rfl | rfl <;> rfl
  · intro v' w' ho2 hg2 _
    have hb2 := (hbw.trans (hua.mono hbw.size)).grown hg2 (Nat.le_trans hbw.size hua.size) (fun k hk => (World.ownsRow.lt hown k hk).1)
    have R : Own 52 w0.heap.size w' v' (l ++ [x]) := by
      unfold Own
      rw [cells5_snoc, List.length_append]
      exact ho2
    obtain ⟨p, c, rfl⟩ : ∃ p c, v' = .slice p (l.length + 1) c := by
      rcases ho2.2 with ⟨_, h0⟩ | ⟨g, cap, cur, rfl, _⟩
      · omega
      · exact ⟨_, cap, rfl⟩
    exact h p c w' R hb2
end Go.Proofs.Ytlipepbemofihaa.Lease
