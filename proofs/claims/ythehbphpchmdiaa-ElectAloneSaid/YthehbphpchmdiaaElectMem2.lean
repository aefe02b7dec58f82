/-
  What is appended to a hall's rows; a pointer that is laid anew.
-/
import Derived.Test.YthehbphpchmdiaaElectMem
import Derived.Maps.AppendAt
namespace Go.Proofs.Ythehbphpchmdiaa.Elect
open Go.RowKit
open _root_.Go.Proofs.Ythehbphpchmdiaa.Codec (lt_of_heap frozen_of heap_set below_new)
open _root_.Go.Proofs.Ythehbphpchmdiaa.Kit (Enc Lies Own At Laid cell_on lt_heap take_snoc below_drewN ints)

/-- One element, just laid, is appended to a row of its own: what turns, and where the row lies then. -/
theorem push_own {α : Type} {E : Enc α} {T : TypeId} {P : Program} {ST : TypeId} (L : Laid P E T ST) {u : World} {ops : Array Oper} {rest : List Oper} {o : Oper} {a : Act} {Q : Exit → Act → World → Prop} (hgd : o.guard = none) (s y : Operand)
    (ho : o.op = .call { callee := .builtin .append, args := #[s, y], argTypes := #[ST, ST] })
    (C : Nat) (v : Value) (hs : a.eval s = v) (l : List α) (n : Nat) (hn : l.length = n) (hown : Own E T C u v l) (hC : C ≤ u.heap.size)
    (g : Nat) (x : α) {tg : TypeId} {fr : Nat × Nat} (hy : a.eval y = .slice (some ⟨g, 0, none⟩) 1 1) (hg : u.heap[g]? = some (.cells (E.cs x).toArray tg fr)) (hlen : n ≤ 100000)
    (h : ∀ p c w', Hid (Own E T C w' (.slice p (n + 1) c) (l ++ [x])) → (∀ k, v.ownBlock ≠ some k → k < u.heap.size → w'.heap[k]? = u.heap[k]?) → ((Value.slice p (n + 1) c).ownBlock = v.ownBlock ∨ (Value.slice p (n + 1) c).ownBlock = some u.heap.size) → Below C u w' → wpList P ops Q rest (a.put o.dst (.slice p (n + 1) c)) w') : wpList P ops Q (o :: rest) a u := by
  subst hn
  obtain ⟨zv, byt, hi0, hzc, hby⟩ := L.info
  obtain ⟨i0, hi, hz0, hz1, hz2⟩ := info_parts hi0
  have hmul : (l.length + 1) * byt ≤ 100001 * 1000 := Nat.mul_le_mul (by omega) hby
  refine wpList_append_own_at _ hgd s y ST ho C T i0 zv E.n byt L.sl hi hz0 hz1 hz2 hzc E.pos v l.length (Kit.cells E l) hs hown ⟨g, 0, none⟩ 1 1 (E.cs x) hy (by rw [E.len, Nat.one_mul]) (fun j z hz => World.news_of_block hg j z (by simpa using hz)) (E.one x) (by unfold maxLen; omega) (by omega) hC ?_
  intro v' w' ho2 hg2 _ hat
  have hb2 : Below C u w' := (Below.refl C u).grown hg2 hC (fun k hk => (World.ownsRow.lt hown k hk).1)
  have R : Own E T C w' v' (l ++ [x]) := by
    unfold Kit.Own
    rw [Kit.cells_snoc, List.length_append]
    exact ho2
  obtain ⟨p, c, rfl⟩ : ∃ p c, v' = .slice p (l.length + 1) c := by
    rcases ho2.2 with ⟨_, h0⟩ | ⟨g, cap, cur, rfl, _⟩
    · omega
    · exact ⟨_, cap, rfl⟩
  exact h p c w' R (fun k hk hl => hg2.block k hl (fun e => hk e.symm)) hat hb2
section
variable {F G : Nat → Prop} {C hb n : Nat} {u w' : World} {y1 y2 y3 y' : Value} {qs : List Nat} {fr : List Rs} {won : List Int} {bs : List (Nat × Obj)}
theorem Hm.frames (h : Hm F C u hb n y1 y2 y3 qs fr won bs) {r : Rs} (ho : Own resE 40 C w' y' (fr ++ [r])) (hs : ∀ k, y2.ownBlock ≠ some k → k < u.heap.size → w'.heap[k]? = u.heap[k]?) (hat : y'.ownBlock = y2.ownBlock ∨ y'.ownBlock = some u.heap.size) :
    Hm (fun g => F g ∨ g = u.heap.size) C (w'.setCell ⟨hb, 2, none⟩ y') hb n y1 y' y3 qs (fr ++ [r]) won bs ∧ (∀ g, ¬ F g → g < u.heap.size → (w'.setCell ⟨hb, 2, none⟩ y').heap[g]? = u.heap[g]?) := by
  obtain ⟨a1, a2, a3, a4, a5, a6⟩ := h.apart
  have hbl := lt_heap h.hall
  have hh := (hs hb a2 hbl).trans h.hall
  have set : ∀ g, g ≠ hb → (w'.setCell ⟨hb, 2, none⟩ y').heap[g]? = w'.heap[g]? := fun g hg => Below.heap_setCell _ _ _ _ hg
  have hy' : y'.ownBlock ≠ some hb := fun e => by
    rcases hat with k | k
    · exact a2 (k ▸ e)
    · rw [k] at e; simp at e; omega
  have same : ∀ g, y2.ownBlock ≠ some g → g ≠ hb → g < u.heap.size → (w'.setCell ⟨hb, 2, none⟩ y').heap[g]? = u.heap[g]? := fun g h1 h2 h3 => (set g h2).trans (hs g h1 h3)
  refine ⟨⟨?_, .inl h.fh, h.low, own_stays h.o1 fun g hg hl => same g (a4 g hg).1 (fun e => a1 (e ▸ hg)) hl, own_stays ho fun g hg hl => set g (fun e => hy' (e ▸ hg)), own_stays h.o3 fun g hg hl => same g (a6 g hg).2 (fun e => a3 (e ▸ hg)) hl, fun g hg => .inl (h.f1 g hg), fun g hg => ?_, fun g hg => .inl (h.f3 g hg), fun x hx => ?_⟩, fun g hg hl => same g (fun e => hg (h.f2 g e)) (fun e => hg (e ▸ h.fh)) hl⟩
  · exact heap_set hb 2 _ y' hh
  · rcases hat with k | k
    · exact .inl (h.f2 g (k ▸ hg))
    · rw [k] at hg
      exact .inr (by simpa using hg.symm)
  · obtain ⟨b1, b2, b3, b4, b5, b6, b7⟩ := h.box x hx
    refine ⟨.inl b1, (same _ b6 b3 (lt_heap b2)).trans b2, b3, b4, b5, fun e => ?_, b7⟩
    rcases hat with k | k
    · exact b6 (k ▸ e)
    · rw [k] at e
      have := lt_heap b2
      simp at e
      omega
theorem Hm.wons (h : Hm F C u hb n y1 y2 y3 qs fr won bs) {b : Int} (ho : Own ints 3 C w' y' (won ++ [b])) (hs : ∀ k, y3.ownBlock ≠ some k → k < u.heap.size → w'.heap[k]? = u.heap[k]?) (hat : y'.ownBlock = y3.ownBlock ∨ y'.ownBlock = some u.heap.size) :
    Hm (fun g => F g ∨ g = u.heap.size) C (w'.setCell ⟨hb, 3, none⟩ y') hb n y1 y2 y' qs fr (won ++ [b]) bs ∧ (∀ g, ¬ F g → g < u.heap.size → (w'.setCell ⟨hb, 3, none⟩ y').heap[g]? = u.heap[g]?) := by
  obtain ⟨a1, a2, a3, a4, a5, a6⟩ := h.apart
  have hbl := lt_heap h.hall
  have hh := (hs hb a3 hbl).trans h.hall
  have set : ∀ g, g ≠ hb → (w'.setCell ⟨hb, 3, none⟩ y').heap[g]? = w'.heap[g]? := fun g hg => Below.heap_setCell _ _ _ _ hg
  have hy' : y'.ownBlock ≠ some hb := fun e => by
    rcases hat with k | k
    · exact a3 (k ▸ e)
    · rw [k] at e; simp at e; omega
  have same : ∀ g, y3.ownBlock ≠ some g → g ≠ hb → g < u.heap.size → (w'.setCell ⟨hb, 3, none⟩ y').heap[g]? = u.heap[g]? := fun g h1 h2 h3 => (set g h2).trans (hs g h1 h3)
  refine ⟨⟨?_, .inl h.fh, h.low, own_stays h.o1 fun g hg hl => same g (a4 g hg).2 (fun e => a1 (e ▸ hg)) hl, own_stays h.o2 fun g hg hl => same g (a5 g hg).2 (fun e => a2 (e ▸ hg)) hl, own_stays ho fun g hg hl => set g (fun e => hy' (e ▸ hg)), fun g hg => .inl (h.f1 g hg), fun g hg => .inl (h.f2 g hg), fun g hg => ?_, fun x hx => ?_⟩, fun g hg hl => same g (fun e => hg (h.f3 g e)) (fun e => hg (e ▸ h.fh)) hl⟩
  · exact heap_set hb 3 _ y' hh
  · rcases hat with k | k
    · exact .inl (h.f3 g (k ▸ hg))
    · rw [k] at hg
      exact .inr (by simpa using hg.symm)
  · obtain ⟨b1, b2, b3, b4, b5, b6, b7⟩ := h.box x hx
    refine ⟨.inl b1, (same _ b7 b3 (lt_heap b2)).trans b2, b3, b4, b5, b6, fun e => ?_⟩
    rcases hat with k | k
    · exact b7 (k ▸ e)
    · rw [k] at e
      have := lt_heap b2
      simp at e
      omega
end
end Go.Proofs.Ythehbphpchmdiaa.Elect
