/-
  Two rows of one element type that a call owns, each in a block of its own: what is appended to the one leaves the other. Any program.
-/
import Derived.Test.YtdcclmellabnlaaKit
import Derived.Maps.AppendAt
namespace Go.Proofs.Ytdcclmellabnlaa.Kit
open Go.RowKit
open _root_.Go.Proofs.Ytdcclmellabnlaa.Codec (own_below own_lower own_stays lt_of_heap frozen_of heap_set grown_set below_new)

structure Two {α : Type} (E : Enc α) (T : TypeId) (B : Nat) (w : World) (v1 v2 : Value) (l1 l2 : List α) : Prop where
  o1 : Own E T B w v1 l1
  o2 : Own E T B w v2 l2
  ap : ∀ b, v1.ownBlock = some b → v2.ownBlock ≠ some b
section
variable {α : Type} {E : Enc α} {T : TypeId} {B : Nat} {w w' : World} {v1 v2 : Value} {l1 l2 : List α}
theorem Two.swap (h : Two E T B w v1 v2 l1 l2) : Two E T B w v2 v1 l2 l1 := ⟨h.o2, h.o1, fun b e e2 => h.ap b e2 e⟩
theorem Two.on (h : Two E T B w v1 v2 l1 l2) (hb : Below w.heap.size w w') : Two E T B w' v1 v2 l1 l2 := ⟨h.o1.on hb, h.o2.on hb, h.ap⟩
theorem Two.none (E : Enc α) (T : TypeId) (B : Nat) (w : World) : Two E T B w (.slice Option.none 0 0) (.slice Option.none 0 0) [] [] := ⟨Own.none _ _ _ _, Own.none _ _ _ _, fun b e => by simp [Value.ownBlock] at e⟩
theorem own_keep {v : Value} {l : List α} (h : Own E T B w v l) (hk : ∀ b, v.ownBlock = some b → w'.heap[b]? = w.heap[b]?) : Own E T B w' v l := by
  refine ⟨h.1, ?_⟩
  rcases h.2 with h0 | ⟨g, cap, cur, rfl, h1, h2, h3⟩
  · exact .inl h0
  · exact .inr ⟨g, cap, cur, rfl, h1, (hk g rfl).trans h2, h3⟩
theorem own_lt {v : Value} {l : List α} (h : Own E T B w v l) {b : Nat} (hb : v.ownBlock = some b) : b < w.heap.size := by
  rcases h.2 with ⟨rfl, -⟩ | ⟨g, cap, cur, rfl, h1, h2, -⟩
  · simp [Value.ownBlock] at hb
  · simp only [Value.ownBlock, Option.some.injEq] at hb
    subst hb
    exact lt_of_heap h2
/-- One element, just laid, is appended to the first one. -/
theorem push2 {P : Program} {ST : TypeId} (L : Laid P E T ST) {u : World} {ops : Array Oper} {rest : List Oper} {o : Oper} {a : Act} {Q : Exit → Act → World → Prop} (hgd : o.guard = Option.none) (s y : Operand)
    (ho : o.op = .call { callee := .builtin .append, args := #[s, y], argTypes := #[ST, ST] })
    (w0 wr : World) (v v2 : Value) (hs : a.eval s = v) (l l2 : List α) (n : Nat) (hn : l.length = n) (hown : Two E T w0.heap.size wr v v2 l l2) (hbw : Below w0.heap.size w0 wr) (hu : Below wr.heap.size wr u)
    (g : Nat) (x : α) {tg : TypeId} {fr : Nat × Nat} (hy : a.eval y = .slice (some ⟨g, 0, Option.none⟩) 1 1) (hg : u.heap[g]? = some (.cells (E.cs x).toArray tg fr)) (hlen : n ≤ 100000)
    (h : ∀ p c w', Hid (Two E T w0.heap.size w' (.slice p (n + 1) c) v2 (l ++ [x]) l2) → Below w0.heap.size w0 w' → wpList P ops Q rest (a.put o.dst (.slice p (n + 1) c)) w') : wpList P ops Q (o :: rest) a u := by
  subst hn
  obtain ⟨zv, byt, hi0, hzc, hby⟩ := L.info
  obtain ⟨i0, hi, hz0, hz1, hz2⟩ := info_parts hi0
  have hmul : (l.length + 1) * byt ≤ 100001 * 1000 := Nat.mul_le_mul (by omega) hby
  have H2 := hown.on hu
  refine wpList_append_own_at _ hgd s y ST ho w0.heap.size T i0 zv E.n byt L.sl hi hz0 hz1 hz2 hzc E.pos v l.length (cells E l) hs H2.o1 ⟨g, 0, Option.none⟩ 1 1 (E.cs x) hy (by rw [E.len, Nat.one_mul]) (fun j z hz => World.news_of_block hg j z (by simpa using hz)) (E.one x) (by unfold maxLen; omega) (by omega) (Nat.le_trans hbw.size hu.size) ?_
  intro v' w' ho2 hg2 _ hat
  have hb2 := (hbw.trans (hu.mono hbw.size)).grown hg2 (Nat.le_trans hbw.size hu.size) (fun k hk => (World.ownsRow.lt H2.o1 k hk).1)
  have R : Own E T w0.heap.size w' v' (l ++ [x]) := by
    unfold Own
    rw [cells_snoc, List.length_append]
    exact ho2
  obtain ⟨p, c, rfl⟩ : ∃ p c, v' = .slice p (l.length + 1) c := by
    rcases ho2.2 with ⟨_, h0⟩ | ⟨g, cap, cur, rfl, _⟩
    · omega
    · exact ⟨_, cap, rfl⟩
  refine h p c w' ⟨R, own_keep H2.o2 (fun b e => hg2.block b (own_lt H2.o2 e) (fun e2 => H2.ap b e2.symm e)), fun b e e2 => ?_⟩ hb2
  rcases hat with hat | hat
  · exact H2.ap b (by rw [← hat]; exact e) e2
  · have h1 := own_lt H2.o2 e2
    rw [hat] at e
    simp only [Option.some.injEq] at e
    omega
end
theorem frozen5 {w : World} {b : Nat} {cs : Array Value} {T : TypeId} (h : w.heap[b]? = some (.cells cs T (0, 0))) : w.frozen? ⟨b, 0, none⟩ = false ∧ w.frozen? ⟨b, 1, none⟩ = false ∧ w.frozen? ⟨b, 2, none⟩ = false ∧ w.frozen? ⟨b, 3, none⟩ = false ∧ w.frozen? ⟨b, 4, none⟩ = false :=
  ⟨frozen_of h, frozen_of h, frozen_of h, frozen_of h, frozen_of h⟩
end Go.Proofs.Ytdcclmellabnlaa.Kit
