/-
  Words for memory: the document's vault, which owns its states, and whose disk lies elsewhere; what stays where the one or the other is turned. Any types; no conditions beyond those that each names.
-/
import Derived.Test.YtlbdkigiphnabaaDiskWords
import Derived.Test.YtlbdkigiphnabaaVaultPlain
import Derived.Lib.SmallJoins
namespace Go.Proofs.Ytlbdkigiphnabaa.Vault
open Go.RowKit
open _root_.Go.Proofs.Ytlbdkigiphnabaa.Codec (Stays lt_of_heap own_stays own_below frozen_of heap_set grown_set)
open _root_.Go.Proofs.Ytlbdkigiphnabaa.Disk (Ref)

/-- States' cells. -/
def cellsS (l : List Sv) : List Value := l.flatMap fun s => [.int .i64 s.p, .int .i64 s.g, .int .i64 s.h, .int .i64 s.r]
theorem len_cellsS (l : List Sv) : (cellsS l).length = l.length * 4 := by
  induction l with
  | nil => rfl
  | cons s l ih =>
    simp only [cellsS, List.flatMap_cons, List.length_append, List.length_cons, List.length_nil] at ih ⊢
    omega
theorem cellsS_snoc (l : List Sv) (s : Sv) : cellsS (l ++ [s]) = cellsS l ++ [.int .i64 s.p, .int .i64 s.g, .int .i64 s.h, .int .i64 s.r] := by simp [cellsS]
theorem cellsS_one (l : List Sv) : ∀ u ∈ cellsS l, u.oneCell' = true := by
  intro u hu
  simp only [cellsS, List.mem_flatMap] at hu
  obtain ⟨s, _, hs⟩ := hu
  simp at hs
  rcases hs with rfl | rfl | rfl | rfl <;> rfl
/-- The last one's cells. -/
theorem cellsS_last (l : List Sv) (s : Sv) : (cellsS (l ++ [s]))[l.length * 4]? = some (.int .i64 s.p) ∧ (cellsS (l ++ [s]))[l.length * 4 + 1]? = some (.int .i64 s.g) ∧ (cellsS (l ++ [s]))[l.length * 4 + 2]? = some (.int .i64 s.h) ∧ (cellsS (l ++ [s]))[l.length * 4 + 3]? = some (.int .i64 s.r) := by
  rw [cellsS_snoc]
  have h := len_cellsS l
  refine ⟨?_, ?_, ?_, ?_⟩
  · rw [List.getElem?_append_right (by omega), show l.length * 4 - (cellsS l).length = 0 by omega]; rfl
  · rw [List.getElem?_append_right (by omega), show l.length * 4 + 1 - (cellsS l).length = 1 by omega]; rfl
  · rw [List.getElem?_append_right (by omega), show l.length * 4 + 2 - (cellsS l).length = 2 by omega]; rfl
  · rw [List.getElem?_append_right (by omega), show l.length * 4 + 3 - (cellsS l).length = 3 by omega]; rfl

/-- The document's vault (T: its type, S: a state's): its disk's block, its states, which it owns. -/
def Vlt (T S : TypeId) (B : Nat) (w : World) (v m : Nat) (l : List Sv) : Prop :=
  B ≤ v ∧ ∃ p c, w.heap[v]? = some (.cells #[.pointer (some ⟨m, 0, none⟩), .slice p l.length c] T (0, 0)) ∧ w.ownsRow B S 4 (.slice p l.length c) l.length (cellsS l)

section
variable {w w' : World} {S T : TypeId} {B v m : Nat} {l : List Sv}
theorem Vlt.lt (h : Vlt T S B w v m l) : v < w.heap.size := by
  obtain ⟨_, p, c, h, _⟩ := h
  exact lt_of_heap h
theorem own_nil {base : Nat} {p : Option Addr} {n c : Nat} {xs : List Value} (h : w.ownsRow base S 4 (.slice p n c) n xs) : (p = none → n = 0 ∧ c = 0) ∧ n ≤ c ∧ c ≤ maxLen ∧ (∀ a, p = some a → ∃ g, a = ⟨g, 0, none⟩ ∧ base ≤ g) := by
  rcases h.2 with ⟨e, h0⟩ | ⟨g, cap, cur, e, h1, h2, h3, h4, _⟩
  · simp only [Value.slice.injEq] at e
    obtain ⟨rfl, rfl, rfl⟩ := e
    exact ⟨fun _ => ⟨rfl, rfl⟩, Nat.le_refl _, Nat.zero_le _, fun a e => by cases e⟩
  · simp only [Value.slice.injEq] at e
    obtain ⟨rfl, _, rfl⟩ := e
    exact ⟨fun e => (by cases e), h3, h4, fun a e => ⟨g, by simpa using e.symm, h1⟩⟩
theorem Vlt.cells (h : Vlt T S B w v m l) : ∃ p c, w.cell? ⟨v, 0, none⟩ = some (.pointer (some ⟨m, 0, none⟩)) ∧ w.cell? ⟨v, 1, none⟩ = some (.slice p l.length c) ∧ w.frozen? ⟨v, 1, none⟩ = false ∧
    w.ownsRow B S 4 (.slice p l.length c) l.length (cellsS l) ∧ (p = none → l = [] ∧ c = 0) ∧ l.length ≤ c ∧ c ≤ maxLen := by
  obtain ⟨_, p, c, h, hown⟩ := h
  have hn := own_nil hown
  exact ⟨p, c, by rw [cell_of_row w v 0 _ T (0, 0) h]; rfl, by rw [cell_of_row w v 1 _ T (0, 0) h]; rfl, frozen_of h, hown, fun e => ⟨List.eq_nil_of_length_eq_zero (hn.1 e).1, (hn.1 e).2⟩, hn.2.1, hn.2.2.1⟩
/-- The last state's cells. -/
theorem Vlt.last_cells (h : Vlt T S B w v m l) {p : Option Addr} {c : Nat} (hp : w.cell? ⟨v, 1, none⟩ = some (.slice p l.length c)) (hl : 0 < l.length) : ∃ g, p = some ⟨g, 0, none⟩ ∧
    w.cell? ⟨g, (l.length - 1) * 4, none⟩ = some (.int .i64 (last l).p) ∧ w.cell? ⟨g, (l.length - 1) * 4 + 1, none⟩ = some (.int .i64 (last l).g) ∧ w.cell? ⟨g, (l.length - 1) * 4 + 2, none⟩ = some (.int .i64 (last l).h) ∧ w.cell? ⟨g, (l.length - 1) * 4 + 3, none⟩ = some (.int .i64 (last l).r) := by
  obtain ⟨_, p', c', h1, hown⟩ := h
  have e : w.cell? ⟨v, 1, none⟩ = some (.slice p' l.length c') := by rw [cell_of_row w v 1 _ T (0, 0) h1]; rfl
  rw [e] at hp
  simp only [Option.some.injEq, Value.slice.injEq] at hp
  obtain ⟨rfl, _, rfl⟩ := hp
  rcases hown.2 with ⟨_, h0⟩ | ⟨g, cap, cur, e, h1, h2, h3⟩
  · omega
  · simp only [Value.slice.injEq] at e
    obtain ⟨rfl, _, rfl⟩ := e
    have hne : l ≠ [] := List.length_pos_iff.1 hl
    obtain ⟨l0, s, hl0⟩ : ∃ l0 s, l = l0 ++ [s] := ⟨l.dropLast, l.getLast hne, (List.dropLast_concat_getLast hne).symm⟩
    have hla : last l = s := by rw [hl0, last_snoc]
    have hdl : l0.length = l.length - 1 := by rw [hl0]; simp
    have hc := cellsS_last l0 s
    rw [← hl0, hdl, ← hla] at hc
    have hcell := hown.cells (g := g) rfl
    have ha : ∀ j, (⟨g, 0, none⟩ : Addr).add j = ⟨g, j, none⟩ := fun j => by rw [Codec.add_at, Nat.zero_add]
    have k0 := hcell _ _ hc.1
    have k1 := hcell _ _ hc.2.1
    have k2 := hcell _ _ hc.2.2.1
    have k3 := hcell _ _ hc.2.2.2
    rw [ha] at k0 k1 k2 k3
    exact ⟨g, rfl, k0, k1, k2, k3⟩
theorem Vlt.below (h : Vlt T S B w v m l) (hb : Below w.heap.size w w') : Vlt T S B w' v m l := by
  obtain ⟨h0, p, c, h1, h2⟩ := h
  exact ⟨h0, p, c, (hb.block v (lt_of_heap h1)).trans h1, own_below h2 hb⟩
/-- Where another block is turned, of another type than a state's, it lies on. -/
theorem Vlt.other {m' : Nat} {U : TypeId} {cs : Array Value} (h : Vlt T S B w v m l) (hm : w.heap[m']? = some (.cells cs U (0, 0))) (hU : U ≠ S) (hne : m' ≠ v) (hg : w.grownBy w' (some m')) : Vlt T S B w' v m l := by
  obtain ⟨h0, p, c, h1, h2⟩ := h
  exact ⟨h0, p, c, (hg.block v (lt_of_heap h1) (by simpa using hne.symm)).trans h1, own_stays h2 (.grown hm hU hg)⟩
end

/-- What is of none of these types stays. -/
structure Kept (ts : List TypeId) (w w' : World) : Prop where
  size : w.heap.size ≤ w'.heap.size
  block : ∀ (g : Nat) (cs : Array Value) (t : TypeId) (z : Nat × Nat), w.heap[g]? = some (Obj.cells cs t z) → t ∉ ts → w'.heap[g]? = some (Obj.cells cs t z)
section
variable {w w' w'' : World} {S T U E : TypeId} {B v m d : Nat} {l : List Sv} {ts : List TypeId} {room : Int} {s t : Disk.Sl} {x : Option Nat}
theorem Kept.refl : Kept ts w w := ⟨Nat.le_refl _, fun _ _ _ _ h _ => h⟩
theorem Kept.trans (h : Kept ts w w') (k : Kept ts w' w'') : Kept ts w w'' := ⟨Nat.le_trans h.size k.size, fun g cs t z e ht => k.block g cs t z (h.block g cs t z e ht) ht⟩
theorem Kept.mono {us : List TypeId} (h : Kept ts w w') (hs : ∀ t ∈ ts, t ∈ us) : Kept us w w' := ⟨h.size, fun g cs t z e ht => h.block g cs t z e fun k => ht (hs t k)⟩
theorem Kept.below (h : Below w.heap.size w w') : Kept ts w w' := ⟨h.size, fun g _ _ _ e _ => (h.block g (lt_of_heap e)).trans e⟩
theorem Kept.grown {cs : Array Value} {z : Nat × Nat} (hm : w.heap[m]? = some (.cells cs U z)) (hU : U ∈ ts) (hg : w.grownBy w' (some m)) : Kept ts w w' := by
  refine ⟨hg.size, fun g cs' t z' e ht => (hg.block g (lt_of_heap e) ?_).trans e⟩
  intro h
  simp only [Option.some.injEq] at h
  subst h
  rw [e] at hm
  simp only [Option.some.injEq, Obj.cells.injEq] at hm
  exact ht (hm.2.1 ▸ hU)
/-- A row that a call owns grows. -/
theorem Kept.row {base n k : Nat} {y : Value} {xs : List Value} (ho : w.ownsRow base S k y n xs) (hS : S ∈ ts) (hg : w.grownBy w' y.ownBlock) : Kept ts w w' := by
  rcases ho.2 with ⟨rfl, _⟩ | ⟨g, cap, cur, rfl, _, h2, _⟩
  · exact ⟨hg.size, fun g' _ _ _ e _ => (hg.block g' (lt_of_heap e) (by simp [Value.ownBlock])).trans e⟩
  · exact .grown h2 hS hg
theorem own_kept {base n k : Nat} {y : Value} {xs : List Value} (h : w.ownsRow base E k y n xs) (hE : E ∉ ts) (hk : Kept ts w w') : w'.ownsRow base E k y n xs := by
  refine ⟨h.1, ?_⟩
  rcases h.2 with h0 | ⟨g, cap, cur, rfl, h1, h2, h3⟩
  · exact .inl h0
  · exact .inr ⟨g, cap, cur, rfl, h1, hk.block g cur E (0, 0) h2 hE, h3⟩
theorem dsk_kept (h : Disk.Dsk T E B w d room s x) (hT : T ∉ ts) (hE : E ∉ ts) (hk : Kept ts w w') : Disk.Dsk T E B w' d room s x := by
  obtain ⟨h0, p, c, h1, h2, h3⟩ := h
  exact ⟨h0, p, c, hk.block d _ T (0, 0) h1 hT, own_kept h2 hE hk, h3⟩
theorem sli_kept {p : Option Addr} {c : Nat} {xs : List Int} (h : Disk.Sli E w p c xs x) (hE : E ∉ ts) (hk : Kept ts w w') : Disk.Sli E w' p c xs x := by
  obtain ⟨h1, h2, h3, h⟩ := h
  refine ⟨h1, h2, h3, ?_⟩
  rcases h with h | ⟨g, o, cs, z, rfl, hne, hg, hc⟩
  · exact .inl h
  · exact .inr ⟨g, o, cs, z, rfl, hne, hk.block g cs E z hg hE, hc⟩
theorem ref_kept (h : Ref T E B w m room s x) (hT : T ∉ ts) (hE : E ∉ ts) (hk : Kept ts w w') : Ref T E B w' m room s x := by
  obtain ⟨h0, p, c, q, k, h1, h2, h3⟩ := h
  exact ⟨h0, p, c, q, k, hk.block m _ T (0, 0) h1 hT, sli_kept h2 hE hk, sli_kept h3 hE hk⟩
theorem vlt_kept (h : Vlt T S B w v m l) (hT : T ∉ ts) (hS : S ∉ ts) (hk : Kept ts w w') : Vlt T S B w' v m l := by
  obtain ⟨h0, p, c, h1, h2⟩ := h
  exact ⟨h0, p, c, hk.block v _ T (0, 0) h1 hT, own_kept h2 hS hk⟩
/-- A state is appended: behind the append, and behind the store. -/
theorem Vlt.push {w0 : World} {y : Value} {p : Option Addr} {n c k : Nat} {a : Sv} (hTS : T ≠ S) (h : Vlt T S B w v m l) (hBw : B ≤ w.heap.size) (hp : w.cell? ⟨v, 1, none⟩ = some (.slice p n c)) (h0 : Below w.heap.size w w0) (hg : w0.grownBy w' (Value.slice p n c).ownBlock)
    (hn : n = l.length) (hk : k = n + 1) (ho : w'.ownsRow B S 4 y k (cellsS l ++ [.int .i64 a.p, .int .i64 a.g, .int .i64 a.h, .int .i64 a.r])) (hT : T ∈ ts) (hS : S ∈ ts) :
    w'.frozen? ⟨v, 1, none⟩ = false ∧ (∃ u, w'.cell? ⟨v, 1, none⟩ = some u) ∧ Hid (Vlt T S B (w'.setCell ⟨v, 1, none⟩ y) v m (l ++ [a]) ∧ Kept ts w (w'.setCell ⟨v, 1, none⟩ y) ∧ Below B w (w'.setCell ⟨v, 1, none⟩ y)) := by
  obtain ⟨hb, p', c', h1, hown⟩ := h
  have e : w.cell? ⟨v, 1, none⟩ = some (.slice p' l.length c') := by rw [cell_of_row w v 1 _ T (0, 0) h1]; rfl
  rw [e] at hp
  simp only [Option.some.injEq, Value.slice.injEq] at hp
  obtain ⟨rfl, rfl, rfl⟩ := hp
  clear hn
  have hk1 : k = (l ++ [a]).length := by rw [hk]; simp
  subst hk1
  rw [← cellsS_snoc] at ho
  have hv0 : w0.heap[v]? = _ := (h0.block v (lt_of_heap h1)).trans h1
  have hown0 := own_below hown h0
  have hv : w'.heap[v]? = _ := (hg.block v (lt_of_heap hv0) (by
    intro e
    rcases hown0.2 with ⟨e2, _⟩ | ⟨g, cap, cur, e2, _, hgg, _⟩
    · rw [e2] at e
      simp [Value.ownBlock] at e
    · rw [e2] at e
      have e3 : v = g := by simpa [Value.ownBlock] using e
      subst e3
      rw [hgg] at hv0
      simp only [Option.some.injEq, Obj.cells.injEq] at hv0
      exact hTS hv0.2.1.symm)).trans hv0
  obtain ⟨q, c2, rfl⟩ : ∃ q c2, y = .slice q (l ++ [a]).length c2 := by
    rcases ho.2 with ⟨_, h0⟩ | ⟨g, cap, cur, e2, _⟩
    · simp at h0
    · exact ⟨_, cap, e2⟩
  refine ⟨frozen_of hv, ⟨_, by rw [cell_of_row w' v 1 _ T (0, 0) hv]; rfl⟩, ⟨hb, q, c2, ?_, own_stays ho (.grown hv hTS (grown_set v 1 _))⟩, ?_, ?_⟩
  · rw [heap_set v 1 _ _ hv]
    rfl
  · exact ((Kept.below h0).trans (.row hown0 hS hg)).trans (.grown hv hT (grown_set v 1 _))
  · exact (((h0.mono hBw).grown hg (Nat.le_trans hBw h0.size) (fun k hk => (hown0.lt k hk).1))).setCell (p := ⟨v, 1, none⟩) hb _
/-- The states are a new slice: behind the store. -/
theorem Vlt.anew {y : Value} {l' : List Sv} (hTS : T ≠ S) (h : Vlt T S B w v m l) (hBw : B ≤ w.heap.size) (hb : Below w.heap.size w w') (ho : w'.ownsRow w.heap.size S 4 y l'.length (cellsS l')) (hT : T ∈ ts) :
    w'.frozen? ⟨v, 1, none⟩ = false ∧ (∃ u, w'.cell? ⟨v, 1, none⟩ = some u) ∧ Hid (Vlt T S B (w'.setCell ⟨v, 1, none⟩ y) v m l' ∧ Kept ts w (w'.setCell ⟨v, 1, none⟩ y) ∧ Below B w (w'.setCell ⟨v, 1, none⟩ y)) := by
  obtain ⟨h0, p', c', h1, hown⟩ := h
  have hv : w'.heap[v]? = _ := (hb.block v (lt_of_heap h1)).trans h1
  obtain ⟨q, c2, rfl⟩ : ∃ q c2, y = .slice q l'.length c2 := by
    rcases ho.2 with ⟨rfl, h0⟩ | ⟨g, cap, cur, e2, _⟩
    · exact ⟨none, 0, by rw [h0]⟩
    · exact ⟨_, cap, e2⟩
  refine ⟨frozen_of hv, ⟨_, by rw [cell_of_row w' v 1 _ T (0, 0) hv]; rfl⟩, ⟨h0, q, c2, ?_, Codec.own_lower (own_stays ho (.grown hv hTS (grown_set v 1 _))) hBw⟩, (Kept.below hb).trans (.grown hv hT (grown_set v 1 _)), (hb.mono hBw).setCell (p := ⟨v, 1, none⟩) h0 _⟩
  rw [heap_set v 1 _ _ hv]
  rfl
theorem lies_kept {p : Option Addr} {xs : List Int} (h : Codec.Lies E w p xs) (hE : E ∉ ts) (hk : Kept ts w w') : Codec.Lies E w' p xs := by
  rcases h with h | ⟨g, o, cs, z, rfl, hg, hc⟩
  · exact .inl h
  · exact .inr ⟨g, o, cs, z, rfl, hk.block g cs E z hg hE, hc⟩
theorem rdr_kept {b : Nat} {bs : List Int} {f : Bool} (h : Codec.Rdr T E w b bs f) (hT : T ∉ ts) (hE : E ∉ ts) (hk : Kept ts w w') : Codec.Rdr T E w' b bs f := by
  obtain ⟨p, c, h, h1, h2, h3⟩ := h
  exact ⟨p, c, hk.block b _ T (0, 0) h hT, h1, h2, lies_kept h3 hE hk⟩
theorem Vlt.lower {B' : Nat} (h : Vlt T S B w v m l) (hB : B' ≤ B) : Vlt T S B' w v m l := by
  obtain ⟨h0, p, c, h1, h2⟩ := h
  exact ⟨Nat.le_trans hB h0, p, c, h1, Codec.own_lower h2 hB⟩
end
end Go.Proofs.Ytlbdkigiphnabaa.Vault
