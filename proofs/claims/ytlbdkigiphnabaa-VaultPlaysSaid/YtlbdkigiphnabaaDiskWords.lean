/-
  Words for memory: a disk's block, and its file's, which the disk owns; the block of the document's disk, and its two slices'; what stays of the one where the other is turned. Any program, any types; no conditions beyond those that each names.
-/
import Derived.Test.YtlbdkigiphnabaaCodecWords
import Derived.Test.YtlbdkigiphnabaaDiskPlain
import Derived.Maps.AppendAt
namespace Go.Proofs.Ytlbdkigiphnabaa.Disk
open Go.RowKit Codec

/-- What a step of a disk leaves alone: all but its own block and its file's. -/
structure Aside (w w' : World) (d : Nat) (x x' : Option Nat) : Prop where
  block : ∀ g, g < w.heap.size → g ≠ d → some g ≠ x → w'.heap[g]? = w.heap[g]?
  fresh : x' = x ∨ ∀ g, x' = some g → w.heap.size ≤ g
  size : w.heap.size ≤ w'.heap.size

/-- A disk: its room, its file, which it owns, how much of it is safe. -/
def Dsk (T E : TypeId) (B : Nat) (w : World) (d : Nat) (room : Int) (s : Sl) (x : Option Nat) : Prop :=
  B ≤ d ∧ ∃ p c, w.heap[d]? = some (.cells #[.int .i64 room, .slice p (all s).length c, .int .i64 (s.1.length : Int)] T (0, 0)) ∧
    w.ownsRow B E 1 (.slice p (all s).length c) (all s).length (cells8 (all s)) ∧ (Value.slice p (all s).length c).ownBlock = x

/-- A slice whose cells are the bytes xs, in no block that is x. -/
def Sli (E : TypeId) (w : World) (p : Option Addr) (c : Nat) (xs : List Int) (x : Option Nat) : Prop :=
  xs.length ≤ c ∧ c ≤ maxLen ∧ (p = none → xs = [] ∧ c = 0) ∧
    (xs = [] ∨ ∃ g o cs z, p = some ⟨g, o, none⟩ ∧ some g ≠ x ∧ w.heap[g]? = some (.cells cs E z) ∧ ∀ j, j < xs.length → cs[o + j]? = some (.int .u8 (xs.getD j 0)))

/-- The document's disk. -/
def Ref (T E : TypeId) (B : Nat) (w : World) (m : Nat) (room : Int) (s : Sl) (x : Option Nat) : Prop :=
  B ≤ m ∧ ∃ p c q k, w.heap[m]? = some (.cells #[.int .i64 room, .slice p s.1.length c, .slice q s.2.length k] T (0, 0)) ∧ Sli E w p c s.1 x ∧ Sli E w q k s.2 x

section
variable {w w' w'' : World} {E T U : TypeId} {B d m : Nat} {room : Int} {s t : Sl} {x x' x'' : Option Nat}

theorem Dsk.lt (h : Dsk T E B w d room s x) : d < w.heap.size := by
  obtain ⟨_, p, c, h, _⟩ := h
  exact lt_of_heap h
theorem Ref.lt (h : Ref T E B w m room s x) : m < w.heap.size := by
  obtain ⟨_, p, c, q, k, h, _⟩ := h
  exact lt_of_heap h
theorem Dsk.cells (h : Dsk T E B w d room s x) : ∃ p c, w.cell? ⟨d, 0, none⟩ = some (.int .i64 room) ∧ w.cell? ⟨d, 1, none⟩ = some (.slice p (all s).length c) ∧ w.cell? ⟨d, 2, none⟩ = some (.int .i64 (s.1.length : Int)) ∧
    w.frozen? ⟨d, 1, none⟩ = false ∧ w.frozen? ⟨d, 2, none⟩ = false ∧ (all s).length ≤ c ∧ c ≤ maxLen ∧ Cel w p (all s) ∧ (p = none → all s = []) ∧ w.ownsRow B E 1 (.slice p (all s).length c) (all s).length (cells8 (all s)) ∧ (Value.slice p (all s).length c).ownBlock = x := by
  obtain ⟨_, p, c, h, hown, hx⟩ := h
  obtain ⟨p', c', e, h1, h2, h3, h4⟩ := own_lies hown
  simp only [Value.slice.injEq, true_and] at e
  obtain ⟨rfl, rfl⟩ := e
  exact ⟨p, c, by rw [cell_of_row w d 0 _ T (0, 0) h]; rfl, by rw [cell_of_row w d 1 _ T (0, 0) h]; rfl, by rw [cell_of_row w d 2 _ T (0, 0) h]; rfl, frozen_of h, frozen_of h, h1, h2, h3.cel, h4, hown, hx⟩
theorem Sli.cel {p : Option Addr} {c : Nat} {xs : List Int} (h : Sli E w p c xs x) : Cel w p xs := by
  obtain ⟨_, _, _, h⟩ := h
  rcases h with h | ⟨g, o, cs, z, rfl, _, hg, hc⟩
  · exact .inl h
  · refine .inr ⟨g, o, rfl, fun j hj => ?_⟩
    rw [cell_of_row w g (o + j) cs E z hg]
    exact hc j hj
theorem Ref.cells (h : Ref T E B w m room s x) : ∃ p c q k, w.cell? ⟨m, 0, none⟩ = some (.int .i64 room) ∧ w.cell? ⟨m, 1, none⟩ = some (.slice p s.1.length c) ∧ w.cell? ⟨m, 2, none⟩ = some (.slice q s.2.length k) ∧
    w.frozen? ⟨m, 1, none⟩ = false ∧ w.frozen? ⟨m, 2, none⟩ = false ∧ Sli E w p c s.1 x ∧ Sli E w q k s.2 x := by
  obtain ⟨_, p, c, q, k, h, h1, h2⟩ := h
  exact ⟨p, c, q, k, by rw [cell_of_row w m 0 _ T (0, 0) h]; rfl, by rw [cell_of_row w m 1 _ T (0, 0) h]; rfl, by rw [cell_of_row w m 2 _ T (0, 0) h]; rfl, frozen_of h, frozen_of h, h1, h2⟩

/-- No slice of the document's disk lies in x, and none is turned: it lies on. -/
theorem Sli.on {p : Option Addr} {c : Nat} {xs : List Int} (h : Sli E w p c xs x) (hs : ∀ g cs z, w.heap[g]? = some (Obj.cells cs E z) → some g ≠ x → w'.heap[g]? = some (Obj.cells cs E z))
    (hx : x' = x ∨ ∀ g, x' = some g → w.heap.size ≤ g) : Sli E w' p c xs x' := by
  obtain ⟨h1, h2, h3, h⟩ := h
  refine ⟨h1, h2, h3, ?_⟩
  rcases h with h | ⟨g, o, cs, z, rfl, hne, hg, hc⟩
  · exact .inl h
  · refine .inr ⟨g, o, cs, z, rfl, ?_, hs g cs z hg hne, hc⟩
    rcases hx with rfl | hx
    · exact hne
    · intro e
      have := hx g e.symm
      have := lt_of_heap hg
      omega
theorem Dsk.below (h : Dsk T E B w d room s x) (hb : Below w.heap.size w w') : Dsk T E B w' d room s x := by
  obtain ⟨h0, p, c, h1, h2, h3⟩ := h
  exact ⟨h0, p, c, (hb.block d (lt_of_heap h1)).trans h1, own_below h2 hb, h3⟩
theorem Ref.below (h : Ref T E B w m room s x) (hb : Below w.heap.size w w') : Ref T E B w' m room s x := by
  obtain ⟨h0, p, c, q, k, h1, h2, h3⟩ := h
  have hs : ∀ g cs z, w.heap[g]? = some (Obj.cells cs E z) → some g ≠ x → w'.heap[g]? = some (Obj.cells cs E z) := fun g cs z hg _ => (hb.block g (lt_of_heap hg)).trans hg
  exact ⟨h0, p, c, q, k, (hb.block m (lt_of_heap h1)).trans h1, h2.on hs (.inl rfl), h3.on hs (.inl rfl)⟩
/-- A step of the disk leaves the document's one as it is. -/
theorem Ref.aside (h : Ref U E B w m room s x) (hd : Dsk T E B w d room t x) (hTU : T ≠ U) (hTE : T ≠ E) (hUE : U ≠ E) (ha : Aside w w' d x x') : Ref U E B w' m room s x' := by
  obtain ⟨h0, p, c, q, k, h1, h2, h3⟩ := h
  obtain ⟨_, p', c', hd1, hd2, hd3⟩ := hd
  have hs : ∀ g cs z, w.heap[g]? = some (Obj.cells cs E z) → some g ≠ x → w'.heap[g]? = some (Obj.cells cs E z) := by
    intro g cs z hg hne
    refine (ha.block g (lt_of_heap hg) ?_ hne).trans hg
    rintro rfl
    rw [hg] at hd1
    simp only [Option.some.injEq, Obj.cells.injEq] at hd1
    exact hTE hd1.2.1.symm
  refine ⟨h0, p, c, q, k, (ha.block m (lt_of_heap h1) ?_ ?_).trans h1, h2.on hs ha.fresh, h3.on hs ha.fresh⟩
  · rintro rfl
    rw [h1] at hd1
    simp only [Option.some.injEq, Obj.cells.injEq] at hd1
    exact hTU hd1.2.1.symm
  · intro e
    exact own_ne hUE hd2 h1 (hd3.trans e.symm)
/-- A step of the document's disk leaves the disk as it is. -/
theorem Dsk.other (h : Dsk T E B w d room t x) (hm : Ref U E B w m room s x) (hTU : T ≠ U) (hUE : U ≠ E) (hg : w.grownBy w' (some m)) : Dsk T E B w' d room t x := by
  obtain ⟨h0, p, c, h1, h2, h3⟩ := h
  obtain ⟨_, _, _, _, _, hm1, _⟩ := hm
  refine ⟨h0, p, c, (hg.block d (lt_of_heap h1) ?_).trans h1, h2.kept hg (.inr (own_ne hUE h2 hm1)), h3⟩
  intro e
  simp only [Option.some.injEq] at e
  subst e
  rw [hm1] at h1
  simp only [Option.some.injEq, Obj.cells.injEq] at h1
  exact hTU h1.2.1.symm
theorem Aside.refl : Aside w w d x x := ⟨fun _ _ _ _ => rfl, .inl rfl, Nat.le_refl _⟩
theorem Aside.set (o : Nat) (u : Value) : Aside w (w.setCell ⟨d, o, none⟩ u) d x x :=
  ⟨fun g _ hd _ => Below.heap_setCell _ _ _ _ (by simpa using hd), .inl rfl, (grown_set d o u).size⟩
/-- What makes memory, then turns the disk's own block, or its file's. -/
theorem Aside.trans (h : Aside w w' d x x') (k : Aside w' w'' d x' x'') (hx : ∀ g, x' = some g → g < w'.heap.size) : Aside w w'' d x x'' := by
  refine ⟨fun g hg hd hx0 => ?_, ?_, Nat.le_trans h.size k.size⟩
  · refine (k.block g (Nat.lt_of_lt_of_le hg h.size) hd ?_).trans (h.block g hg hd hx0)
    rcases h.fresh with rfl | hf
    · exact hx0
    · intro e
      have := hf g e.symm
      omega
  · rcases k.fresh with rfl | kf
    · exact h.fresh
    · exact .inr fun g e => Nat.le_trans h.size (kf g e)

/-- What a step of a disk leaves: the disk as s, all else as it lay. -/
def Left (T E : TypeId) (B : Nat) (w : World) (d : Nat) (room : Int) (s : Sl) (x : Option Nat) (w' : World) : Prop :=
  ∃ x', Dsk T E B w' d room s x' ∧ Aside w w' d x x' ∧ Below B w w'
theorem Left.same (h : Dsk T E B w d room s x) : Left T E B w d room s x w := ⟨x, h, .refl, .refl _ _⟩
/-- Memory is made, then a step. -/
theorem Left.after {w1 : World} (hb : Below w.heap.size w w1) (hBw : B ≤ w.heap.size) (h : Left T E B w1 d room s x w') : Left T E B w d room s x w' := by
  obtain ⟨x', h1, ha, hb'⟩ := h
  refine ⟨x', h1, ⟨fun g hg hd hx => (ha.block g (Nat.lt_of_lt_of_le hg hb.size) hd hx).trans (hb.block g hg), ?_, Nat.le_trans hb.size ha.size⟩, (hb.mono hBw).trans hb'⟩
  rcases ha.fresh with e | hf
  · exact .inl e
  · exact .inr fun g e => Nat.le_trans hb.size (hf g e)
/-- Two steps. -/
theorem Left.then {w1 : World} {t : Sl} {x1 : Option Nat} (h1 : Dsk T E B w1 d room t x1) (a1 : Aside w w1 d x x1) (b1 : Below B w w1) (h : Left T E B w1 d room s x1 w') : Left T E B w d room s x w' := by
  obtain ⟨x', h2, ha, hb'⟩ := h
  refine ⟨x', h2, a1.trans ha ?_, b1.trans hb'⟩
  intro g e
  obtain ⟨_, p, c, _, ho, hx⟩ := h1
  exact (ho.lt g (hx.trans e)).2
theorem own_form {base n : Nat} {v : Value} {xs : List Value} (h : w.ownsRow base E 1 v n xs) : ∃ p c, v = .slice p n c := by
  rcases h.2 with ⟨rfl, h0⟩ | ⟨g, cap, cur, rfl, _⟩
  · exact ⟨none, 0, by rw [h0]⟩
  · exact ⟨_, cap, rfl⟩
theorem own_cut {g c n k : Nat} {xs : List Int} {p : Option Addr} (h : w.ownsRow B E 1 (.slice p n c) xs.length (cells8 xs)) (hk : k ≤ xs.length) (hp : p = some ⟨g, 0, none⟩ ∨ p = none) :
    w.ownsRow B E 1 (.slice p k c) (xs.take k).length (cells8 (xs.take k)) := by
  have hl : (xs.take k).length = k := by simp; omega
  rw [hl]
  refine ⟨by simp [cells8]; omega, ?_⟩
  rcases h.2 with ⟨e, h0⟩ | ⟨g', cap, cur, e, h1, h2, h3, h4, h5, h6⟩
  · simp only [Value.slice.injEq] at e
    obtain ⟨rfl, rfl, rfl⟩ := e
    obtain rfl : k = 0 := by omega
    exact .inl ⟨rfl, rfl⟩
  · simp only [Value.slice.injEq] at e
    obtain ⟨rfl, rfl, rfl⟩ := e
    refine .inr ⟨g', c, cur, rfl, h1, h2, by omega, h4, h5, ?_⟩
    have e2 : cells8 (xs.take k) = (cells8 xs).take k := by simp [cells8]
    rw [e2, ← h6, List.take_take]
    congr 1
    omega
/-- The file is cut: behind the store of its slice. -/
theorem Dsk.file_cut (hTE : T ≠ E) (h : Dsk T E B w d room s x) (k : Nat) (hk : k ≤ s.2.length) (p : Option Addr) (n c : Nat) (hp : w.cell? ⟨d, 1, none⟩ = some (.slice p n c)) :
    Dsk T E B (w.setCell ⟨d, 1, none⟩ (.slice p (s.1.length + k) c)) d room (s.1, s.2.take k) x := by
  obtain ⟨h0, p', c', h1, h2, h3⟩ := h
  have e : w.cell? ⟨d, 1, none⟩ = some (.slice p' (all s).length c') := by rw [cell_of_row w d 1 _ T (0, 0) h1]; rfl
  rw [e] at hp
  simp only [Option.some.injEq, Value.slice.injEq] at hp
  obtain ⟨rfl, rfl, rfl⟩ := hp
  have ha : all (s.1, s.2.take k) = (all s).take (s.1.length + k) := by simp only [all, List.take_append]; rw [List.take_of_length_le (l := s.1) (i := s.1.length + k) (by omega), show s.1.length + k - s.1.length = k by omega]
  have hl : (all s).length = s.1.length + s.2.length := by simp [all]
  have hk' : s.1.length + k ≤ (all s).length := by omega
  have hn : ((all s).take (s.1.length + k)).length = s.1.length + k := by simp; omega
  refine ⟨h0, p', c', ?_, ?_, ?_⟩
  · rw [heap_set d 1 _ _ h1, ha, hn]
    rfl
  · rw [ha, hn]
    have := own_cut (g := match p' with | some a => a.block | none => 0) h2 hk' (by
      rcases h2.2 with ⟨e, _⟩ | ⟨g, _, _, e, _⟩
      · simp only [Value.slice.injEq] at e
        exact .inr e.1
      · simp only [Value.slice.injEq] at e
        obtain ⟨rfl, _⟩ := e
        exact .inl rfl)
    rw [hn] at this
    exact own_stays this (.grown h1 hTE (grown_set d 1 _))
  · rw [← h3]
    cases p' <;> rfl
/-- All is safe: behind the store of the number. -/
theorem Dsk.safe_all (hTE : T ≠ E) (h : Dsk T E B w d room s x) : Dsk T E B (w.setCell ⟨d, 2, none⟩ (.int .i64 ((all s).length : Int))) d room (dSync s) x := by
  obtain ⟨h0, p, c, h1, h2, h3⟩ := h
  have ha : all (dSync s) = all s := by simp [all, dSync]
  refine ⟨h0, p, c, ?_, ?_, ?_⟩
  · rw [heap_set d 2 _ _ h1, ha]
    rfl
  · rw [ha]
    exact own_stays h2 (.grown h1 hTE (grown_set d 2 _))
  · rw [ha]
    exact h3
theorem below_set (hB : B ≤ d) (o : Nat) (u : Value) : Below B w (w.setCell ⟨d, o, none⟩ u) := (Below.refl _ _).setCell (p := ⟨d, o, none⟩) hB _
/-- Bytes are appended to the file: behind the append. -/
theorem Dsk.push {v : Value} {p : Option Addr} {n c : Nat} {b : List Int} (hTE : T ≠ E) (h : Dsk T E B w d room s x) (hBw : B ≤ w.heap.size) (hp : w.cell? ⟨d, 1, none⟩ = some (.slice p n c)) (ho : w'.ownsRow B E 1 v (n + b.length) (cells8 (all s) ++ cells8 b))
    (hg : w.grownBy w' (Value.slice p n c).ownBlock) (hat : v.ownBlock = (Value.slice p n c).ownBlock ∨ v.ownBlock = some w.heap.size) :
    w'.frozen? ⟨d, 1, none⟩ = false ∧ w'.cell? ⟨d, 1, none⟩ = some (.slice p n c) ∧ Hid (Left T E B w d room (s.1, s.2 ++ b) x (w'.setCell ⟨d, 1, none⟩ v)) := by
  obtain ⟨h0, p', c', h1, h2, h3⟩ := h
  have e : w.cell? ⟨d, 1, none⟩ = some (.slice p' (all s).length c') := by rw [cell_of_row w d 1 _ T (0, 0) h1]; rfl
  rw [e] at hp
  simp only [Option.some.injEq, Value.slice.injEq] at hp
  obtain ⟨rfl, rfl, rfl⟩ := hp
  have ha : all (s.1, s.2 ++ b) = all s ++ b := by simp [all]
  have hd : w'.heap[d]? = _ := (hg.block d (lt_of_heap h1) (own_ne hTE h2 h1).symm).trans h1
  rw [← cells8_append, ← List.length_append, ← ha] at ho
  obtain ⟨q, k, rfl, _, _, _, _⟩ := own_lies ho
  refine ⟨frozen_of hd, by rw [cell_of_row w' d 1 _ T (0, 0) hd]; rfl, _, ⟨h0, q, k, ?_, own_stays ho (.grown hd hTE (grown_set d 1 _)), rfl⟩, ?_, ?_⟩
  · rw [heap_set d 1 _ _ hd]
    rfl
  · refine ⟨fun g hgl hgd hgx => ?_, ?_, Nat.le_trans hg.size (grown_set d 1 _).size⟩
    · refine (Below.heap_setCell _ _ _ _ (by simpa using hgd)).trans (hg.block g hgl ?_)
      rw [h3]
      exact hgx
    · rcases hat with hat | hat
      · exact .inl (hat.trans h3)
      · refine .inr fun g e => ?_
        rw [hat] at e
        simp only [Option.some.injEq] at e
        omega
  · exact ((Below.refl _ _).grown hg hBw (fun k hk => (h2.lt k hk).1)).trans (below_set h0 _ _)
/-- The file is made anew: behind both stores. -/
theorem Dsk.anew {v : Value} {b : List Int} (hTE : T ≠ E) (h : Dsk T E B w d room s x) (hBw : B ≤ w.heap.size) (hb : Below w.heap.size w w') (ho : w'.ownsRow w.heap.size E 1 v b.length (cells8 b)) :
    w'.frozen? ⟨d, 1, none⟩ = false ∧ w'.frozen? ⟨d, 2, none⟩ = false ∧ (∃ u, w'.cell? ⟨d, 1, none⟩ = some u) ∧ (∃ u, w'.cell? ⟨d, 2, none⟩ = some u) ∧
      Hid (Left T E B w d room (b, []) x ((w'.setCell ⟨d, 1, none⟩ v).setCell ⟨d, 2, none⟩ (.int .i64 (b.length : Int)))) := by
  obtain ⟨h0, p', c', h1, h2, h3⟩ := h
  have ha : all (b, []) = b := by simp [all]
  have hd : w'.heap[d]? = _ := (hb.block d (lt_of_heap h1)).trans h1
  have hlt : v.ownBlock = none ∨ ∃ g, v.ownBlock = some g ∧ w.heap.size ≤ g := by
    rcases hv : v.ownBlock with _ | g
    · exact .inl rfl
    · exact .inr ⟨g, rfl, (ho.lt g hv).1⟩
  obtain ⟨q, k, rfl, _, _, _, _⟩ := own_lies ho
  have hd1 : (w'.setCell ⟨d, 1, none⟩ (.slice q b.length k)).heap[d]? = _ := heap_set d 1 _ _ hd
  refine ⟨frozen_of hd, frozen_of hd, ⟨_, by rw [cell_of_row w' d 1 _ T (0, 0) hd]; rfl⟩, ⟨_, by rw [cell_of_row w' d 2 _ T (0, 0) hd]; rfl⟩, _, ⟨h0, q, k, ?_, ?_, rfl⟩, ?_, ?_⟩
  · rw [heap_set d 2 _ _ hd1, ha]
    rfl
  · rw [ha]
    exact own_lower (own_stays (own_stays ho (.grown hd hTE (grown_set d 1 _))) (.grown hd1 hTE (grown_set d 2 _))) hBw
  · refine ⟨fun g hgl hgd _ => ?_, ?_, ?_⟩
    · exact (Below.heap_setCell _ _ _ _ (by simpa using hgd)).trans ((Below.heap_setCell _ _ _ _ (by simpa using hgd)).trans (hb.block g hgl))
    · rw [ha]
      right
      intro g e
      rcases hlt with hl | ⟨g', hl, hle⟩
      · rw [hl] at e; cases e
      · rw [hl] at e
        simp only [Option.some.injEq] at e
        omega
    · exact Nat.le_trans hb.size (Nat.le_trans (grown_set d 1 _).size (grown_set d 2 _).size)
  · exact (hb.mono hBw).trans ((below_set h0 _ _).trans (below_set h0 _ _))

/-- What is owned, as a slice that lies in no block that is x. -/
theorem own_sli {base : Nat} {v : Value} {xs : List Int} (ho : w.ownsRow base E 1 v xs.length (cells8 xs)) (hx : ∀ g, x = some g → g < base) : ∃ p c, v = .slice p xs.length c ∧ Sli E w p c xs x := by
  rcases ho.2 with ⟨rfl, h0⟩ | ⟨g, cap, cur, rfl, h1, h2, h3, h4, h5, h6⟩
  · have e : xs = [] := List.eq_nil_of_length_eq_zero h0
    subst e
    exact ⟨none, 0, rfl, Nat.le_refl _, Nat.zero_le _, fun _ => ⟨rfl, rfl⟩, .inl rfl⟩
  · refine ⟨_, cap, rfl, h3, h4, (fun e => by cases e), .inr ⟨g, 0, cur, (0, 0), rfl, ?_, h2, fun j hj => ?_⟩⟩
    · intro e
      have := hx g e.symm
      omega
    · have := cells8_get xs j hj
      rw [← h6, List.getElem?_take, if_pos (by omega)] at this
      simpa using this
theorem Sli.stays {p : Option Addr} {c : Nat} {xs : List Int} (h : Sli E w p c xs x) (hs : Stays E w w') : Sli E w' p c xs x := by
  obtain ⟨h1, h2, h3, h⟩ := h
  refine ⟨h1, h2, h3, ?_⟩
  rcases h with h | ⟨g, o, cs, z, rfl, hne, hg, hc⟩
  · exact .inl h
  · exact .inr ⟨g, o, cs, z, rfl, hne, hs g cs z hg, hc⟩
theorem Sli.cut {p : Option Addr} {c : Nat} {xs : List Int} (h : Sli E w p c xs x) (k : Nat) (hk : k ≤ xs.length) : Sli E w p c (xs.take k) x := by
  obtain ⟨h1, h2, h3, h⟩ := h
  refine ⟨by simp; omega, h2, fun e => ⟨by rw [(h3 e).1]; simp, (h3 e).2⟩, ?_⟩
  rcases h with h | ⟨g, o, cs, z, rfl, hne, hg, hc⟩
  · exact .inl (by rw [h]; simp)
  · refine .inr ⟨g, o, cs, z, rfl, hne, hg, fun j hj => ?_⟩
    simp only [List.length_take] at hj
    rw [hc j (by omega)]
    simp [List.getD, show j < k by omega]
theorem Sli.nil : Sli E w none 0 [] x := ⟨Nat.le_refl _, Nat.zero_le _, fun _ => ⟨rfl, rfl⟩, .inl rfl⟩

/-- What a step of the document's disk leaves. -/
def Made2 (T E : TypeId) (B : Nat) (w : World) (m : Nat) (room : Int) (s : Sl) (x : Option Nat) (w' : World) : Prop :=
  Ref T E B w' m room s x ∧ w.grownBy w' (some m)
theorem Made2.same (h : Ref T E B w m room s x) : Made2 T E B w m room s x w := ⟨h, rfl, rfl, rfl, Nat.le_refl _, fun _ _ _ => rfl⟩
theorem grown_below (hb : Below w.heap.size w w') (m : Option Nat) : w.grownBy w' m := ⟨hb.os, hb.tape, hb.output, hb.size, fun k hk _ => hb.block k hk⟩
theorem Made2.after {w1 : World} (hb : Below w.heap.size w w1) (h : Made2 T E B w1 m room s x w') : Made2 T E B w m room s x w' := ⟨h.1, (grown_below hb _).trans h.2⟩
theorem Made2.then {w1 : World} (hg : w.grownBy w1 (some m)) (h : Made2 T E B w1 m room s x w') : Made2 T E B w m room s x w' := ⟨h.1, hg.trans h.2⟩

/-- A new slice for what is loose. -/
theorem Ref.set2 {v : Value} {k : List Int} (hTE : T ≠ E) (h : Ref T E B w m room s x) (hx : ∀ g, x = some g → g < w.heap.size) (hb : Below w.heap.size w w') (ho : w'.ownsRow w.heap.size E 1 v k.length (cells8 k)) :
    w'.frozen? ⟨m, 2, none⟩ = false ∧ (∃ u, w'.cell? ⟨m, 2, none⟩ = some u) ∧ Hid (Made2 T E B w m room (s.1, k) x (w'.setCell ⟨m, 2, none⟩ v)) := by
  obtain ⟨h0, p, c, q, n, h1, h2, h3⟩ := h.below hb
  obtain ⟨q', n', rfl, h4⟩ := own_sli ho hx
  have hs : Stays E w' (w'.setCell ⟨m, 2, none⟩ (.slice q' k.length n')) := .grown h1 hTE (grown_set m 2 _)
  refine ⟨frozen_of h1, ⟨_, by rw [cell_of_row w' m 2 _ T (0, 0) h1]; rfl⟩, ⟨h0, p, c, q', n', ?_, h2.stays hs, h4.stays hs⟩, (grown_below hb _).trans (grown_set m 2 _)⟩
  rw [heap_set m 2 _ _ h1]
  rfl
/-- A new slice for what is safe; nothing is loose. -/
theorem Ref.both {v : Value} {k : List Int} (hTE : T ≠ E) (h : Ref T E B w m room s x) (hx : ∀ g, x = some g → g < w.heap.size) (hb : Below w.heap.size w w') (ho : w'.ownsRow w.heap.size E 1 v k.length (cells8 k)) :
    w'.frozen? ⟨m, 1, none⟩ = false ∧ w'.frozen? ⟨m, 2, none⟩ = false ∧ (∃ u, w'.cell? ⟨m, 1, none⟩ = some u) ∧ (∃ u, w'.cell? ⟨m, 2, none⟩ = some u) ∧
      Hid (Made2 T E B w m room (k, []) x ((w'.setCell ⟨m, 1, none⟩ v).setCell ⟨m, 2, none⟩ (.slice none 0 0))) := by
  obtain ⟨h0, p, c, q, n, h1, h2, h3⟩ := h.below hb
  obtain ⟨q', n', rfl, h4⟩ := own_sli ho hx
  have h5 : (w'.setCell ⟨m, 1, none⟩ (.slice q' k.length n')).heap[m]? = _ := heap_set m 1 _ _ h1
  have hs1 : Stays E w' (w'.setCell ⟨m, 1, none⟩ (.slice q' k.length n')) := .grown h1 hTE (grown_set m 1 _)
  have hs2 : Stays E (w'.setCell ⟨m, 1, none⟩ (.slice q' k.length n')) ((w'.setCell ⟨m, 1, none⟩ (.slice q' k.length n')).setCell ⟨m, 2, none⟩ (.slice none 0 0)) := .grown h5 hTE (grown_set m 2 _)
  refine ⟨frozen_of h1, frozen_of h1, ⟨_, by rw [cell_of_row w' m 1 _ T (0, 0) h1]; rfl⟩, ⟨_, by rw [cell_of_row w' m 2 _ T (0, 0) h1]; rfl⟩, ⟨h0, q', n', none, 0, ?_, (h4.stays hs1).stays hs2, .nil⟩,
    ((grown_below hb _).trans (grown_set m 1 _)).trans (grown_set m 2 _)⟩
  rw [heap_set m 2 _ _ h5]
  rfl
/-- What is loose is cut. -/
theorem Ref.cut2 (hTE : T ≠ E) (h : Ref T E B w m room s x) (k : Nat) (hk : k ≤ s.2.length) (q : Option Addr) (n c : Nat) (hp : w.cell? ⟨m, 2, none⟩ = some (.slice q n c)) :
    Made2 T E B w m room (s.1, s.2.take k) x (w.setCell ⟨m, 2, none⟩ (.slice q k c)) := by
  obtain ⟨h0, p, c', q', n', h1, h2, h3⟩ := h
  have e : w.cell? ⟨m, 2, none⟩ = some (.slice q' s.2.length n') := by rw [cell_of_row w m 2 _ T (0, 0) h1]; rfl
  rw [e] at hp
  simp only [Option.some.injEq, Value.slice.injEq] at hp
  obtain ⟨rfl, rfl, rfl⟩ := hp
  have hs : Stays E w (w.setCell ⟨m, 2, none⟩ (.slice q' k n')) := .grown h1 hTE (grown_set m 2 _)
  have hl : (s.2.take k).length = k := by simp; omega
  refine ⟨⟨h0, p, c', q', n', ?_, h2.stays hs, (h3.cut k hk).stays hs⟩, grown_set m 2 _⟩
  rw [heap_set m 2 _ _ h1, hl]
  rfl

/-- Both disks. -/
structure Pair (T U E : TypeId) (B : Nat) (w : World) (d m : Nat) (room : Int) (s t : Sl) (x : Option Nat) : Prop where
  dsk : Dsk T E B w d room s x
  ref : Ref U E B w m room t x
theorem Pair.below {d m : Nat} (h : Pair T U E B w d m room s t x) (hb : Below w.heap.size w w') : Pair T U E B w' d m room s t x := ⟨h.1.below hb, h.2.below hb⟩
/-- The program's disk makes a step. -/
theorem Pair.left {s' : Sl} (hTU : T ≠ U) (hTE : T ≠ E) (hUE : U ≠ E) (h : Pair T U E B w d m room s t x) (hl : Left T E B w d room s' x w') :
    ∃ x', Pair T U E B w' d m room s' t x' ∧ Below B w w' ∧ ∀ g, g < w.heap.size → g ≠ d → some g ≠ x → w'.heap[g]? = w.heap[g]? ∧ some g ≠ x' := by
  obtain ⟨x', h1, ha, hb⟩ := hl
  refine ⟨x', ⟨h1, h.2.aside h.1 hTU hTE hUE ha⟩, hb, fun g hg hd hx => ⟨ha.block g hg hd hx, ?_⟩⟩
  rcases ha.fresh with rfl | hf
  · exact hx
  · intro e
    have := hf g e.symm
    omega
/-- The document's disk makes a step. -/
theorem Pair.right {t' : Sl} (hTU : T ≠ U) (hUE : U ≠ E) (h : Pair T U E B w d m room s t x) (hl : Made2 U E B w m room t' x w') :
    Pair T U E B w' d m room s t' x ∧ Below B w w' ∧ ∀ g, g < w.heap.size → g ≠ m → w'.heap[g]? = w.heap[g]? :=
  ⟨⟨h.1.other h.2 hTU hUE hl.2, hl.1⟩, ⟨hl.2.os, hl.2.tape, hl.2.output, hl.2.size, fun k hk => hl.2.block k (Nat.lt_of_lt_of_le hk (Nat.le_of_lt (Nat.lt_of_le_of_lt h.2.1 h.2.lt))) (fun e => by
    simp only [Option.some.injEq] at e
    have := h.2.1
    omega)⟩, fun g hg hm => hl.2.block g hg (by simpa using hm)⟩
theorem Pair.own_lt {d m : Nat} (h : Pair T U E B w d m room s t x) : ∀ g, x = some g → g < w.heap.size := by
  intro g e
  obtain ⟨_, p, c, _, ho, hx⟩ := h.1
  exact (ho.lt g (hx.trans e)).2
theorem Ref.keep1 {o : Nat} {v : Value} (h : Ref T E B w m room s x) (hb : Below w.heap.size w w') (hv : w.cell? ⟨m, o, none⟩ = some v) : w'.cell? ⟨m, o, none⟩ = some v := (hb.cell (p := ⟨m, o, none⟩) h.lt).trans hv
end
end Go.Proofs.Ytlbdkigiphnabaa.Disk
