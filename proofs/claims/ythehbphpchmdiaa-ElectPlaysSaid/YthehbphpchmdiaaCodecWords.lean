/-
  Words for memory: a slice whose cells are bytes; a block of a struct of two fields, a slice of bytes and a bool; what of it stays behind a call. Any program, any types; no conditions beyond those that each names.
-/
import Derived.Test.YthehbphpchmdiaaCodecPlain
import Derived.WalkKit
import Derived.ProofKit
import Derived.Lib.Hide
import Derived.IntWalk
import Derived.Deep.AppendLies
import Derived.Laws.BytesArg
namespace Go.Proofs.Ythehbphpchmdiaa.Codec
open Go.RowKit

/-- Cells of bytes. -/
def cells8 (xs : List Int) : List Value := xs.map (Value.int .u8)
theorem len_cells8 (xs : List Int) : (cells8 xs).length = xs.length := by simp [cells8]
theorem cells8_append (a b : List Int) : cells8 (a ++ b) = cells8 a ++ cells8 b := by simp [cells8]
theorem cells8_one (xs : List Int) : ∀ u ∈ cells8 xs, u.oneCell' = true := by
  intro u hu
  simp only [cells8, List.mem_map] at hu
  obtain ⟨x, _, rfl⟩ := hu
  rfl
theorem cells8_at (xs : List Int) (j : Nat) (u : Value) (h : (cells8 xs)[j]? = some u) : j < xs.length ∧ u = .int .u8 (xs.getD j 0) := by
  have hj : j < xs.length := by
    have := (List.getElem?_eq_some_iff.1 h).1
    simpa [cells8] using this
  refine ⟨hj, ?_⟩
  simp only [cells8, List.getElem?_map, List.getElem?_eq_getElem hj, Option.map_some, Option.some.injEq] at h
  rw [← h]
  simp [List.getD, List.getElem?_eq_getElem hj]
theorem cells8_get (xs : List Int) (j : Nat) (hj : j < xs.length) : (cells8 xs)[j]? = some (.int .u8 (xs.getD j 0)) := by
  simp [cells8, List.getD, List.getElem?_eq_getElem hj]

theorem add_at (b o j : Nat) : (⟨b, o, none⟩ : Addr).add j = ⟨b, o + j, none⟩ := by
  unfold Addr.add
  split <;> simp_all

/-- A slice whose cells are the bytes xs, wherever they lie. -/
def Cel (w : World) (p : Option Addr) (xs : List Int) : Prop :=
  xs = [] ∨ ∃ b o, p = some ⟨b, o, none⟩ ∧ ∀ j, j < xs.length → w.cell? ⟨b, o + j, none⟩ = some (.int .u8 (xs.getD j 0))

/-- The same, in a block of type E. -/
def Lies (E : TypeId) (w : World) (p : Option Addr) (xs : List Int) : Prop :=
  xs = [] ∨ ∃ g o cs z, p = some ⟨g, o, none⟩ ∧ w.heap[g]? = some (.cells cs E z) ∧ ∀ j, j < xs.length → cs[o + j]? = some (.int .u8 (xs.getD j 0))

/-- Blocks of type E stay. -/
def Stays (E : TypeId) (w w' : World) : Prop := ∀ (g : Nat) (cs : Array Value) (z : Nat × Nat), w.heap[g]? = some (Obj.cells cs E z) → w'.heap[g]? = some (Obj.cells cs E z)

section
variable {w w' w'' : World} {E T : TypeId}
theorem Lies.cel {p : Option Addr} {xs : List Int} (h : Lies E w p xs) : Cel w p xs := by
  rcases h with h | ⟨g, o, cs, z, rfl, hg, hc⟩
  · exact .inl h
  · refine .inr ⟨g, o, rfl, fun j hj => ?_⟩
    rw [cell_of_row w g (o + j) cs E z hg]
    exact hc j hj
theorem Lies.keep {p : Option Addr} {xs : List Int} (h : Lies E w p xs) (hs : Stays E w w') : Lies E w' p xs := by
  rcases h with h | ⟨g, o, cs, z, rfl, hg, hc⟩
  · exact .inl h
  · exact .inr ⟨g, o, cs, z, rfl, hs g cs z hg, hc⟩
theorem Lies.cut {g o : Nat} {sp : Option Nat} {xs : List Int} (k : Nat) (hk : k < xs.length) (h : Lies E w (some ⟨g, o, sp⟩) xs) : Lies E w (some ((⟨g, o, sp⟩ : Addr).add k)) (xs.drop k) := by
  rcases h with h | ⟨g', o', cs, z, e, hg, hc⟩
  · rw [h] at hk; simp at hk
  · simp only [Option.some.injEq] at e
    rw [e, add_at]
    refine .inr ⟨g', o' + k, cs, z, rfl, hg, fun j hj => ?_⟩
    simp only [List.length_drop] at hj
    have := hc (k + j) (by omega)
    rw [Nat.add_assoc, this]
    simp [List.getD]

theorem lt_of_heap {g : Nat} {o : Obj} (h : w.heap[g]? = some o) : g < w.heap.size := (Array.getElem?_eq_some_iff.1 h).1
theorem Stays.below (hb : Below w.heap.size w w') : Stays E w w' := fun g _ _ h => (hb.block g (lt_of_heap h)).trans h
theorem Stays.grown {b : Nat} {cs : Array Value} {z : Nat × Nat} (hb : w.heap[b]? = some (.cells cs T z)) (hT : T ≠ E) (hg : w.grownBy w' (some b)) : Stays E w w' := by
  intro g ds y h
  refine (hg.block g (lt_of_heap h) ?_).trans h
  intro e
  simp only [Option.some.injEq] at e
  subst e
  rw [h] at hb
  simp only [Option.some.injEq, Obj.cells.injEq] at hb
  exact hT hb.2.1.symm
theorem Stays.refl : Stays E w w := fun _ _ _ h => h
theorem Stays.trans (h : Stays E w w') (k : Stays E w' w'') : Stays E w w'' := fun g cs z e => k g cs z (h g cs z e)

theorem Cel.at_ {a : Addr} {xs : List Int} (h : Cel w (some a) xs) (hb : Below w.heap.size w w') : ∀ j u, (cells8 xs)[j]? = some u → w'.cell? (a.add j) = some u := by
  intro j u hu
  obtain ⟨hj, rfl⟩ := cells8_at xs j u hu
  rcases h with h | ⟨b, o, e, hc⟩
  · rw [h] at hj; simp at hj
  · simp only [Option.some.injEq] at e
    rw [e, add_at, hb.cell (p := ⟨b, o + j, none⟩) (World.block_lt_of_cell? _ _ (hc j hj))]
    exact hc j hj
theorem Cel.below {p : Option Addr} {xs : List Int} (h : Cel w p xs) (hb : Below w.heap.size w w') : Cel w' p xs := by
  rcases h with h | ⟨b, o, e, hc⟩
  · exact .inl h
  · exact .inr ⟨b, o, e, fun j hj => (hb.cell (p := ⟨b, o + j, none⟩) (World.block_lt_of_cell? _ _ (hc j hj))).trans (hc j hj)⟩

/-- What a call owns it owns on, if what lay lies. -/
theorem own_below {base size n : Nat} {e : TypeId} {v : Value} {xs : List Value} (h : w.ownsRow base e size v n xs) (hb : Below w.heap.size w w') : w'.ownsRow base e size v n xs := by
  refine ⟨h.1, ?_⟩
  rcases h.2 with h0 | ⟨g, cap, cur, rfl, h1, h2, h3⟩
  · exact .inl h0
  · exact .inr ⟨g, cap, cur, rfl, h1, (hb.block g (lt_of_heap h2)).trans h2, h3⟩
theorem own_stays {base size n : Nat} {e : TypeId} {v : Value} {xs : List Value} (h : w.ownsRow base e size v n xs) (hb : Stays e w w') : w'.ownsRow base e size v n xs := by
  refine ⟨h.1, ?_⟩
  rcases h.2 with h0 | ⟨g, cap, cur, rfl, h1, h2, h3⟩
  · exact .inl h0
  · exact .inr ⟨g, cap, cur, rfl, h1, hb g cur (0, 0) h2, h3⟩
theorem own_lower {base base' size n : Nat} {e : TypeId} {v : Value} {xs : List Value} (h : w.ownsRow base e size v n xs) (hb : base' ≤ base) : w.ownsRow base' e size v n xs := by
  refine ⟨h.1, ?_⟩
  rcases h.2 with h0 | ⟨g, cap, cur, rfl, h1, h2⟩
  · exact .inl h0
  · exact .inr ⟨g, cap, cur, rfl, by omega, h2⟩
/-- What is owned, as a slice that lies. -/
theorem own_lies {base : Nat} {v : Value} {xs : List Int} (h : w.ownsRow base E 1 v xs.length (cells8 xs)) :
    ∃ p c, v = .slice p xs.length c ∧ xs.length ≤ c ∧ c ≤ maxLen ∧ Lies E w p xs ∧ (p = none → xs = []) := by
  rcases h.2 with ⟨rfl, h0⟩ | ⟨g, cap, cur, rfl, h1, h2, h3, h4, h5, h6⟩
  · have hx : xs = [] := List.eq_nil_of_length_eq_zero h0
    subst hx
    exact ⟨none, 0, rfl, Nat.le_refl _, Nat.zero_le _, .inl rfl, fun _ => rfl⟩
  · refine ⟨_, cap, rfl, h3, h4, .inr ⟨g, 0, cur, (0, 0), rfl, h2, fun j hj => ?_⟩, fun e => by cases e⟩
    have := cells8_get xs j hj
    rw [← h6, List.getElem?_take, if_pos (by omega)] at this
    simpa using this
theorem own_cel {base n g c : Nat} {xs : List Int} (h : w.ownsRow base E 1 (.slice (some ⟨g, 0, none⟩) n c) xs.length (cells8 xs)) : Cel w (some ⟨g, 0, none⟩) xs := by
  refine .inr ⟨g, 0, rfl, fun j hj => ?_⟩
  have := h.cells (g := g) rfl j _ (cells8_get xs j hj)
  rwa [add_at] at this
theorem Cel.take {p : Option Addr} {xs : List Int} (h : Cel w p xs) (k : Nat) : Cel w p (xs.take k) := by
  rcases h with h | ⟨b, o, e, hc⟩
  · exact .inl (by rw [h]; simp)
  · refine .inr ⟨b, o, e, fun j hj => ?_⟩
    simp only [List.length_take] at hj
    rw [hc j (by omega)]
    simp [List.getD, show j < k by omega]
/-- What is owned, as a text. -/
theorem own_text {P : Program} {t s : TypeId} {base : Nat} {v : Value} {xs : List Int} (ht : P.underlying t = some (.slice E)) (he : P.underlying E = some (.int .u8)) (hs : P.underlying s = some .string)
    (h : w.ownsRow base E 1 v xs.length (cells8 xs)) : (convert t s v).run P w = .ok (.string (strOfNums xs)) w := by
  obtain ⟨p, c, rfl, _, _, hl, _⟩ := own_lies h
  rcases hl.cel with h0 | ⟨b, o, rfl, hc⟩
  · subst h0
    have e : strOfNums [] = ByteArray.empty := by simp [strOfNums]; rfl
    rw [e]
    show (convert t s (.slice p 0 c)).run P w = _
    rw [run_convert_bytes_string w t s E p 0 c ht he hs]
    cases p with
    | none => simp [Conv.bytesToString]
    | some a => simp [Conv.bytesToString, loadCells]; rfl
  · exact run_convert_bytes_arg w t E ht he b o xs.length c xs rfl hc s hs

/-- A slice whose cells are the ints zs. -/
def Ints (w : World) (p : Option Addr) (zs : List Int) : Prop :=
  zs = [] ∨ ∃ b o, p = some ⟨b, o, none⟩ ∧ ∀ j, j < zs.length → w.cell? ⟨b, o + j, none⟩ = some (.int .i64 (zs.getD j 0))
theorem Ints.below {p : Option Addr} {zs : List Int} (h : Ints w p zs) (hb : Below w.heap.size w w') : Ints w' p zs := by
  rcases h with h | ⟨b, o, e, hc⟩
  · exact .inl h
  · exact .inr ⟨b, o, e, fun j hj => (hb.cell (p := ⟨b, o + j, none⟩) (World.block_lt_of_cell? _ _ (hc j hj))).trans (hc j hj)⟩

/-- A reader's block: bytes that are left, whether it failed. -/
def Rdr (T E : TypeId) (w : World) (b : Nat) (bs : List Int) (f : Bool) : Prop :=
  ∃ p c, w.heap[b]? = some (.cells #[.slice p bs.length c, .bool f] T (0, 0)) ∧ bs.length ≤ c ∧ c ≤ maxLen ∧ Lies E w p bs
theorem Rdr.lt {b : Nat} {bs : List Int} {f : Bool} (h : Rdr T E w b bs f) : b < w.heap.size := by
  obtain ⟨p, c, h, _⟩ := h
  exact lt_of_heap h
theorem Rdr.keep {b : Nat} {bs : List Int} {f : Bool} (h : Rdr T E w b bs f) (hs : Stays E w w') (hb : w'.heap[b]? = w.heap[b]?) : Rdr T E w' b bs f := by
  obtain ⟨p, c, h, h1, h2, h3⟩ := h
  exact ⟨p, c, hb.trans h, h1, h2, h3.keep hs⟩
theorem Rdr.below {b : Nat} {bs : List Int} {f : Bool} (h : Rdr T E w b bs f) (hb : Below w.heap.size w w') : Rdr T E w' b bs f := h.keep (.below hb) (hb.block b h.lt)
/-- Another reader's step. -/
theorem Rdr.other {T' : TypeId} {b b' : Nat} {bs bs' : List Int} {f f' : Bool} (h : Rdr T E w b bs f) (h' : Rdr T' E w b' bs' f') (hT : T' ≠ E) (hne : b ≠ b') (hg : w.grownBy w' (some b')) : Rdr T E w' b bs f := by
  obtain ⟨p, c, k, _⟩ := h'
  exact h.keep (.grown k hT hg) (hg.block b h.lt (by simpa using hne))
theorem frozen_of {b o : Nat} {cs : Array Value} (h : w.heap[b]? = some (.cells cs T (0, 0))) : w.frozen? ⟨b, o, none⟩ = false := by
  simp [World.frozen?, h]
theorem grown_set (b o : Nat) (u : Value) : w.grownBy (w.setCell ⟨b, o, none⟩ u) (some b) :=
  ⟨rfl, rfl, rfl, by simp [World.setCell], fun k _ hk => Below.heap_setCell _ _ _ _ (by simpa using hk)⟩
theorem heap_set (b o : Nat) (cs : Array Value) (u : Value) (h : w.heap[b]? = some (.cells cs T (0, 0))) : (w.setCell ⟨b, o, none⟩ u).heap[b]? = some (.cells (cs.setIfInBounds o u) T (0, 0)) := by
  simp [World.setCell, Array.getElem?_modify, h]

theorem Rdr.stays {b : Nat} {bs : List Int} {f : Bool} (h : Rdr T E w b bs f) (hT : T ≠ E) (hg : w.grownBy w' (some b)) : Stays E w w' := by
  obtain ⟨p, c, k, _⟩ := h
  exact .grown k hT hg
/-- What a reader's step tells and leaves. -/
def Step (T E : TypeId) (w : World) (b : Nat) (s : St) (u : Value) (e : Ending) (w' : World) : Prop := e = .returned u ∧ Rdr T E w' b s.1 s.2 ∧ w.grownBy w' (some b)
/-- The bool is set. -/
theorem Rdr.set1 {b : Nat} {bs : List Int} {f : Bool} (hT : T ≠ E) (h : Rdr T E w b bs f) (f' : Bool) : Rdr T E (w.setCell ⟨b, 1, none⟩ (.bool f')) b bs f' := by
  obtain ⟨p, c, k, h1, h2, h3⟩ := h
  refine ⟨p, c, ?_, h1, h2, h3.keep (.grown k hT (grown_set b 1 _))⟩
  rw [heap_set b 1 _ _ k]
  rfl
/-- The slice is set. -/
theorem Rdr.set0 {b : Nat} {bs : List Int} {f : Bool} (hT : T ≠ E) (h : Rdr T E w b bs f) (p : Option Addr) (c : Nat) (xs : List Int) (hc : xs.length ≤ c) (hm : c ≤ maxLen) (hx : Lies E w p xs) : Rdr T E (w.setCell ⟨b, 0, none⟩ (.slice p xs.length c)) b xs f := by
  obtain ⟨p', c', k, h1, h2, h3⟩ := h
  refine ⟨p, c, ?_, hc, hm, hx.keep (.grown k hT (grown_set b 0 _))⟩
  rw [heap_set b 0 _ _ k]
  rfl
/-- Eight bytes are taken, the slice moved on. -/
theorem Rdr.cut8 {b g o c : Nat} {bs : List Int} {f : Bool} (hT : T ≠ E) (h : Rdr T E w b bs f) (hc : bs.length ≤ c) (hm : c ≤ 9223372036854775807) (hx : Lies E w (some ⟨g, o, none⟩) bs) :
    Rdr T E (w.setCell ⟨b, 0, none⟩ (.slice (some ⟨g, o + 8, none⟩) (bs.length - 8) (c - 8))) b (bs.drop 8) f := by
  have e : bs.length - 8 = (bs.drop 8).length := by simp
  rw [e]
  refine h.set0 hT _ _ _ (by simp; omega) (by unfold maxLen; omega) ?_
  by_cases hl : 8 < bs.length
  · have := hx.cut 8 hl
    rwa [add_at] at this
  · exact .inl (List.drop_eq_nil_of_le (by omega))
theorem Rdr.cut8_all {b g o : Nat} {bs : List Int} {f : Bool} (hT : T ≠ E) (h : Rdr T E w b bs f) (hc : bs.length ≤ 8) :
    Rdr T E (w.setCell ⟨b, 0, none⟩ (.slice (some ⟨g, o, none⟩) (bs.length - 8) 0)) b (bs.drop 8) f := by
  have e : bs.length - 8 = (bs.drop 8).length := by simp
  rw [e]
  exact h.set0 hT _ _ _ (by simp; omega) (Nat.zero_le _) (.inl (List.drop_eq_nil_of_le hc))
theorem Rdr.cells {b : Nat} {bs : List Int} {f : Bool} (h : Rdr T E w b bs f) : ∃ p c, w.cell? ⟨b, 0, none⟩ = some (.slice p bs.length c) ∧ w.cell? ⟨b, 1, none⟩ = some (.bool f) ∧ w.frozen? ⟨b, 0, none⟩ = false ∧ w.frozen? ⟨b, 1, none⟩ = false ∧ bs.length ≤ c ∧ c ≤ maxLen ∧ Lies E w p bs := by
  obtain ⟨p, c, k, h1, h2, h3⟩ := h
  exact ⟨p, c, by rw [cell_of_row w b 0 _ T (0, 0) k]; rfl, by rw [cell_of_row w b 1 _ T (0, 0) k]; rfl, frozen_of k, frozen_of k, h1, h2, h3⟩

/-- A writer's block: all bytes so far, owned. -/
def Wtr (T E : TypeId) (B : Nat) (w : World) (b : Nat) (bs : List Int) : Prop :=
  B ≤ b ∧ ∃ v, w.heap[b]? = some (.cells #[v, .bool false] T (0, 0)) ∧ w.ownsRow B E 1 v bs.length (cells8 bs)
theorem Wtr.lt {B b : Nat} {bs : List Int} (h : Wtr T E B w b bs) : b < w.heap.size := by
  obtain ⟨_, v, h, _⟩ := h
  exact lt_of_heap h
theorem own_ne {B b : Nat} {v : Value} {n : Nat} {xs : List Value} {cs : Array Value} {z : Nat × Nat} (hT : T ≠ E) (hown : w.ownsRow B E 1 v n xs) (hv : w.heap[b]? = some (.cells cs T z)) : v.ownBlock ≠ some b := by
  rcases hown.2 with ⟨rfl, _⟩ | ⟨g, cap, cur, rfl, _, hg, _⟩
  · simp [Value.ownBlock]
  · intro e
    have e' : g = b := by simpa [Value.ownBlock] using e
    subst e'
    rw [hg] at hv
    simp only [Option.some.injEq, Obj.cells.injEq] at hv
    exact hT hv.2.1.symm
/-- A byte is appended: the block behind the append. -/
theorem push_block {w0 : World} {B b : Nat} {v : Value} {n : Nat} {xs : List Value} {cs : Array Value} (hT : T ≠ E) (hv : w.heap[b]? = some (.cells cs T (0, 0))) (hown : w.ownsRow B E 1 v n xs) (h0 : Below w.heap.size w w0) (hg : w0.grownBy w' v.ownBlock) :
    w'.heap[b]? = some (.cells cs T (0, 0)) :=
  (hg.block b (Nat.lt_of_lt_of_le (lt_of_heap hv) h0.size) (fun e => own_ne hT hown hv e.symm)).trans ((h0.block b (lt_of_heap hv)).trans hv)
/-- .. and behind the store. -/
theorem push_done {w0 : World} {B b g cap : Nat} {v : Value} {bs : List Int} {y : Int} (hT : T ≠ E) (hB : B ≤ b) (hv : w.heap[b]? = some (.cells #[v, .bool false] T (0, 0))) (hown : w.ownsRow B E 1 v bs.length (cells8 bs)) (hBw : B ≤ w.heap.size) (h0 : Below w.heap.size w w0) (hg : w0.grownBy w' v.ownBlock)
    (ho : w'.ownsRow B E 1 (.slice (some ⟨g, 0, none⟩) (bs.length + 1) cap) (bs.length + 1) (cells8 bs ++ [.int .u8 y])) :
    Wtr T E B (w'.setCell ⟨b, 0, none⟩ (.slice (some ⟨g, 0, none⟩) (bs.length + 1) cap)) b (bs ++ [y]) ∧ Below B w (w'.setCell ⟨b, 0, none⟩ (.slice (some ⟨g, 0, none⟩) (bs.length + 1) cap)) := by
  have hb := push_block hT hv hown h0 hg
  refine ⟨⟨hB, _, heap_set b 0 _ _ hb, ?_⟩, ?_⟩
  · have h1 := own_stays ho (.grown hb hT (grown_set b 0 (.slice (some ⟨g, 0, none⟩) (bs.length + 1) cap)))
    rw [List.length_append, cells8_append]
    exact h1
  · exact ((h0.mono hBw).grown hg (Nat.le_trans hBw h0.size) (fun k hk => (hown.lt k hk).1)).setCell (p := ⟨b, 0, none⟩) hB _

theorem below_new {o : Obj} : Below w.heap.size w (w.alloc o).drew := ((Below.refl _ _).alloc (Nat.le_refl _) _).drew
/-- All of it, behind the append of one byte that was laid first. -/
theorem push_all {o : Obj} {B b g cap : Nat} {v : Value} {bs : List Int} {y : Int} (hg : ((w.alloc o).drew).grownBy w' v.ownBlock) (ho : w'.ownsRow B E 1 (.slice (some ⟨g, 0, none⟩) (bs.length + 1) cap) (bs.length + 1) (cells8 bs ++ [.int .u8 y]))
    (hT : T ≠ E) (hB : B ≤ b) (hv : w.heap[b]? = some (.cells #[v, .bool false] T (0, 0))) (hown : w.ownsRow B E 1 v bs.length (cells8 bs)) (hBw : B ≤ w.heap.size) :
    w'.cell? ⟨b, 0, none⟩ = some v ∧ w'.frozen? ⟨b, 0, none⟩ = false ∧ Hid (Wtr T E B (w'.setCell ⟨b, 0, none⟩ (.slice (some ⟨g, 0, none⟩) (bs.length + 1) cap)) b (bs ++ [y]) ∧ Below B w (w'.setCell ⟨b, 0, none⟩ (.slice (some ⟨g, 0, none⟩) (bs.length + 1) cap))) := by
  have hv1 := push_block hT hv hown below_new hg
  exact ⟨by rw [cell_of_row w' b 0 _ T (0, 0) hv1]; rfl, frozen_of hv1, push_done hT hB hv hown hBw below_new hg ho⟩

/-- A writer that is wrong. -/
def Bad (T : TypeId) (w : World) (b : Nat) : Prop := w.heap[b]? = some (.cells #[.slice none 0 0, .bool true] T (0, 0))
/-- A writer, right or wrong. -/
def WSt (T E : TypeId) (B : Nat) (w : World) (b : Nat) (bs : List Int) : Bool → Prop
  | true => Wtr T E B w b bs
  | false => B ≤ b ∧ Bad T w b
theorem WSt.below {B b : Nat} {bs : List Int} {k : Bool} (h : WSt T E B w b bs k) (hb : Below w.heap.size w w') : WSt T E B w' b bs k := by
  cases k with
  | true =>
    obtain ⟨h1, v, h2, h3⟩ := h
    exact ⟨h1, v, (hb.block b (lt_of_heap h2)).trans h2, own_below h3 hb⟩
  | false => exact ⟨h.1, (hb.block b (lt_of_heap h.2)).trans h.2⟩
theorem WSt.cells {B b : Nat} {bs : List Int} {k : Bool} (h : WSt T E B w b bs k) : B ≤ b ∧ b < w.heap.size ∧ ∃ v, w.heap[b]? = some (.cells #[v, .bool (!k)] T (0, 0)) := by
  cases k with
  | true =>
    obtain ⟨h1, v, h2, h3⟩ := h
    exact ⟨h1, lt_of_heap h2, v, h2⟩
  | false => exact ⟨h.1, lt_of_heap h.2, _, h.2⟩
/-- A new row of bytes: what a call tells that makes one. -/
def Made (E : TypeId) (w : World) (xs : List Int) (mk : Value → Value) (e : Ending) (w' : World) : Prop :=
  ∃ v, e = .returned (mk v) ∧ w'.ownsRow w.heap.size E 1 v xs.length (cells8 xs) ∧ Below w.heap.size w w'
end
end Go.Proofs.Ythehbphpchmdiaa.Codec
