/-
  Numbers as bytes, plain: the eight bytes of a number from 0 to 2^64 less 1, the highest first, and the number of bytes; each is the other's answer. No program; no conditions beyond those that each names.
  Words for memory: a slice whose cells are bytes; a block of a struct of two fields, a slice of bytes and a bool; what of it stays behind a call. Any program, any types; no conditions beyond those that each names.
  Words for memory, whatever the elements of slices are: rows that lie, rows that a call owns, what is appended to them, what stays. Any program.
-/
import Derived.WalkKit
import Derived.ProofKit
import Derived.Lib.Hide
import Derived.IntWalk
import Derived.Deep.AppendLies
import Derived.Laws.BytesArg
import Derived.Laws.AppendOwnNone
import Derived.Outline
import Derived.Deep.QuietTactic
import Derived.BigQuiet
import Derived.Test.YtlbpeeelgpjciaaGreatChecked
namespace Go.Proofs.YtlbpeeelgpjciaaGreat.Codec

/-- The byte at place i of eight, the highest at 0. -/
def byteAt (x : Int) (i : Nat) : Int := x / 256 ^ (7 - i) % 256
/-- The first k bytes of a number. -/
def some8 (x : Int) (k : Nat) : List Int := (List.range k).map (byteAt x)
def eight (x : Int) : List Int := some8 x 8
/-- The number of bytes. -/
def num (bs : List Int) : Int := bs.foldl (fun a b => a * 256 + b) 0
def IsBytes (bs : List Int) : Prop := ∀ x ∈ bs, 0 ≤ x ∧ x < 256

theorem len_some8 (x : Int) (k : Nat) : (some8 x k).length = k := by simp [some8]
theorem len_eight (x : Int) : (eight x).length = 8 := len_some8 x 8
theorem some8_zero (x : Int) : some8 x 0 = [] := rfl
theorem some8_succ (x : Int) (k : Nat) : some8 x (k + 1) = some8 x k ++ [byteAt x k] := by simp [some8, List.range_succ]
theorem byteAt_ok (x : Int) (i : Nat) : 0 ≤ byteAt x i ∧ byteAt x i < 256 := by
  unfold byteAt
  exact ⟨Int.emod_nonneg _ (by omega), Int.emod_lt_of_pos _ (by omega)⟩
theorem some8_ok (x : Int) (k : Nat) : IsBytes (some8 x k) := by
  intro y hy
  simp only [some8, List.mem_map] at hy
  obtain ⟨i, _, rfl⟩ := hy
  exact byteAt_ok x i
theorem eight_ok (x : Int) : IsBytes (eight x) := some8_ok x 8

theorem num_nil : num [] = 0 := rfl
theorem num_snoc (l : List Int) (b : Int) : num (l ++ [b]) = num l * 256 + b := by simp [num]
theorem pow_pos256 (n : Nat) : (0 : Int) < 256 ^ n := Int.pow_pos (by omega)

theorem num_some8 (x : Int) (h0 : 0 ≤ x) (h1 : x < 18446744073709551616) : ∀ k, k ≤ 8 → num (some8 x k) = x / 256 ^ (8 - k)
  | 0, _ => by
    rw [some8_zero, num_nil]
    have e : (256 : Int) ^ (8 - 0) = 18446744073709551616 := by decide
    rw [e]
    omega
  | k + 1, hk => by
    rw [some8_succ, num_snoc, num_some8 x h0 h1 k (by omega)]
    unfold byteAt
    have e : 8 - k = (7 - k) + 1 := by omega
    have e2 : 8 - (k + 1) = 7 - k := by omega
    rw [e, e2, Int.pow_succ, ← Int.ediv_ediv_of_nonneg (Int.le_of_lt (pow_pos256 _))]
    generalize x / 256 ^ (7 - k) = q
    omega
theorem num_eight (x : Int) (h0 : 0 ≤ x) (h1 : x < 18446744073709551616) : num (eight x) = x := by
  have := num_some8 x h0 h1 8 (Nat.le_refl _)
  simpa [eight] using this

theorem num_bound : ∀ (n : Nat) (l : List Int), l.length = n → IsBytes l → 0 ≤ num l ∧ num l < 256 ^ n
  | 0, l, hl, _ => by
    obtain rfl := List.eq_nil_of_length_eq_zero hl
    simp [num]
  | n + 1, l, hl, hb => by
    have hne : l ≠ [] := by intro h; rw [h] at hl; simp at hl
    have e := List.dropLast_concat_getLast hne
    have h1 := num_bound n l.dropLast (by simp [hl]) (fun x hx => hb x (List.dropLast_subset l hx))
    have h2 := hb _ (List.getLast_mem hne)
    rw [← e, num_snoc, Int.pow_succ]
    omega

/-- The first k of at least eight bytes. -/
theorem num_take (bs : List Int) (hb : IsBytes bs) (k : Nat) (hk : k ≤ bs.length) : 0 ≤ num (bs.take k) ∧ num (bs.take k) < 256 ^ k :=
  num_bound k (bs.take k) (by simp; omega) (fun x hx => hb x (List.mem_of_mem_take hx))
theorem take_snoc (bs : List Int) (k : Nat) (hk : k < bs.length) : bs.take (k + 1) = bs.take k ++ [bs.getD k 0] := by
  rw [List.take_succ_eq_append_getElem hk]
  simp [List.getD, hk]
theorem num_take_succ (bs : List Int) (k : Nat) (hk : k < bs.length) : num (bs.take (k + 1)) = num (bs.take k) * 256 + bs.getD k 0 := by
  rw [take_snoc bs k hk, num_snoc]
theorem bytes_at (bs : List Int) (hb : IsBytes bs) (k : Nat) (hk : k < bs.length) : 0 ≤ bs.getD k 0 ∧ bs.getD k 0 < 256 := by
  have : bs.getD k 0 ∈ bs := by simp [List.getD, hk]
  exact hb _ this
theorem pow_below (k : Nat) (hk : k < 8) : (256 : Int) ^ k ≤ 72057594037927936 := by
  have : ∀ k : Fin 8, (256 : Int) ^ k.val ≤ 72057594037927936 := by decide
  exact this ⟨k, hk⟩
theorem IsBytes.append {a b : List Int} (ha : IsBytes a) (hb : IsBytes b) : IsBytes (a ++ b) := by
  intro x hx
  rcases List.mem_append.1 hx with h | h
  · exact ha x h
  · exact hb x h
theorem IsBytes.drop {a : List Int} (ha : IsBytes a) (k : Nat) : IsBytes (a.drop k) := fun x hx => ha x (List.mem_of_mem_drop hx)
theorem IsBytes.take {a : List Int} (ha : IsBytes a) (k : Nat) : IsBytes (a.take k) := fun x hx => ha x (List.mem_of_mem_take hx)

/-- What the program's shift and narrowing make of a number. -/
theorem byteAt_of (x : Int) (k n : Nat) (hn : n = 8 * (7 - k)) : x / 2 ^ n % 256 = byteAt x k := by
  unfold byteAt
  subst hn
  rw [show (256 : Int) = 2 ^ 8 by decide, ← Int.pow_mul]

/-! What a reader does: what is left, and whether it failed; the program's (p..), and the document's (r..). -/
abbrev St := List Int × Bool
def rBits (s : St) : Int × St := if s.2 = true ∨ s.1.length < 8 then (0, s.1, true) else (num (s.1.take 8), s.1.drop 8, false)
def pBits (s : St) : Int × St := if s.1.length < 8 then (0, [], true) else (num (s.1.take 8), s.1.drop 8, s.2)
def over (m x : Int) : Bool := decide (4611686018427387904 < x ∨ m < x)
def rUpto (m : Int) (s : St) : Int × St := if (rBits s).2.2 = true ∨ over m (rBits s).1 = true then (0, (rBits s).2.1, true) else rBits s
def pUpto (m : Int) (s : St) : Int × St := if over m (pBits s).1 = true then (0, [], true) else pBits s
def tell (s : St) : Int := if s.2 = true ∨ s.1 ≠ [] then 2 else 0
/-- The program's reader stands as the document's. -/
def Alike (s t : St) : Prop := s.2 = t.2 ∧ (s.2 = false → s.1 = t.1) ∧ (s.2 = true → s.1 = [])
theorem alike_start (l : List Int) : Alike (l, false) (l, false) := ⟨rfl, fun _ => rfl, fun h => by cases h⟩
theorem alike_failed (l : List Int) : Alike ([], true) (l, true) := ⟨rfl, fun h => (by cases h), fun _ => rfl⟩
theorem alike_bits {s t : St} (h : Alike s t) : (pBits s).1 = (rBits t).1 ∧ Alike (pBits s).2 (rBits t).2 := by
  obtain ⟨l, f⟩ := s
  obtain ⟨l', f'⟩ := t
  obtain ⟨h1, h2, h3⟩ := h
  simp only at h1 h2 h3
  subst h1
  cases f with
  | true =>
    obtain rfl := h3 rfl
    simp [pBits, rBits, alike_failed]
  | false =>
    obtain rfl := h2 rfl
    by_cases hl : l.length < 8
    · simp [pBits, rBits, hl, alike_failed]
    · simp [pBits, rBits, hl, alike_start]
theorem alike_upto {s t : St} (m : Int) (h : Alike s t) : (pUpto m s).1 = (rUpto m t).1 ∧ Alike (pUpto m s).2 (rUpto m t).2 := by
  obtain ⟨hx, hs⟩ := alike_bits h
  unfold pUpto rUpto
  rw [hx]
  by_cases ho : over m (rBits t).1 = true
  · simp [ho, alike_failed]
  · have ho' : over m (rBits t).1 = false := Bool.eq_false_iff.2 ho
    rw [if_neg ho]
    by_cases hf : (rBits t).2.2 = true
    · have hp : (pBits s).2.2 = true := hs.1.trans hf
      have hl := hs.2.2 hp
      have hz : (pBits s).1 = 0 := by
        unfold pBits at hp ⊢
        split
        · rfl
        · rename_i hlen
          rw [if_neg hlen] at hp
          have := h.2.2 hp
          rw [this] at hlen
          simp at hlen
      rw [if_pos (.inl hf)]
      refine ⟨hz, ?_⟩
      have e : (pBits s).2 = ([], true) := Prod.ext hl hp
      rw [e]
      exact alike_failed _
    · rw [if_neg (by simp [hf, ho'])]
      exact ⟨hx, hs⟩
theorem alike_tell {s t : St} (h : Alike s t) : tell s = tell t := by
  obtain ⟨l, f⟩ := s
  obtain ⟨l', f'⟩ := t
  obtain ⟨h1, h2, h3⟩ := h
  simp only at h1 h2 h3
  subst h1
  cases f with
  | true => simp [tell]
  | false => obtain rfl := h2 rfl; rfl
theorem pBits_ok {s : St} (h : IsBytes s.1) : IsBytes (pBits s).2.1 := by
  unfold pBits
  split
  · intro x hx; cases hx
  · exact h.drop 8
theorem rBits_ok {s : St} (h : IsBytes s.1) : IsBytes (rBits s).2.1 := by
  unfold rBits
  split
  · exact h
  · exact h.drop 8
theorem pUpto_ok {s : St} (m : Int) (h : IsBytes s.1) : IsBytes (pUpto m s).2.1 := by
  unfold pUpto
  split
  · intro x hx; cases hx
  · exact pBits_ok h
theorem rUpto_ok {s : St} (m : Int) (h : IsBytes s.1) : IsBytes (rUpto m s).2.1 := by
  unfold rUpto
  split
  · exact rBits_ok h
  · exact rBits_ok h

theorem pBits_eight (x : Int) (l : List Int) (f : Bool) (h0 : 0 ≤ x) (h1 : x < 18446744073709551616) : pBits (eight x ++ l, f) = (x, l, f) := by
  have hl : ¬ (eight x ++ l).length < 8 := by rw [List.length_append, len_eight]; omega
  unfold pBits
  rw [if_neg hl]
  simp only
  rw [List.take_left' (len_eight x), List.drop_left' (len_eight x), num_eight x h0 h1]
theorem pUpto_eight (m x : Int) (l : List Int) (f : Bool) (h0 : 0 ≤ x) (h1 : x ≤ 4611686018427387904) (h2 : x ≤ m) : pUpto m (eight x ++ l, f) = (x, l, f) := by
  unfold pUpto
  rw [pBits_eight x l f h0 (by omega)]
  have : over m x = false := by simp [over]; omega
  simp [this]

/-- The bytes of numbers. -/
def puts (l : List Int) : List Int := l.flatMap eight
theorem puts_nil : puts [] = [] := rfl
theorem puts_snoc (l : List Int) (x : Int) : puts (l ++ [x]) = puts l ++ eight x := by simp [puts]
theorem len_puts : ∀ l : List Int, (puts l).length = 8 * l.length
  | [] => rfl
  | x :: l => by
    have := len_puts l
    simp [puts, len_eight] at this ⊢
    omega
theorem puts_ok : ∀ l : List Int, IsBytes (puts l)
  | [] => by intro x hx; cases hx
  | x :: l => by
    have := (eight_ok x).append (puts_ok l)
    simpa [puts] using this
theorem puts_drop : ∀ (l : List Int) (k : Nat), k ≤ l.length → (puts l).drop (8 * k) = puts (l.drop k)
  | l, 0, _ => by simp
  | [], k + 1, h => by simp at h
  | x :: l, k + 1, h => by
    have := puts_drop l k (by simpa using h)
    have e : puts (x :: l) = eight x ++ puts l := by simp [puts]
    rw [e, show 8 * (k + 1) = 8 + 8 * k by omega, ← List.drop_drop, List.drop_left' (len_eight x), this]
    rfl
/-- May each be a number? -/
def good (x : Int) : Bool := decide (0 ≤ x ∧ x ≤ 4611686018427387904)
def goods (l : List Int) : Bool := l.all good
theorem puts_step (l : List Int) (k : Nat) (hk : k < l.length) : puts (l.drop k) = eight (l.getD k 0) ++ puts (l.drop (k + 1)) := by
  have e : l.getD k 0 = l[k] := by simp [List.getD, hk]
  rw [e, List.drop_eq_getElem_cons hk]
  unfold puts
  rw [List.flatMap_cons]
theorem good_at (l : List Int) (h : goods l = true) (k : Nat) (hk : k < l.length) : 0 ≤ l.getD k 0 ∧ l.getD k 0 ≤ 4611686018427387904 := by
  have := List.all_eq_true.1 h (l.getD k 0) (by simp [List.getD, hk])
  simpa [good] using this
/-- A number is read, of what was written, whatever lies behind. -/
theorem back_num (l : List Int) (t : List Int) (f : Bool) (h : goods l = true) (k : Nat) (hk : k < l.length) : pUpto 4611686018427387904 (puts (l.drop k) ++ t, f) = (l.getD k 0, puts (l.drop (k + 1)) ++ t, f) := by
  obtain ⟨h0, h1⟩ := good_at l h k hk
  rw [puts_step l k hk, List.append_assoc]
  exact pUpto_eight _ _ _ _ h0 h1 h1
theorem back_none (t : List Int) (f : Bool) (h : t.length < 8) : pBits (t, f) = (0, [], true) := by unfold pBits; rw [if_pos h]
end Go.Proofs.YtlbpeeelgpjciaaGreat.Codec

namespace Go.Proofs.YtlbpeeelgpjciaaGreat.Codec
open Go.RowKit

/-- Cells of bytes. -/
def cells8 (xs : List Int) : List Value := xs.map (Value.int .u8)
theorem len_cells8 (xs : List Int) : (cells8 xs).length = xs.length := by simp [cells8]
theorem cells8_append (a b : List Int) : cells8 (a ++ b) = cells8 a ++ cells8 b := by simp [cells8]
theorem cells8_one (xs : List Int) : ∀ u ∈ cells8 xs, u.oneCell' = true := by
  intro u hu
  simp only [cells8, List.mem_map] at hu
  obtain ⟨x, _, rfl⟩ := hu
  rfl
theorem cells8_at (xs : List Int) (j : Nat) (u : Value) (h : (cells8 xs)[j]? = some u) : j < xs.length ∧ u = .int .u8 (xs.getD j 0) := by
  have hj : j < xs.length := by
    have := (List.getElem?_eq_some_iff.1 h).1
    simpa [cells8] using this
  refine ⟨hj, ?_⟩
  simp only [cells8, List.getElem?_map, List.getElem?_eq_getElem hj, Option.map_some, Option.some.injEq] at h
  rw [← h]
  simp [List.getD, List.getElem?_eq_getElem hj]
theorem cells8_get (xs : List Int) (j : Nat) (hj : j < xs.length) : (cells8 xs)[j]? = some (.int .u8 (xs.getD j 0)) := by
  simp [cells8, List.getD, List.getElem?_eq_getElem hj]

theorem add_at (b o j : Nat) : (⟨b, o, none⟩ : Addr).add j = ⟨b, o + j, none⟩ := by
  unfold Addr.add
  split <;> simp_all

/-- A slice whose cells are the bytes xs, wherever they lie. -/
def Cel (w : World) (p : Option Addr) (xs : List Int) : Prop :=
  xs = [] ∨ ∃ b o, p = some ⟨b, o, none⟩ ∧ ∀ j, j < xs.length → w.cell? ⟨b, o + j, none⟩ = some (.int .u8 (xs.getD j 0))

/-- The same, in a block of type E. -/
def Lies (E : TypeId) (w : World) (p : Option Addr) (xs : List Int) : Prop :=
  xs = [] ∨ ∃ g o cs z, p = some ⟨g, o, none⟩ ∧ w.heap[g]? = some (.cells cs E z) ∧ ∀ j, j < xs.length → cs[o + j]? = some (.int .u8 (xs.getD j 0))

/-- Blocks of type E stay. -/
def Stays (E : TypeId) (w w' : World) : Prop := ∀ (g : Nat) (cs : Array Value) (z : Nat × Nat), w.heap[g]? = some (Obj.cells cs E z) → w'.heap[g]? = some (Obj.cells cs E z)

section
variable {w w' w'' : World} {E T : TypeId}
theorem Lies.cel {p : Option Addr} {xs : List Int} (h : Lies E w p xs) : Cel w p xs := by
  rcases h with h | ⟨g, o, cs, z, rfl, hg, hc⟩
  · exact .inl h
  · refine .inr ⟨g, o, rfl, fun j hj => ?_⟩
    rw [cell_of_row w g (o + j) cs E z hg]
    exact hc j hj
theorem Lies.keep {p : Option Addr} {xs : List Int} (h : Lies E w p xs) (hs : Stays E w w') : Lies E w' p xs := by
  rcases h with h | ⟨g, o, cs, z, rfl, hg, hc⟩
  · exact .inl h
  · exact .inr ⟨g, o, cs, z, rfl, hs g cs z hg, hc⟩
theorem Lies.cut {g o : Nat} {sp : Option Nat} {xs : List Int} (k : Nat) (hk : k < xs.length) (h : Lies E w (some ⟨g, o, sp⟩) xs) : Lies E w (some ((⟨g, o, sp⟩ : Addr).add k)) (xs.drop k) := by
  rcases h with h | ⟨g', o', cs, z, e, hg, hc⟩
  · rw [h] at hk; simp at hk
  · simp only [Option.some.injEq] at e
    rw [e, add_at]
    refine .inr ⟨g', o' + k, cs, z, rfl, hg, fun j hj => ?_⟩
    simp only [List.length_drop] at hj
    have := hc (k + j) (by omega)
    rw [Nat.add_assoc, this]
    simp [List.getD]

theorem lt_of_heap {g : Nat} {o : Obj} (h : w.heap[g]? = some o) : g < w.heap.size := (Array.getElem?_eq_some_iff.1 h).1
theorem Stays.below (hb : Below w.heap.size w w') : Stays E w w' := fun g _ _ h => (hb.block g (lt_of_heap h)).trans h
theorem Stays.grown {b : Nat} {cs : Array Value} {z : Nat × Nat} (hb : w.heap[b]? = some (.cells cs T z)) (hT : T ≠ E) (hg : w.grownBy w' (some b)) : Stays E w w' := by
  intro g ds y h
  refine (hg.block g (lt_of_heap h) ?_).trans h
  intro e
  simp only [Option.some.injEq] at e
  subst e
  rw [h] at hb
  simp only [Option.some.injEq, Obj.cells.injEq] at hb
  exact hT hb.2.1.symm
theorem Stays.refl : Stays E w w := fun _ _ _ h => h
theorem Stays.trans (h : Stays E w w') (k : Stays E w' w'') : Stays E w w'' := fun g cs z e => k g cs z (h g cs z e)

theorem Cel.at_ {a : Addr} {xs : List Int} (h : Cel w (some a) xs) (hb : Below w.heap.size w w') : ∀ j u, (cells8 xs)[j]? = some u → w'.cell? (a.add j) = some u := by
  intro j u hu
  obtain ⟨hj, rfl⟩ := cells8_at xs j u hu
  rcases h with h | ⟨b, o, e, hc⟩
  · rw [h] at hj; simp at hj
  · simp only [Option.some.injEq] at e
    rw [e, add_at, hb.cell (p := ⟨b, o + j, none⟩) (World.block_lt_of_cell? _ _ (hc j hj))]
    exact hc j hj
theorem Cel.below {p : Option Addr} {xs : List Int} (h : Cel w p xs) (hb : Below w.heap.size w w') : Cel w' p xs := by
  rcases h with h | ⟨b, o, e, hc⟩
  · exact .inl h
  · exact .inr ⟨b, o, e, fun j hj => (hb.cell (p := ⟨b, o + j, none⟩) (World.block_lt_of_cell? _ _ (hc j hj))).trans (hc j hj)⟩

/-- What a call owns it owns on, if what lay lies. -/
theorem own_below {base size n : Nat} {e : TypeId} {v : Value} {xs : List Value} (h : w.ownsRow base e size v n xs) (hb : Below w.heap.size w w') : w'.ownsRow base e size v n xs := by
  refine ⟨h.1, ?_⟩
  rcases h.2 with h0 | ⟨g, cap, cur, rfl, h1, h2, h3⟩
  · exact .inl h0
  · exact .inr ⟨g, cap, cur, rfl, h1, (hb.block g (lt_of_heap h2)).trans h2, h3⟩
theorem own_stays {base size n : Nat} {e : TypeId} {v : Value} {xs : List Value} (h : w.ownsRow base e size v n xs) (hb : Stays e w w') : w'.ownsRow base e size v n xs := by
  refine ⟨h.1, ?_⟩
  rcases h.2 with h0 | ⟨g, cap, cur, rfl, h1, h2, h3⟩
  · exact .inl h0
  · exact .inr ⟨g, cap, cur, rfl, h1, hb g cur (0, 0) h2, h3⟩
theorem own_lower {base base' size n : Nat} {e : TypeId} {v : Value} {xs : List Value} (h : w.ownsRow base e size v n xs) (hb : base' ≤ base) : w.ownsRow base' e size v n xs := by
  refine ⟨h.1, ?_⟩
  rcases h.2 with h0 | ⟨g, cap, cur, rfl, h1, h2⟩
  · exact .inl h0
  · exact .inr ⟨g, cap, cur, rfl, by omega, h2⟩
/-- What is owned, as a slice that lies. -/
theorem own_lies {base : Nat} {v : Value} {xs : List Int} (h : w.ownsRow base E 1 v xs.length (cells8 xs)) :
    ∃ p c, v = .slice p xs.length c ∧ xs.length ≤ c ∧ c ≤ maxLen ∧ Lies E w p xs ∧ (p = none → xs = []) := by
  rcases h.2 with ⟨rfl, h0⟩ | ⟨g, cap, cur, rfl, h1, h2, h3, h4, h5, h6⟩
  · have hx : xs = [] := List.eq_nil_of_length_eq_zero h0
    subst hx
    exact ⟨none, 0, rfl, Nat.le_refl _, Nat.zero_le _, .inl rfl, fun _ => rfl⟩
  · refine ⟨_, cap, rfl, h3, h4, .inr ⟨g, 0, cur, (0, 0), rfl, h2, fun j hj => ?_⟩, fun e => by cases e⟩
    have := cells8_get xs j hj
    rw [← h6, List.getElem?_take, if_pos (by omega)] at this
    simpa using this
theorem own_cel {base n g c : Nat} {xs : List Int} (h : w.ownsRow base E 1 (.slice (some ⟨g, 0, none⟩) n c) xs.length (cells8 xs)) : Cel w (some ⟨g, 0, none⟩) xs := by
  refine .inr ⟨g, 0, rfl, fun j hj => ?_⟩
  have := h.cells (g := g) rfl j _ (cells8_get xs j hj)
  rwa [add_at] at this
theorem Cel.take {p : Option Addr} {xs : List Int} (h : Cel w p xs) (k : Nat) : Cel w p (xs.take k) := by
  rcases h with h | ⟨b, o, e, hc⟩
  · exact .inl (by rw [h]; simp)
  · refine .inr ⟨b, o, e, fun j hj => ?_⟩
    simp only [List.length_take] at hj
    rw [hc j (by omega)]
    simp [List.getD, show j < k by omega]
/-- What is owned, as a text. -/
theorem own_text {P : Program} {t s : TypeId} {base : Nat} {v : Value} {xs : List Int} (ht : P.underlying t = some (.slice E)) (he : P.underlying E = some (.int .u8)) (hs : P.underlying s = some .string)
    (h : w.ownsRow base E 1 v xs.length (cells8 xs)) : (convert t s v).run P w = .ok (.string (strOfNums xs)) w := by
  obtain ⟨p, c, rfl, _, _, hl, _⟩ := own_lies h
  rcases hl.cel with h0 | ⟨b, o, rfl, hc⟩
  · subst h0
    have e : strOfNums [] = ByteArray.empty := by simp [strOfNums]; rfl
    rw [e]
    show (convert t s (.slice p 0 c)).run P w = _
    rw [run_convert_bytes_string w t s E p 0 c ht he hs]
    cases p with
    | none => simp [Conv.bytesToString]
    | some a => simp [Conv.bytesToString, loadCells]; rfl
  · exact run_convert_bytes_arg w t E ht he b o xs.length c xs rfl hc s hs

/-- A slice whose cells are the ints zs. -/
def Ints (w : World) (p : Option Addr) (zs : List Int) : Prop :=
  zs = [] ∨ ∃ b o, p = some ⟨b, o, none⟩ ∧ ∀ j, j < zs.length → w.cell? ⟨b, o + j, none⟩ = some (.int .i64 (zs.getD j 0))
theorem Ints.below {p : Option Addr} {zs : List Int} (h : Ints w p zs) (hb : Below w.heap.size w w') : Ints w' p zs := by
  rcases h with h | ⟨b, o, e, hc⟩
  · exact .inl h
  · exact .inr ⟨b, o, e, fun j hj => (hb.cell (p := ⟨b, o + j, none⟩) (World.block_lt_of_cell? _ _ (hc j hj))).trans (hc j hj)⟩

/-- A reader's block: bytes that are left, whether it failed. -/
def Rdr (T E : TypeId) (w : World) (b : Nat) (bs : List Int) (f : Bool) : Prop :=
  ∃ p c, w.heap[b]? = some (.cells #[.slice p bs.length c, .bool f] T (0, 0)) ∧ bs.length ≤ c ∧ c ≤ maxLen ∧ Lies E w p bs
theorem Rdr.lt {b : Nat} {bs : List Int} {f : Bool} (h : Rdr T E w b bs f) : b < w.heap.size := by
  obtain ⟨p, c, h, _⟩ := h
  exact lt_of_heap h
theorem Rdr.keep {b : Nat} {bs : List Int} {f : Bool} (h : Rdr T E w b bs f) (hs : Stays E w w') (hb : w'.heap[b]? = w.heap[b]?) : Rdr T E w' b bs f := by
  obtain ⟨p, c, h, h1, h2, h3⟩ := h
  exact ⟨p, c, hb.trans h, h1, h2, h3.keep hs⟩
theorem Rdr.below {b : Nat} {bs : List Int} {f : Bool} (h : Rdr T E w b bs f) (hb : Below w.heap.size w w') : Rdr T E w' b bs f := h.keep (.below hb) (hb.block b h.lt)
/-- Another reader's step. -/
theorem Rdr.other {T' : TypeId} {b b' : Nat} {bs bs' : List Int} {f f' : Bool} (h : Rdr T E w b bs f) (h' : Rdr T' E w b' bs' f') (hT : T' ≠ E) (hne : b ≠ b') (hg : w.grownBy w' (some b')) : Rdr T E w' b bs f := by
  obtain ⟨p, c, k, _⟩ := h'
  exact h.keep (.grown k hT hg) (hg.block b h.lt (by simpa using hne))
theorem frozen_of {b o : Nat} {cs : Array Value} (h : w.heap[b]? = some (.cells cs T (0, 0))) : w.frozen? ⟨b, o, none⟩ = false := by
  simp [World.frozen?, h]
theorem grown_set (b o : Nat) (u : Value) : w.grownBy (w.setCell ⟨b, o, none⟩ u) (some b) :=
  ⟨rfl, rfl, rfl, by simp [World.setCell], fun k _ hk => Below.heap_setCell _ _ _ _ (by simpa using hk)⟩
theorem heap_set (b o : Nat) (cs : Array Value) (u : Value) (h : w.heap[b]? = some (.cells cs T (0, 0))) : (w.setCell ⟨b, o, none⟩ u).heap[b]? = some (.cells (cs.setIfInBounds o u) T (0, 0)) := by
  simp [World.setCell, Array.getElem?_modify, h]

theorem Rdr.stays {b : Nat} {bs : List Int} {f : Bool} (h : Rdr T E w b bs f) (hT : T ≠ E) (hg : w.grownBy w' (some b)) : Stays E w w' := by
  obtain ⟨p, c, k, _⟩ := h
  exact .grown k hT hg
/-- What a reader's step tells and leaves. -/
def Step (T E : TypeId) (w : World) (b : Nat) (s : St) (u : Value) (e : Ending) (w' : World) : Prop := e = .returned u ∧ Rdr T E w' b s.1 s.2 ∧ w.grownBy w' (some b)
/-- The bool is set. -/
theorem Rdr.set1 {b : Nat} {bs : List Int} {f : Bool} (hT : T ≠ E) (h : Rdr T E w b bs f) (f' : Bool) : Rdr T E (w.setCell ⟨b, 1, none⟩ (.bool f')) b bs f' := by
  obtain ⟨p, c, k, h1, h2, h3⟩ := h
  refine ⟨p, c, ?_, h1, h2, h3.keep (.grown k hT (grown_set b 1 _))⟩
  rw [heap_set b 1 _ _ k]
  rfl
/-- The slice is set. -/
theorem Rdr.set0 {b : Nat} {bs : List Int} {f : Bool} (hT : T ≠ E) (h : Rdr T E w b bs f) (p : Option Addr) (c : Nat) (xs : List Int) (hc : xs.length ≤ c) (hm : c ≤ maxLen) (hx : Lies E w p xs) : Rdr T E (w.setCell ⟨b, 0, none⟩ (.slice p xs.length c)) b xs f := by
  obtain ⟨p', c', k, h1, h2, h3⟩ := h
  refine ⟨p, c, ?_, hc, hm, hx.keep (.grown k hT (grown_set b 0 _))⟩
  rw [heap_set b 0 _ _ k]
  rfl
/-- Eight bytes are taken, the slice moved on. -/
theorem Rdr.cut8 {b g o c : Nat} {bs : List Int} {f : Bool} (hT : T ≠ E) (h : Rdr T E w b bs f) (hc : bs.length ≤ c) (hm : c ≤ 9223372036854775807) (hx : Lies E w (some ⟨g, o, none⟩) bs) :
    Rdr T E (w.setCell ⟨b, 0, none⟩ (.slice (some ⟨g, o + 8, none⟩) (bs.length - 8) (c - 8))) b (bs.drop 8) f := by
  have e : bs.length - 8 = (bs.drop 8).length := by simp
  rw [e]
  refine h.set0 hT _ _ _ (by simp; omega) (by unfold maxLen; omega) ?_
  by_cases hl : 8 < bs.length
  · have := hx.cut 8 hl
    rwa [add_at] at this
  · exact .inl (List.drop_eq_nil_of_le (by omega))
theorem Rdr.cut8_all {b g o : Nat} {bs : List Int} {f : Bool} (hT : T ≠ E) (h : Rdr T E w b bs f) (hc : bs.length ≤ 8) :
    Rdr T E (w.setCell ⟨b, 0, none⟩ (.slice (some ⟨g, o, none⟩) (bs.length - 8) 0)) b (bs.drop 8) f := by
  have e : bs.length - 8 = (bs.drop 8).length := by simp
  rw [e]
  exact h.set0 hT _ _ _ (by simp; omega) (Nat.zero_le _) (.inl (List.drop_eq_nil_of_le hc))
theorem Rdr.cells {b : Nat} {bs : List Int} {f : Bool} (h : Rdr T E w b bs f) : ∃ p c, w.cell? ⟨b, 0, none⟩ = some (.slice p bs.length c) ∧ w.cell? ⟨b, 1, none⟩ = some (.bool f) ∧ w.frozen? ⟨b, 0, none⟩ = false ∧ w.frozen? ⟨b, 1, none⟩ = false ∧ bs.length ≤ c ∧ c ≤ maxLen ∧ Lies E w p bs := by
  obtain ⟨p, c, k, h1, h2, h3⟩ := h
  exact ⟨p, c, by rw [cell_of_row w b 0 _ T (0, 0) k]; rfl, by rw [cell_of_row w b 1 _ T (0, 0) k]; rfl, frozen_of k, frozen_of k, h1, h2, h3⟩

/-- A writer's block: all bytes so far, owned. -/
def Wtr (T E : TypeId) (B : Nat) (w : World) (b : Nat) (bs : List Int) : Prop :=
  B ≤ b ∧ ∃ v, w.heap[b]? = some (.cells #[v, .bool false] T (0, 0)) ∧ w.ownsRow B E 1 v bs.length (cells8 bs)
theorem Wtr.lt {B b : Nat} {bs : List Int} (h : Wtr T E B w b bs) : b < w.heap.size := by
  obtain ⟨_, v, h, _⟩ := h
  exact lt_of_heap h
theorem own_ne {B b : Nat} {v : Value} {n : Nat} {xs : List Value} {cs : Array Value} {z : Nat × Nat} (hT : T ≠ E) (hown : w.ownsRow B E 1 v n xs) (hv : w.heap[b]? = some (.cells cs T z)) : v.ownBlock ≠ some b := by
  rcases hown.2 with ⟨rfl, _⟩ | ⟨g, cap, cur, rfl, _, hg, _⟩
  · simp [Value.ownBlock]
  · intro e
    have e' : g = b := by simpa [Value.ownBlock] using e
    subst e'
    rw [hg] at hv
    simp only [Option.some.injEq, Obj.cells.injEq] at hv
    exact hT hv.2.1.symm
/-- A byte is appended: the block behind the append. -/
theorem push_block {w0 : World} {B b : Nat} {v : Value} {n : Nat} {xs : List Value} {cs : Array Value} (hT : T ≠ E) (hv : w.heap[b]? = some (.cells cs T (0, 0))) (hown : w.ownsRow B E 1 v n xs) (h0 : Below w.heap.size w w0) (hg : w0.grownBy w' v.ownBlock) :
    w'.heap[b]? = some (.cells cs T (0, 0)) :=
  (hg.block b (Nat.lt_of_lt_of_le (lt_of_heap hv) h0.size) (fun e => own_ne hT hown hv e.symm)).trans ((h0.block b (lt_of_heap hv)).trans hv)
/-- .. and behind the store. -/
theorem push_done {w0 : World} {B b g cap : Nat} {v : Value} {bs : List Int} {y : Int} (hT : T ≠ E) (hB : B ≤ b) (hv : w.heap[b]? = some (.cells #[v, .bool false] T (0, 0))) (hown : w.ownsRow B E 1 v bs.length (cells8 bs)) (hBw : B ≤ w.heap.size) (h0 : Below w.heap.size w w0) (hg : w0.grownBy w' v.ownBlock)
    (ho : w'.ownsRow B E 1 (.slice (some ⟨g, 0, none⟩) (bs.length + 1) cap) (bs.length + 1) (cells8 bs ++ [.int .u8 y])) :
    Wtr T E B (w'.setCell ⟨b, 0, none⟩ (.slice (some ⟨g, 0, none⟩) (bs.length + 1) cap)) b (bs ++ [y]) ∧ Below B w (w'.setCell ⟨b, 0, none⟩ (.slice (some ⟨g, 0, none⟩) (bs.length + 1) cap)) := by
  have hb := push_block hT hv hown h0 hg
  refine ⟨⟨hB, _, heap_set b 0 _ _ hb, ?_⟩, ?_⟩
  · have h1 := own_stays ho (.grown hb hT (grown_set b 0 (.slice (some ⟨g, 0, none⟩) (bs.length + 1) cap)))
    rw [List.length_append, cells8_append]
    exact h1
  · exact ((h0.mono hBw).grown hg (Nat.le_trans hBw h0.size) (fun k hk => (hown.lt k hk).1)).setCell (p := ⟨b, 0, none⟩) hB _

theorem below_new {o : Obj} : Below w.heap.size w (w.alloc o).drew := ((Below.refl _ _).alloc (Nat.le_refl _) _).drew
/-- All of it, behind the append of one byte that was laid first. -/
theorem push_all {o : Obj} {B b g cap : Nat} {v : Value} {bs : List Int} {y : Int} (hg : ((w.alloc o).drew).grownBy w' v.ownBlock) (ho : w'.ownsRow B E 1 (.slice (some ⟨g, 0, none⟩) (bs.length + 1) cap) (bs.length + 1) (cells8 bs ++ [.int .u8 y]))
    (hT : T ≠ E) (hB : B ≤ b) (hv : w.heap[b]? = some (.cells #[v, .bool false] T (0, 0))) (hown : w.ownsRow B E 1 v bs.length (cells8 bs)) (hBw : B ≤ w.heap.size) :
    w'.cell? ⟨b, 0, none⟩ = some v ∧ w'.frozen? ⟨b, 0, none⟩ = false ∧ Hid (Wtr T E B (w'.setCell ⟨b, 0, none⟩ (.slice (some ⟨g, 0, none⟩) (bs.length + 1) cap)) b (bs ++ [y]) ∧ Below B w (w'.setCell ⟨b, 0, none⟩ (.slice (some ⟨g, 0, none⟩) (bs.length + 1) cap))) := by
  have hv1 := push_block hT hv hown below_new hg
  exact ⟨by rw [cell_of_row w' b 0 _ T (0, 0) hv1]; rfl, frozen_of hv1, push_done hT hB hv hown hBw below_new hg ho⟩

/-- A writer that is wrong. -/
def Bad (T : TypeId) (w : World) (b : Nat) : Prop := w.heap[b]? = some (.cells #[.slice none 0 0, .bool true] T (0, 0))
/-- A writer, right or wrong. -/
def WSt (T E : TypeId) (B : Nat) (w : World) (b : Nat) (bs : List Int) : Bool → Prop
  | true => Wtr T E B w b bs
  | false => B ≤ b ∧ Bad T w b
theorem WSt.below {B b : Nat} {bs : List Int} {k : Bool} (h : WSt T E B w b bs k) (hb : Below w.heap.size w w') : WSt T E B w' b bs k := by
  cases k with
  | true =>
    obtain ⟨h1, v, h2, h3⟩ := h
    exact ⟨h1, v, (hb.block b (lt_of_heap h2)).trans h2, own_below h3 hb⟩
  | false => exact ⟨h.1, (hb.block b (lt_of_heap h.2)).trans h.2⟩
theorem WSt.cells {B b : Nat} {bs : List Int} {k : Bool} (h : WSt T E B w b bs k) : B ≤ b ∧ b < w.heap.size ∧ ∃ v, w.heap[b]? = some (.cells #[v, .bool (!k)] T (0, 0)) := by
  cases k with
  | true =>
    obtain ⟨h1, v, h2, h3⟩ := h
    exact ⟨h1, lt_of_heap h2, v, h2⟩
  | false => exact ⟨h.1, lt_of_heap h.2, _, h.2⟩
/-- A new row of bytes: what a call tells that makes one. -/
def Made (E : TypeId) (w : World) (xs : List Int) (mk : Value → Value) (e : Ending) (w' : World) : Prop :=
  ∃ v, e = .returned (mk v) ∧ w'.ownsRow w.heap.size E 1 v xs.length (cells8 xs) ∧ Below w.heap.size w w'
end
end Go.Proofs.YtlbpeeelgpjciaaGreat.Codec

namespace Go.Proofs.YtlbpeeelgpjciaaGreat.Kit
open Go.RowKit
open _root_.Go.Proofs.YtlbpeeelgpjciaaGreat.Codec (own_below own_lower own_stays lt_of_heap frozen_of heap_set grown_set below_new)

/-- How elements are laid: n cells each. -/
structure Enc (α : Type) where
  n : Nat
  cs : α → List Value
  z : α
  pos : 0 < n
  len : ∀ x, (cs x).length = n
  one : ∀ x, ∀ u ∈ cs x, u.oneCell' = true
section
variable {α : Type} {E : Enc α}
def cells (E : Enc α) (l : List α) : List Value := l.flatMap E.cs
theorem cells_append (l m : List α) : cells E (l ++ m) = cells E l ++ cells E m := by simp [cells]
theorem cells_snoc (l : List α) (x : α) : cells E (l ++ [x]) = cells E l ++ E.cs x := by simp [cells]
theorem cells_cons (l : List α) (x : α) : cells E (x :: l) = E.cs x ++ cells E l := by simp [cells]
theorem cells_len (l : List α) : (cells E l).length = l.length * E.n := by
  induction l with
  | nil => simp [cells]
  | cons x l ih => rw [cells_cons, List.length_append, ih, E.len, List.length_cons, Nat.succ_mul, Nat.add_comm]
theorem cells_one (l : List α) : ∀ u ∈ cells E l, u.oneCell' = true := by
  intro u hu
  simp only [cells, List.mem_flatMap] at hu
  obtain ⟨s, _, hs⟩ := hu
  exact E.one s u hs
theorem cells_at : ∀ (l : List α) (j : Nat) (_ : j < l.length) (k : Nat) (u : Value), (E.cs (l.getD j E.z))[k]? = some u → (cells E l)[j * E.n + k]? = some u
  | [], j, hj, _, _, _ => by simp at hj
  | x :: l, 0, _, k, u, h => by
    have h' : (E.cs x)[k]? = some u := by simpa using h
    have hk := (List.getElem?_eq_some_iff.1 h').1
    rw [cells_cons, Nat.zero_mul, Nat.zero_add, List.getElem?_append_left hk, h']
  | x :: l, j + 1, hj, k, u, h => by
    have ih := cells_at l j (by simpa using hj) k u (by simpa [List.getD] using h)
    rw [cells_cons, List.getElem?_append_right (by rw [E.len, Nat.succ_mul]; omega), E.len, show (j + 1) * E.n + k - E.n = j * E.n + k by rw [Nat.succ_mul]; omega, ih]
theorem cells_get (l : List α) (i : Nat) (u : Value) (h : (cells E l)[i]? = some u) : i / E.n < l.length ∧ (E.cs (l.getD (i / E.n) E.z))[i % E.n]? = some u := by
  have hi := (List.getElem?_eq_some_iff.1 h).1
  rw [cells_len] at hi
  have hj : i / E.n < l.length := by rw [Nat.div_lt_iff_lt_mul E.pos]; exact hi
  refine ⟨hj, ?_⟩
  have hk : i % E.n < (E.cs (l.getD (i / E.n) E.z)).length := by rw [E.len]; exact Nat.mod_lt _ E.pos
  have h2 := cells_at (E := E) l (i / E.n) hj (i % E.n) _ (List.getElem?_eq_getElem hk)
  rw [show i / E.n * E.n + i % E.n = i by rw [Nat.mul_comm]; exact Nat.div_add_mod i E.n, h] at h2
  rw [List.getElem?_eq_getElem hk, h2]

/-- The cells of an element. -/
def At (E : Enc α) (w : World) (b o : Nat) (x : α) : Prop := ∀ k u, (E.cs x)[k]? = some u → w.cell? ⟨b, o + k, none⟩ = some u
/-- Elements that lie. -/
def Lies (E : Enc α) (w : World) (p : Option Addr) (l : List α) : Prop := l = [] ∨ ∃ b o, p = some ⟨b, o, none⟩ ∧ ∀ j, j < l.length → At E w b (o + j * E.n) (l.getD j E.z)
theorem cell_on {w w' : World} {b o : Nat} {v : Value} (h : w.cell? ⟨b, o, none⟩ = some v) (hb : Below w.heap.size w w') : w'.cell? ⟨b, o, none⟩ = some v :=
  (hb.cell (p := ⟨b, o, none⟩) (World.block_lt_of_cell? _ _ h)).trans h
theorem At.below {w w' : World} {b o : Nat} {x : α} (h : At E w b o x) (hb : Below w.heap.size w w') : At E w' b o x := fun k u hu => cell_on (h k u hu) hb
theorem Lies.below {w w' : World} {p : Option Addr} {l : List α} (h : Lies E w p l) (hb : Below w.heap.size w w') : Lies E w' p l := by
  rcases h with h | ⟨b, o, e, hc⟩
  · exact .inl h
  · exact .inr ⟨b, o, e, fun j hj => (hc j hj).below hb⟩
theorem lies_at {w : World} {p : Option Addr} {l : List α} (h : Lies E w p l) {j : Nat} (hj : j < l.length) : ∃ b o, p = some ⟨b, o, none⟩ ∧ At E w b (o + j * E.n) (l.getD j E.z) := by
  rcases h with h | ⟨b, o, e, hc⟩
  · rw [h] at hj; simp at hj
  · exact ⟨b, o, e, hc j hj⟩
/-- One element, in a block of its own. -/
theorem lies_one {w : World} {g : Nat} {x : α} {t : TypeId} {fr : Nat × Nat} (h : w.heap[g]? = some (.cells (E.cs x).toArray t fr)) : Lies E w (some ⟨g, 0, none⟩) [x] := by
  refine .inr ⟨g, 0, rfl, fun j hj => ?_⟩
  obtain rfl : j = 0 := by simpa using hj
  intro k u hu
  rw [cell_of_row w g _ _ t fr h]
  simpa using hu

/-- Elements (of type T) that a call owns. -/
def Own (E : Enc α) (T : TypeId) (B : Nat) (w : World) (v : Value) (l : List α) : Prop := w.ownsRow B T E.n v l.length (cells E l)
variable {w w' : World} {T : TypeId} {B b : Nat} {v : Value} {l : List α}
theorem Own.none (E : Enc α) (T : TypeId) (B : Nat) (w : World) : Own E T B w (.slice Option.none 0 0) [] := World.ownsRow_nil _ _ _ _
theorem Own.on (h : Own E T B w v l) (hb : Below w.heap.size w w') : Own E T B w' v l := own_below h hb
theorem Own.lower {B' : Nat} (h : Own E T B w v l) (hb : B' ≤ B) : Own E T B' w v l := own_lower h hb
theorem Own.lies (h : Own E T B w v l) : ∃ p c, v = .slice p l.length c ∧ Lies E w p l := by
  have ho := h
  rcases h.2 with ⟨rfl, h0⟩ | ⟨g, cap, cur, rfl, h1, h2, h3⟩
  · exact ⟨Option.none, 0, by rw [h0], .inl (List.eq_nil_of_length_eq_zero h0)⟩
  · refine ⟨_, cap, rfl, .inr ⟨g, 0, rfl, fun j hj k u hu => ?_⟩⟩
    have k0 := World.ownsRow.cells (g := g) ho rfl _ _ (cells_at l j hj k u hu)
    rw [Codec.add_at, ← Nat.add_assoc] at k0
    exact k0
theorem Own.set {o : Nat} {u : Value} (h : Own E T B w v l) (hb : b < B) : Own E T B (w.setCell ⟨b, o, Option.none⟩ u) v l := by
  refine ⟨h.1, ?_⟩
  rcases h.2 with h0 | ⟨g, cap, cur, rfl, h1, h2, h3⟩
  · exact .inl h0
  · exact .inr ⟨g, cap, cur, rfl, h1, (Below.heap_setCell _ _ _ _ (by simp; omega)).trans h2, h3⟩

theorem lt_heap {w : World} {g : Nat} {o : Obj} (h : w.heap[g]? = some o) : g < w.heap.size := (Array.getElem?_eq_some_iff.1 h).1
/-- What is of none of these types stays. -/
structure Kept (ts : List TypeId) (w w' : World) : Prop where
  size : w.heap.size ≤ w'.heap.size
  obj : ∀ (g : Nat) (o : Obj), w.heap[g]? = some o → (∀ cs t z, o = Obj.cells cs t z → t ∉ ts) → w'.heap[g]? = some o
theorem Kept.block {ts : List TypeId} (h : Kept ts w w') (g : Nat) (cs : Array Value) (t : TypeId) (z : Nat × Nat) (e : w.heap[g]? = some (Obj.cells cs t z)) (ht : t ∉ ts) : w'.heap[g]? = some (Obj.cells cs t z) :=
  h.obj g _ e fun cs' t' z' k => by
    simp only [Obj.cells.injEq] at k
    exact k.2.1 ▸ ht
theorem Kept.of_below {ts : List TypeId} (hb : Below w.heap.size w w') : Kept ts w w' := ⟨hb.size, fun g _ e _ => (hb.block g (lt_heap e)).trans e⟩
theorem Kept.trans {ts : List TypeId} {w2 : World} (h : Kept ts w w') (k : Kept ts w' w2) : Kept ts w w2 := ⟨Nat.le_trans h.size k.size, fun g o e ht => k.obj g o (h.obj g o e ht) ht⟩
/-- These types' blocks stay. -/
structure Off (ts : List TypeId) (w w' : World) : Prop where
  size : w.heap.size ≤ w'.heap.size
  block : ∀ (g : Nat) (cs : Array Value) (t : TypeId) (z : Nat × Nat), w.heap[g]? = some (Obj.cells cs t z) → t ∈ ts → w'.heap[g]? = some (Obj.cells cs t z)
theorem Off.of_below {ts : List TypeId} (hb : Below w.heap.size w w') : Off ts w w' := ⟨hb.size, fun g _ _ _ e _ => (hb.block g (lt_heap e)).trans e⟩
theorem Off.trans {ts : List TypeId} {w2 : World} (h : Off ts w w') (k : Off ts w' w2) : Off ts w w2 := ⟨Nat.le_trans h.size k.size, fun g cs t z e ht => k.block g cs t z (h.block g cs t z e ht) ht⟩
theorem Own.off {ts : List TypeId} (h : Own E T B w v l) (ho : Off ts w w') (ht : T ∈ ts) : Own E T B w' v l := by
  refine ⟨h.1, ?_⟩
  rcases h.2 with h0 | ⟨g, cap, cur, rfl, h1, h2, h3⟩
  · exact .inl h0
  · exact .inr ⟨g, cap, cur, rfl, h1, ho.block g _ _ _ h2 ht, h3⟩
theorem Own.kept {ts : List TypeId} (h : Own E T B w v l) (ho : Kept ts w w') (ht : T ∉ ts) : Own E T B w' v l := by
  refine ⟨h.1, ?_⟩
  rcases h.2 with h0 | ⟨g, cap, cur, rfl, h1, h2, h3⟩
  · exact .inl h0
  · exact .inr ⟨g, cap, cur, rfl, h1, ho.block g _ _ _ h2 ht, h3⟩

/-- What a program is to say of an element's type, and of its slices'. -/
structure Laid (P : Program) (E : Enc α) (T ST : TypeId) : Prop where
  sl : P.underlying ST = some (.slice T)
  info : ∃ zv byt, (P.info? T).map (fun i => (i.zero, i.size, i.bytes)) = some (some zv, E.n, byt) ∧ zv.cells.size = E.n ∧ byt ≤ 1000
/-- One element, just laid, is appended. -/
theorem push {P : Program} {ST : TypeId} (L : Laid P E T ST) {u : World} {ops : Array Oper} {rest : List Oper} {o : Oper} {a : Act} {Q : Exit → Act → World → Prop} (hgd : o.guard = Option.none) (s y : Operand)
    (ho : o.op = .call { callee := .builtin .append, args := #[s, y], argTypes := #[ST, ST] })
    (w0 wr : World) (v : Value) (hs : a.eval s = v) (l : List α) (n : Nat) (hn : l.length = n) (hown : Own E T w0.heap.size wr v l) (hbw : Below w0.heap.size w0 wr) (hu : Below wr.heap.size wr u)
    (g : Nat) (x : α) {tg : TypeId} {fr : Nat × Nat} (hy : a.eval y = .slice (some ⟨g, 0, Option.none⟩) 1 1) (hg : u.heap[g]? = some (.cells (E.cs x).toArray tg fr)) (hlen : n ≤ 100000)
    (h : ∀ p c w', Hid (Own E T w0.heap.size w' (.slice p (n + 1) c) (l ++ [x])) → Below w0.heap.size w0 w' → wpList P ops Q rest (a.put o.dst (.slice p (n + 1) c)) w') : wpList P ops Q (o :: rest) a u := by
  subst hn
  obtain ⟨zv, byt, hi0, hzc, hby⟩ := L.info
  obtain ⟨i0, hi, hz0, hz1, hz2⟩ := info_parts hi0
  have hmul : (l.length + 1) * byt ≤ 100001 * 1000 := Nat.mul_le_mul (by omega) hby
  refine wpList_append_own _ hgd s y ST ho w0.heap.size T i0 zv E.n byt L.sl hi hz0 hz1 hz2 hzc E.pos v l.length (cells E l) hs (own_below hown hu) ⟨g, 0, Option.none⟩ 1 1 (E.cs x) hy (by rw [E.len, Nat.one_mul]) (fun j z hz => World.news_of_block hg j z (by simpa using hz)) (E.one x) (by unfold maxLen; omega) (by omega) (Nat.le_trans hbw.size hu.size) ?_
  intro v' w' ho2 hg2 _
  have hb2 := (hbw.trans (hu.mono hbw.size)).grown hg2 (Nat.le_trans hbw.size hu.size) (fun k hk => (World.ownsRow.lt hown k hk).1)
  have R : Own E T w0.heap.size w' v' (l ++ [x]) := by
    unfold Own
    rw [cells_snoc, List.length_append]
    exact ho2
  obtain ⟨p, c, rfl⟩ : ∃ p c, v' = .slice p (l.length + 1) c := by
    rcases ho2.2 with ⟨_, h0⟩ | ⟨g, cap, cur, rfl, _⟩
    · omega
    · exact ⟨_, cap, rfl⟩
  exact h p c w' R hb2
/-- All elements of a slice that lies are appended. -/
theorem pushes {P : Program} {ST : TypeId} (L : Laid P E T ST) {u : World} {ops : Array Oper} {rest : List Oper} {o : Oper} {a : Act} {Q : Exit → Act → World → Prop} (hgd : o.guard = Option.none) (s y : Operand)
    (ho : o.op = .call { callee := .builtin .append, args := #[s, y], argTypes := #[ST, ST] })
    (w0 wr : World) (v : Value) (hs : a.eval s = v) (l : List α) (n : Nat) (hn : l.length = n) (hown : Own E T w0.heap.size wr v l) (hbw : Below w0.heap.size w0 wr) (hu : Below wr.heap.size wr u)
    (m : List α) (k c0 : Nat) (p0 : Option Addr) (hm : m.length = k) (hy : a.eval y = .slice p0 k c0) (hl : Lies E u p0 m) (hnil : p0 = Option.none → c0 = 0) (hlen : n + k ≤ 100000)
    (h : ∀ p c w', Hid (Own E T w0.heap.size w' (.slice p (n + k) c) (l ++ m)) → Below w0.heap.size w0 w' → wpList P ops Q rest (a.put o.dst (.slice p (n + k) c)) w') : wpList P ops Q (o :: rest) a u := by
  subst hn hm
  obtain ⟨zv, byt, hi0, hzc, hby⟩ := L.info
  obtain ⟨i0, hi, hz0, hz1, hz2⟩ := info_parts hi0
  have hmul : (l.length + m.length) * byt ≤ 100000 * 1000 := Nat.mul_le_mul (by omega) hby
  cases p0 with
  | none =>
    have hm0 : m = [] := by
      rcases hl with hl | ⟨b, o, e, -⟩
      · exact hl
      · cases e
    subst hm0
    obtain rfl := hnil rfl
    have ho1 : Own E T w0.heap.size u v l := own_below hown hu
    refine wpList_append_own_none hgd s y ST ho w0.heap.size T i0 E.n L.sl hi v l.length (cells E l) hs ho1 hy ?_
    obtain ⟨p, c, rfl, -⟩ := ho1.lies
    exact h p c u (by rw [List.append_nil]; exact ho1) (hbw.trans (hu.mono hbw.size))
  | some ad =>
    refine wpList_append_own _ hgd s y ST ho w0.heap.size T i0 zv E.n byt L.sl hi hz0 hz1 hz2 hzc E.pos v l.length (cells E l) hs (own_below hown hu) ad m.length c0 (cells E m) hy (cells_len m) ?_ (cells_one m) (by unfold maxLen; omega) (by omega) (Nat.le_trans hbw.size hu.size) ?_
    · intro j z hz
      rcases hl with hl | ⟨b, o, e, hc⟩
      · subst hl
        simp [cells] at hz
      · simp only [Option.some.injEq] at e
        subst e
        obtain ⟨h1, h2⟩ := cells_get m j z hz
        have h3 := hc _ h1 _ _ h2
        rw [Codec.add_at]
        rw [Nat.add_assoc, show j / E.n * E.n + j % E.n = j by rw [Nat.mul_comm]; exact Nat.div_add_mod j E.n] at h3
        exact h3
    · intro v' w' ho2 hg2 _
      have hb2 := (hbw.trans (hu.mono hbw.size)).grown hg2 (Nat.le_trans hbw.size hu.size) (fun k hk => (World.ownsRow.lt hown k hk).1)
      have R : Own E T w0.heap.size w' v' (l ++ m) := by
        unfold Own
        rw [cells_append, List.length_append]
        exact ho2
      obtain ⟨p, c, e, -⟩ := R.lies
      rw [List.length_append] at e
      subst e
      exact h p c w' R hb2
/-- A new, empty row with room. -/
theorem own_made (u : World) (B : Nat) (hB : B ≤ u.heap.size) : Own E T B (u.alloc (.cells #[] T)) (.slice (some ⟨u.heap.size, 0, Option.none⟩) 0 0) [] :=
  World.ownsRow_made u #[] 0 hB (Nat.zero_le _) (by simp)
end
/-- Ints. -/
def ints : Enc Int := ⟨1, fun x => [.int .i64 x], 0, by decide, fun _ => rfl, fun x u hu => by simp at hu; subst hu; rfl⟩
theorem ints_lies {w : World} {p : Option Addr} {l : List Int} : Lies ints w p l ↔ Codec.Ints w p l := by
  constructor
  · rintro (h | ⟨b, o, e, hc⟩)
    · exact .inl h
    · exact .inr ⟨b, o, e, fun j hj => by have := hc j hj 0 _ rfl; simpa [ints] using this⟩
  · rintro (h | ⟨b, o, e, hc⟩)
    · exact .inl h
    · refine .inr ⟨b, o, e, fun j hj k u hu => ?_⟩
      match k, hu with
      | 0, hu =>
        simp only [ints, List.getElem?_cons_zero, Option.some.injEq] at hu
        subst hu
        have := hc j hj
        simpa [ints] using this
theorem box5 {w : World} {b : Nat} {v0 v1 v2 v3 v4 : Value} {T : TypeId} (h : w.heap[b]? = some (.cells #[v0, v1, v2, v3, v4] T (0, 0))) : w.cell? ⟨b, 0, none⟩ = some v0 ∧ w.cell? ⟨b, 1, none⟩ = some v1 ∧ w.cell? ⟨b, 2, none⟩ = some v2 ∧ w.cell? ⟨b, 3, none⟩ = some v3 ∧ w.cell? ⟨b, 4, none⟩ = some v4 :=
  ⟨by rw [cell_of_row w b 0 _ _ (0, 0) h]; rfl, by rw [cell_of_row w b 1 _ _ (0, 0) h]; rfl, by rw [cell_of_row w b 2 _ _ (0, 0) h]; rfl, by rw [cell_of_row w b 3 _ _ (0, 0) h]; rfl, by rw [cell_of_row w b 4 _ _ (0, 0) h]; rfl⟩
theorem below_drewN (w : World) (n : Nat) : Below w.heap.size w (w.drewN n) := ⟨rfl, rfl, rfl, Nat.le_refl _, fun _ _ => rfl⟩
theorem take_snoc {α : Type} {l : List α} {j : Nat} (z : α) (h : j < l.length) : l.take (j + 1) = l.take j ++ [l.getD j z] := by
  rw [List.take_add_one]
  simp [List.getD, h]
end Go.Proofs.YtlbpeeelgpjciaaGreat.Kit
