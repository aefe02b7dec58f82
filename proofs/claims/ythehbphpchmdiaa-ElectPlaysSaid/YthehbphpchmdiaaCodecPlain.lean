/-
  Numbers as bytes, plain: the eight bytes of a number from 0 to 2^64 less 1, the highest first, and the number of bytes; each is the other's answer. No program; no conditions beyond those that each names.
-/
namespace Go.Proofs.Ythehbphpchmdiaa.Codec

/-- The byte at place i of eight, the highest at 0. -/
def byteAt (x : Int) (i : Nat) : Int := x / 256 ^ (7 - i) % 256
/-- The first k bytes of a number. -/
def some8 (x : Int) (k : Nat) : List Int := (List.range k).map (byteAt x)
def eight (x : Int) : List Int := some8 x 8
/-- The number of bytes. -/
def num (bs : List Int) : Int := bs.foldl (fun a b => a * 256 + b) 0
def IsBytes (bs : List Int) : Prop := ∀ x ∈ bs, 0 ≤ x ∧ x < 256

theorem len_some8 (x : Int) (k : Nat) : (some8 x k).length = k := by simp [some8]
theorem len_eight (x : Int) : (eight x).length = 8 := len_some8 x 8
theorem some8_zero (x : Int) : some8 x 0 = [] := rfl
theorem some8_succ (x : Int) (k : Nat) : some8 x (k + 1) = some8 x k ++ [byteAt x k] := by simp [some8, List.range_succ]
theorem byteAt_ok (x : Int) (i : Nat) : 0 ≤ byteAt x i ∧ byteAt x i < 256 := by
  unfold byteAt
  exact ⟨Int.emod_nonneg _ (by omega), Int.emod_lt_of_pos _ (by omega)⟩
theorem some8_ok (x : Int) (k : Nat) : IsBytes (some8 x k) := by
  intro y hy
  simp only [some8, List.mem_map] at hy
  obtain ⟨i, _, rfl⟩ := hy
  exact byteAt_ok x i
theorem eight_ok (x : Int) : IsBytes (eight x) := some8_ok x 8

theorem num_nil : num [] = 0 := rfl
theorem num_snoc (l : List Int) (b : Int) : num (l ++ [b]) = num l * 256 + b := by simp [num]
theorem pow_pos256 (n : Nat) : (0 : Int) < 256 ^ n := Int.pow_pos (by omega)

theorem num_some8 (x : Int) (h0 : 0 ≤ x) (h1 : x < 18446744073709551616) : ∀ k, k ≤ 8 → num (some8 x k) = x / 256 ^ (8 - k)
  | 0, _ => by
    rw [some8_zero, num_nil]
    have e : (256 : Int) ^ (8 - 0) = 18446744073709551616 := by decide
    rw [e]
    omega
  | k + 1, hk => by
    rw [some8_succ, num_snoc, num_some8 x h0 h1 k (by omega)]
    unfold byteAt
    have e : 8 - k = (7 - k) + 1 := by omega
    have e2 : 8 - (k + 1) = 7 - k := by omega
    rw [e, e2, Int.pow_succ, ← Int.ediv_ediv_of_nonneg (Int.le_of_lt (pow_pos256 _))]
    generalize x / 256 ^ (7 - k) = q
    omega
theorem num_eight (x : Int) (h0 : 0 ≤ x) (h1 : x < 18446744073709551616) : num (eight x) = x := by
  have := num_some8 x h0 h1 8 (Nat.le_refl _)
  simpa [eight] using this

theorem num_bound : ∀ (n : Nat) (l : List Int), l.length = n → IsBytes l → 0 ≤ num l ∧ num l < 256 ^ n
  | 0, l, hl, _ => by
    obtain rfl := List.eq_nil_of_length_eq_zero hl
    simp [num]
  | n + 1, l, hl, hb => by
    have hne : l ≠ [] := by intro h; rw [h] at hl; simp at hl
    have e := List.dropLast_concat_getLast hne
    have h1 := num_bound n l.dropLast (by simp [hl]) (fun x hx => hb x (List.dropLast_subset l hx))
    have h2 := hb _ (List.getLast_mem hne)
    rw [← e, num_snoc, Int.pow_succ]
    omega

/-- The first k of at least eight bytes. -/
theorem num_take (bs : List Int) (hb : IsBytes bs) (k : Nat) (hk : k ≤ bs.length) : 0 ≤ num (bs.take k) ∧ num (bs.take k) < 256 ^ k :=
  num_bound k (bs.take k) (by simp; omega) (fun x hx => hb x (List.mem_of_mem_take hx))
theorem take_snoc (bs : List Int) (k : Nat) (hk : k < bs.length) : bs.take (k + 1) = bs.take k ++ [bs.getD k 0] := by
  rw [List.take_succ_eq_append_getElem hk]
  simp [List.getD, hk]
theorem num_take_succ (bs : List Int) (k : Nat) (hk : k < bs.length) : num (bs.take (k + 1)) = num (bs.take k) * 256 + bs.getD k 0 := by
  rw [take_snoc bs k hk, num_snoc]
theorem bytes_at (bs : List Int) (hb : IsBytes bs) (k : Nat) (hk : k < bs.length) : 0 ≤ bs.getD k 0 ∧ bs.getD k 0 < 256 := by
  have : bs.getD k 0 ∈ bs := by simp [List.getD, hk]
  exact hb _ this
theorem pow_below (k : Nat) (hk : k < 8) : (256 : Int) ^ k ≤ 72057594037927936 := by
  have : ∀ k : Fin 8, (256 : Int) ^ k.val ≤ 72057594037927936 := by decide
  exact this ⟨k, hk⟩
theorem IsBytes.append {a b : List Int} (ha : IsBytes a) (hb : IsBytes b) : IsBytes (a ++ b) := by
  intro x hx
  rcases List.mem_append.1 hx with h | h
  · exact ha x h
  · exact hb x h
theorem IsBytes.drop {a : List Int} (ha : IsBytes a) (k : Nat) : IsBytes (a.drop k) := fun x hx => ha x (List.mem_of_mem_drop hx)
theorem IsBytes.take {a : List Int} (ha : IsBytes a) (k : Nat) : IsBytes (a.take k) := fun x hx => ha x (List.mem_of_mem_take hx)

/-- What the program's shift and narrowing make of a number. -/
theorem byteAt_of (x : Int) (k n : Nat) (hn : n = 8 * (7 - k)) : x / 2 ^ n % 256 = byteAt x k := by
  unfold byteAt
  subst hn
  rw [show (256 : Int) = 2 ^ 8 by decide, ← Int.pow_mul]

/-! What a reader does: what is left, and whether it failed; the program's (p..), and the document's (r..). -/
abbrev St := List Int × Bool
def rBits (s : St) : Int × St := if s.2 = true ∨ s.1.length < 8 then (0, s.1, true) else (num (s.1.take 8), s.1.drop 8, false)
def pBits (s : St) : Int × St := if s.1.length < 8 then (0, [], true) else (num (s.1.take 8), s.1.drop 8, s.2)
def over (m x : Int) : Bool := decide (4611686018427387904 < x ∨ m < x)
def rUpto (m : Int) (s : St) : Int × St := if (rBits s).2.2 = true ∨ over m (rBits s).1 = true then (0, (rBits s).2.1, true) else rBits s
def pUpto (m : Int) (s : St) : Int × St := if over m (pBits s).1 = true then (0, [], true) else pBits s
def tell (s : St) : Int := if s.2 = true ∨ s.1 ≠ [] then 2 else 0
/-- The program's reader stands as the document's. -/
def Alike (s t : St) : Prop := s.2 = t.2 ∧ (s.2 = false → s.1 = t.1) ∧ (s.2 = true → s.1 = [])
theorem alike_start (l : List Int) : Alike (l, false) (l, false) := ⟨rfl, fun _ => rfl, fun h => by cases h⟩
theorem alike_failed (l : List Int) : Alike ([], true) (l, true) := ⟨rfl, fun h => (by cases h), fun _ => rfl⟩
theorem alike_bits {s t : St} (h : Alike s t) : (pBits s).1 = (rBits t).1 ∧ Alike (pBits s).2 (rBits t).2 := by
  obtain ⟨l, f⟩ := s
  obtain ⟨l', f'⟩ := t
  obtain ⟨h1, h2, h3⟩ := h
  simp only at h1 h2 h3
  subst h1
  cases f with
  | true =>
    obtain rfl := h3 rfl
    simp [pBits, rBits, alike_failed]
  | false =>
    obtain rfl := h2 rfl
    by_cases hl : l.length < 8
    · simp [pBits, rBits, hl, alike_failed]
    · simp [pBits, rBits, hl, alike_start]
theorem alike_upto {s t : St} (m : Int) (h : Alike s t) : (pUpto m s).1 = (rUpto m t).1 ∧ Alike (pUpto m s).2 (rUpto m t).2 := by
  obtain ⟨hx, hs⟩ := alike_bits h
  unfold pUpto rUpto
  rw [hx]
  by_cases ho : over m (rBits t).1 = true
  · simp [ho, alike_failed]
  · have ho' : over m (rBits t).1 = false := Bool.eq_false_iff.2 ho
    rw [if_neg ho]
    by_cases hf : (rBits t).2.2 = true
    · have hp : (pBits s).2.2 = true := hs.1.trans hf
      have hl := hs.2.2 hp
      have hz : (pBits s).1 = 0 := by
        unfold pBits at hp ⊢
        split
        · rfl
        · rename_i hlen
          rw [if_neg hlen] at hp
          have := h.2.2 hp
          rw [this] at hlen
          simp at hlen
      rw [if_pos (.inl hf)]
      refine ⟨hz, ?_⟩
      have e : (pBits s).2 = ([], true) := Prod.ext hl hp
      rw [e]
      exact alike_failed _
    · rw [if_neg (by simp [hf, ho'])]
      exact ⟨hx, hs⟩
theorem alike_tell {s t : St} (h : Alike s t) : tell s = tell t := by
  obtain ⟨l, f⟩ := s
  obtain ⟨l', f'⟩ := t
  obtain ⟨h1, h2, h3⟩ := h
  simp only at h1 h2 h3
  subst h1
  cases f with
  | true => simp [tell]
  | false => obtain rfl := h2 rfl; rfl
theorem pBits_ok {s : St} (h : IsBytes s.1) : IsBytes (pBits s).2.1 := by
  unfold pBits
  split
  · intro x hx; cases hx
  · exact h.drop 8
theorem rBits_ok {s : St} (h : IsBytes s.1) : IsBytes (rBits s).2.1 := by
  unfold rBits
  split
  · exact h
  · exact h.drop 8
theorem pUpto_ok {s : St} (m : Int) (h : IsBytes s.1) : IsBytes (pUpto m s).2.1 := by
  unfold pUpto
  split
  · intro x hx; cases hx
  · exact pBits_ok h
theorem rUpto_ok {s : St} (m : Int) (h : IsBytes s.1) : IsBytes (rUpto m s).2.1 := by
  unfold rUpto
  split
  · exact rBits_ok h
  · exact rBits_ok h

theorem pBits_eight (x : Int) (l : List Int) (f : Bool) (h0 : 0 ≤ x) (h1 : x < 18446744073709551616) : pBits (eight x ++ l, f) = (x, l, f) := by
  have hl : ¬ (eight x ++ l).length < 8 := by rw [List.length_append, len_eight]; omega
  unfold pBits
  rw [if_neg hl]
  simp only
  rw [List.take_left' (len_eight x), List.drop_left' (len_eight x), num_eight x h0 h1]
theorem pUpto_eight (m x : Int) (l : List Int) (f : Bool) (h0 : 0 ≤ x) (h1 : x ≤ 4611686018427387904) (h2 : x ≤ m) : pUpto m (eight x ++ l, f) = (x, l, f) := by
  unfold pUpto
  rw [pBits_eight x l f h0 (by omega)]
  have : over m x = false := by simp [over]; omega
  simp [this]

/-- The bytes of numbers. -/
def puts (l : List Int) : List Int := l.flatMap eight
theorem puts_nil : puts [] = [] := rfl
theorem puts_snoc (l : List Int) (x : Int) : puts (l ++ [x]) = puts l ++ eight x := by simp [puts]
theorem len_puts : ∀ l : List Int, (puts l).length = 8 * l.length
  | [] => rfl
  | x :: l => by
    have := len_puts l
    simp [puts, len_eight] at this ⊢
    omega
theorem puts_ok : ∀ l : List Int, IsBytes (puts l)
  | [] => by intro x hx; cases hx
  | x :: l => by
    have := (eight_ok x).append (puts_ok l)
    simpa [puts] using this
theorem puts_drop : ∀ (l : List Int) (k : Nat), k ≤ l.length → (puts l).drop (8 * k) = puts (l.drop k)
  | l, 0, _ => by simp
  | [], k + 1, h => by simp at h
  | x :: l, k + 1, h => by
    have := puts_drop l k (by simpa using h)
    have e : puts (x :: l) = eight x ++ puts l := by simp [puts]
    rw [e, show 8 * (k + 1) = 8 + 8 * k by omega, ← List.drop_drop, List.drop_left' (len_eight x), this]
    rfl
/-- May each be a number? -/
def good (x : Int) : Bool := decide (0 ≤ x ∧ x ≤ 4611686018427387904)
def goods (l : List Int) : Bool := l.all good
theorem puts_step (l : List Int) (k : Nat) (hk : k < l.length) : puts (l.drop k) = eight (l.getD k 0) ++ puts (l.drop (k + 1)) := by
  have e : l.getD k 0 = l[k] := by simp [List.getD, hk]
  rw [e, List.drop_eq_getElem_cons hk]
  unfold puts
  rw [List.flatMap_cons]
theorem good_at (l : List Int) (h : goods l = true) (k : Nat) (hk : k < l.length) : 0 ≤ l.getD k 0 ∧ l.getD k 0 ≤ 4611686018427387904 := by
  have := List.all_eq_true.1 h (l.getD k 0) (by simp [List.getD, hk])
  simpa [good] using this
/-- A number is read, of what was written, whatever lies behind. -/
theorem back_num (l : List Int) (t : List Int) (f : Bool) (h : goods l = true) (k : Nat) (hk : k < l.length) : pUpto 4611686018427387904 (puts (l.drop k) ++ t, f) = (l.getD k 0, puts (l.drop (k + 1)) ++ t, f) := by
  obtain ⟨h0, h1⟩ := good_at l h k hk
  rw [puts_step l k hk, List.append_assoc]
  exact pUpto_eight _ _ _ _ h0 h1 h1
theorem back_none (t : List Int) (f : Bool) (h : t.length < 8) : pBits (t, f) = (0, [], true) := by unfold pBits; rw [if_pos h]
end Go.Proofs.Ythehbphpchmdiaa.Codec
