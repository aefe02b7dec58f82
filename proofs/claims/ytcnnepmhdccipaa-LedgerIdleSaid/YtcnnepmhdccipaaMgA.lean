/-
  Frames, plain: leases, rows, tables, tokens and frames as data; which of them may be, and which are the same, by the document's own order of asking. No program; no conditions.
  Plain facts on the numbers of the layer sat: fit, sums, products, differences and quotients that do not run over are in order. No condition.
  Numbers as bytes, plain: the eight bytes of a number from 0 to 2^64 less 1, the highest first, and the number of bytes; each is the other's answer. No program; no conditions beyond those that each names.
  Tables, plain: a key's row, its total, minted; a table with another row; what is out. No program; no conditions beyond those that each names.
  Plain facts on keys and ballots of the layer conf: what is from one number to another, whose a ballot is, and the least ballot of a node above a number. No condition.
  Sets of nodes as plain functions on whole numbers (only, has, put, cut, all, count, nodes, next, maj), and what they have to do with one another; no program is named. Conditions: a set is from 0 to 2^64 less 1.
  Numbers in order, and the m-th greatest, plain. No program.
-/
import Derived.WalkKit
namespace Go.Proofs.Ytcnnepmhdccipaa.Frame

structure Rw where
  key : Int
  avail : Int
  mark : Int
  out : List (Int × Int)
structure Tb where
  start : Int
  rows : List Rw
structure Tk where
  gen : Int
  hop : Int
  stamps : List Int
  table : Tb
structure Fr where
  kind : Int
  src : Int
  dst : Int
  gen : Int
  hop : Int
  bits : Int
  token : Tk
instance : Inhabited Rw := ⟨⟨0, 0, 0, []⟩⟩
def noRow : Rw := ⟨0, 0, 0, []⟩

/-- Does it hold of all below n? -/
def allTo (f : Nat → Bool) (n : Nat) : Bool := (List.range n).all f
theorem allTo_true {f : Nat → Bool} {n : Nat} (h : ∀ j, j < n → f j = true) : allTo f n = true := by
  rw [allTo, List.all_eq_true]
  intro j hj
  exact h j (List.mem_range.1 hj)
theorem allTo_false {f : Nat → Bool} {n k : Nat} (hk : k < n) (h : f k = false) : allTo f n = false := by
  rw [allTo, List.all_eq_false]
  exact ⟨k, List.mem_range.2 hk, by rw [h]; simp⟩
theorem allTo_succ (f : Nat → Bool) (n : Nat) : allTo f (n + 1) = (allTo f n && f n) := by
  simp [allTo, List.range_succ]

def isIn (x lo hi : Int) : Bool := decide (lo ≤ x ∧ x ≤ hi)
theorem isIn_yes {x lo hi : Int} (h : isIn x lo hi = true) : lo ≤ x ∧ x ≤ hi := by simpa [isIn] using h
theorem isIn_no {x lo hi : Int} (h : isIn x lo hi = false) : x < lo ∨ (lo ≤ x ∧ hi < x) := by
  simp [isIn] at h
  omega
def isKey (k : Int) : Bool := decide (0 ≤ k ∧ k < 524288)

def leaseAt (l : List (Int × Int)) (i : Nat) : Bool := isIn (l.getD i (0, 0)).1 0 63 && isIn (l.getD i (0, 0)).2 1 2147483648 && (i == 0 || decide ((l.getD (i - 1) (0, 0)).1 < (l.getD i (0, 0)).1))
def rowOk (r : Rw) (start : Int) : Bool := isKey r.key && isIn r.avail 0 2147483648 && isIn r.mark start 4611686018427387904 && decide (r.out.length ≤ 64) && allTo (leaseAt r.out) r.out.length
def rowAt (l : List Rw) (start : Int) (i : Nat) : Bool := rowOk (l.getD i noRow) start && (i == 0 || decide ((l.getD (i - 1) noRow).key < (l.getD i noRow).key))
def tableOk (t : Tb) : Bool := isIn t.start 0 4611686018427387904 && decide (t.rows.length ≤ 16) && allTo (rowAt t.rows t.start) t.rows.length
def stampsOk (l : List Int) (n : Nat) : Bool := allTo (fun i => isIn (l.getD i 0) (-1) 4611686018427387903) n
def tokenHead (t : Tk) : Bool := isIn t.gen 1 1099511627776 && isIn t.hop 0 1099511627776 && isIn t.stamps.length 1 64
def tokenOk (t : Tk) : Bool := tokenHead t && stampsOk t.stamps t.stamps.length && tableOk t.table
def tokenNone (t : Tk) : Bool := t.gen == 0 && t.hop == 0 && t.stamps.length == 0 && t.table.start == 0 && t.table.rows.length == 0
def frameOk (f : Fr) : Bool :=
  isIn f.src 0 63 && isIn f.dst 0 63 &&
    (if f.kind = 0 then tokenOk f.token && f.gen == 0 && f.hop == 0 && f.bits == 0
     else if f.kind = 1 then tokenNone f.token && isIn f.gen 1 1099511627776 && isIn f.hop 0 1099511627776 && f.bits == 0
     else if f.kind = 2 then tokenNone f.token && isIn f.gen 1 1099511627776 && f.hop == 0
     else if f.kind = 3 then tokenNone f.token && f.gen == 0 && f.hop == 0 && f.bits == 0
     else false)

def sameInts (a b : List Int) : Bool := a.length == b.length && allTo (fun i => a.getD i 0 == b.getD i 0) a.length
def samePair (a b : Int × Int) : Bool := a.1 == b.1 && a.2 == b.2
def sameLeases (a b : List (Int × Int)) : Bool := allTo (fun i => samePair (a.getD i (0, 0)) (b.getD i (0, 0))) a.length
def sameRow (a b : Rw) : Bool := a.key == b.key && a.avail == b.avail && a.mark == b.mark && a.out.length == b.out.length && sameLeases a.out b.out
def sameTable (a b : Tb) : Bool := a.start == b.start && a.rows.length == b.rows.length && allTo (fun i => sameRow (a.rows.getD i noRow) (b.rows.getD i noRow)) a.rows.length
def sameToken (a b : Tk) : Bool := a.gen == b.gen && a.hop == b.hop && sameInts a.stamps b.stamps && sameTable a.table b.table
def sameFrame (a b : Fr) : Bool := a.kind == b.kind && a.src == b.src && a.dst == b.dst && a.gen == b.gen && a.hop == b.hop && a.bits == b.bits && sameToken a.token b.token

/-! The numbers of a token, in their order. -/
def leaseNums (l : List (Int × Int)) : List Int := l.flatMap fun x => [x.1, x.2]
def rowNums (r : Rw) : List Int := [r.key, r.avail, r.mark, (r.out.length : Int)] ++ leaseNums r.out
def headNums (t : Tk) : List Int := [t.gen, t.hop, (t.stamps.length : Int)]
def tokenNums (t : Tk) : List Int := headNums t ++ t.stamps.map (· + 1) ++ [t.table.start, (t.table.rows.length : Int)] ++ t.table.rows.flatMap rowNums
theorem len_leaseNums : ∀ l : List (Int × Int), (leaseNums l).length = 2 * l.length
  | [] => rfl
  | x :: l => by
    have := len_leaseNums l
    simp [leaseNums] at this ⊢
    omega
theorem leaseNums_take (l : List (Int × Int)) (j : Nat) (h : j < l.length) : leaseNums (l.take (j + 1)) = leaseNums (l.take j) ++ [(l.getD j (0, 0)).1, (l.getD j (0, 0)).2] := by
  have e : l.getD j (0, 0) = l[j] := by simp [List.getD, h]
  rw [e, List.take_succ_eq_append_getElem h]
  simp only [leaseNums, List.flatMap_append, List.flatMap_cons, List.flatMap_nil, List.append_nil]
theorem rows_take (l : List Rw) (j : Nat) (h : j < l.length) : (l.take (j + 1)).flatMap rowNums = (l.take j).flatMap rowNums ++ rowNums (l.getD j noRow) := by
  have e : l.getD j noRow = l[j] := by simp [List.getD, h]
  rw [e, List.take_succ_eq_append_getElem h]
  simp only [List.flatMap_append, List.flatMap_cons, List.flatMap_nil, List.append_nil]
theorem stamps_take (l : List Int) (j : Nat) (h : j < l.length) : (l.take (j + 1)).map (· + 1) = (l.take j).map (· + 1) ++ [l.getD j 0 + 1] := by
  have e : l.getD j 0 = l[j] := by simp [List.getD, h]
  rw [e, List.take_succ_eq_append_getElem h]
  simp only [List.map_append, List.map_cons, List.map_nil]
theorem len_rows_flat (l : List Rw) (hl : ∀ r ∈ l, r.out.length ≤ 64) : (l.flatMap rowNums).length ≤ 132 * l.length := by
  induction l with
  | nil => simp
  | cons r l ih =>
    have h1 := ih (fun x hx => hl x (by simp [hx]))
    have h2 := hl r (by simp)
    have h3 := len_leaseNums r.out
    simp [rowNums] at h1 h3 ⊢
    omega
end Go.Proofs.Ytcnnepmhdccipaa.Frame

namespace Go.Proofs.Ytcnnepmhdccipaa.Sat

/-- The end of time. -/
def top : Int := 4611686018427387904
def clamp (x lo hi : Int) : Int := if x < lo ∨ hi < lo then lo else if hi < x then hi else x
def fit (x : Int) : Int := if x < 0 then 0 else if top < x then top else x
def sum : List Int → Int
  | [] => 0
  | x :: r => fit x + sum r
def add (l : List Int) : Int := if top < sum l then top else sum l
def sub (a b : Int) : Int := fit (fit a - fit b)
def mul (a b : Int) : Int := if top < fit a * fit b then top else fit a * fit b
def ceil (a b : Int) : Int := if fit b = 0 then top else (fit a + fit b - 1) / fit b

theorem top_eq : top = 4611686018427387904 := rfl
theorem clamp_fit (x : Int) : clamp x 0 4611686018427387904 = fit x := by
  unfold clamp fit top
  by_cases h : x < 0
  · rw [if_pos (Or.inl h), if_pos h]
  · rw [if_neg (by omega), if_neg h]
theorem fit_lo (x : Int) : 0 ≤ fit x := by unfold fit top; split <;> (try split) <;> omega
theorem fit_hi (x : Int) : fit x ≤ 4611686018427387904 := by unfold fit top; split <;> (try split) <;> omega
theorem fit_self {x : Int} (h0 : 0 ≤ x) (h1 : x ≤ 4611686018427387904) : fit x = x := by
  unfold fit top; rw [if_neg (by omega), if_neg (by omega)]
theorem fit_fit (x : Int) : fit (fit x) = fit x := fit_self (fit_lo x) (fit_hi x)
theorem sum_lo (l : List Int) : 0 ≤ sum l := by
  induction l with
  | nil => exact Int.le_refl _
  | cons x r ih => have := fit_lo x; simp only [sum]; omega
theorem sum_append (a b : List Int) : sum (a ++ b) = sum a + sum b := by
  induction a with
  | nil => simp [sum]
  | cons x r ih => simp only [List.cons_append, sum, ih]; omega
theorem sum_two (a b : Int) : sum [a, b] = fit a + fit b := by simp [sum]
theorem add_lo (l : List Int) : 0 ≤ add l := by have := sum_lo l; unfold add top; split <;> omega
theorem add_hi (l : List Int) : add l ≤ 4611686018427387904 := by unfold add top; split <;> omega
theorem add_comm (a b : Int) : add [a, b] = add [b, a] := by
  unfold add; rw [sum_two, sum_two, Int.add_comm]
theorem mul_lo (a b : Int) : 0 ≤ mul a b := by
  have := Int.mul_nonneg (fit_lo a) (fit_lo b)
  unfold mul top; split <;> omega
theorem mul_hi (a b : Int) : mul a b ≤ 4611686018427387904 := by unfold mul top; split <;> omega
theorem mul_comm (a b : Int) : mul a b = mul b a := by unfold mul; rw [Int.mul_comm]
theorem fit_add (l : List Int) : fit (add l) = add l := fit_self (add_lo l) (add_hi l)
theorem sub_lo (a b : Int) : 0 ≤ sub a b := fit_lo _
theorem sub_hi (a b : Int) : sub a b ≤ 4611686018427387904 := fit_hi _
theorem ceil_lo (a b : Int) : 0 ≤ ceil a b := by
  have ha := fit_lo a; have hb := fit_lo b
  unfold ceil
  by_cases h : fit b = 0
  · rw [if_pos h]; decide
  · rw [if_neg h]; exact Int.ediv_nonneg (by omega) hb
theorem ceil_hi (a b : Int) : ceil a b ≤ 4611686018427387904 := by
  have ha := fit_lo a; have ha' := fit_hi a; have hb := fit_lo b
  unfold ceil
  by_cases h : fit b = 0
  · rw [if_pos h]; decide
  · rw [if_neg h]
    have h1 : 0 < fit b := by omega
    refine Int.le_trans ?_ ha'
    generalize fit b = y at *
    generalize fit a = x at *
    by_cases hx : x = 0
    · subst hx
      rw [Int.ediv_eq_zero_of_lt (by omega) (by omega)]; exact Int.le_refl _
    · have h2 : x + y - 1 < (x + 1) * y := by
        have h3 : x * 1 ≤ x * y := Int.mul_le_mul_of_nonneg_left (by omega) (by omega)
        rw [Int.add_mul]; omega
      have := Int.ediv_lt_of_lt_mul h1 h2
      omega
/-- The quotient rounded up, as the code finds it. -/
theorem ceil_code (x y : Int) (hy : 0 < y) :
    (x + y - 1) / y = if 0 < x % y then x / y + 1 else x / y := by
  have hm := Int.emod_nonneg x (by omega : y ≠ 0)
  have hl := Int.emod_lt_of_pos x hy
  have he := Int.mul_ediv_add_emod x y
  have e1 : x + y - 1 = (x % y + y - 1) + y * (x / y) := by omega
  rw [e1, Int.add_mul_ediv_left _ _ (by omega : y ≠ 0)]
  by_cases h : 0 < x % y
  · rw [if_pos h]
    have e2 : x % y + y - 1 = (x % y - 1) + y * 1 := by omega
    rw [e2, Int.add_mul_ediv_left _ _ (by omega : y ≠ 0), Int.ediv_eq_zero_of_lt (by omega) (by omega)]
    omega
  · rw [if_neg h, Int.ediv_eq_zero_of_lt (by omega) (by omega)]; omega
theorem ceil_mul (x y : Int) (hy : 0 < y) : x ≤ (x + y - 1) / y * y ∧ (x + y - 1) / y * y < x + y := by
  have he := Int.mul_ediv_add_emod (x + y - 1) y
  have hm := Int.emod_nonneg (x + y - 1) (by omega : y ≠ 0)
  have hl := Int.emod_lt_of_pos (x + y - 1) hy
  rw [Int.mul_comm] at he
  omega

/-! ### The law -/
theorem law_add (a b c : Int) : ¬ add [add [fit a, fit c], fit b] < add [a, b] := by
  have ha := fit_lo a; have hb := fit_lo b; have hc := fit_lo c
  have e : fit (add [fit a, fit c]) = add [fit a, fit c] := fit_add _
  unfold add at *
  rw [sum_two, sum_two] at *
  rw [sum_two, e, fit_fit, fit_fit, fit_fit]
  have h1 := fit_hi a
  unfold top
  repeat' split
  all_goals omega
theorem law_mul (a b c : Int) : ¬ mul (add [fit a, fit c]) (fit b) < mul a b := by
  have ha := fit_lo a; have hb := fit_lo b; have hc := fit_lo c; have h1 := fit_hi a
  have e : fit (add [fit a, fit c]) = add [fit a, fit c] := fit_add _
  have h : fit a ≤ add [fit a, fit c] := by
    unfold add; rw [sum_two, fit_fit, fit_fit]; unfold top; split <;> omega
  have hm := Int.mul_le_mul_of_nonneg_right h hb
  unfold mul
  rw [e, fit_fit]
  unfold top
  repeat' split
  all_goals omega
theorem law_sub (a b : Int) (h : add [a, b] < 4611686018427387904) : sub (add [a, b]) a = fit b := by
  have ha := fit_lo a; have hb := fit_lo b
  have e : fit (add [a, b]) = add [a, b] := fit_add _
  have hs : add [a, b] = fit a + fit b := by
    unfold add at h ⊢; rw [sum_two] at *; unfold top at *; split at h <;> rename_i h'
    · omega
    · rw [if_neg h']
  unfold sub
  rw [e, hs, show fit a + fit b - fit a = fit b from by omega, fit_fit]
theorem law_ceil_zero (a b : Int) (h : fit b = 0) : ceil a b = 4611686018427387904 := by
  unfold ceil; rw [if_pos h, top_eq]
theorem law_ceil (a b : Int) (h : 0 < fit b) (hne : mul (ceil a b) b ≠ 4611686018427387904) :
    fit a ≤ mul (ceil a b) b ∧ mul (ceil a b) b < add [fit a, fit b] := by
  have hq : fit (ceil a b) = ceil a b := fit_self (ceil_lo a b) (ceil_hi a b)
  have hk := ceil_mul (fit a) (fit b) h
  have hc : ceil a b = (fit a + fit b - 1) / fit b := by unfold ceil; rw [if_neg (by omega)]
  have hh := mul_hi (ceil a b) b
  have hm : mul (ceil a b) b = (fit a + fit b - 1) / fit b * fit b := by
    unfold mul at hne ⊢
    rw [hq, hc] at hne ⊢
    by_cases ht : top < (fit a + fit b - 1) / fit b * fit b
    · rw [if_pos ht] at hne; exact absurd top_eq hne
    · rw [if_neg ht]
  rw [hm] at hh hne ⊢
  refine ⟨hk.1, ?_⟩
  unfold add; rw [sum_two, fit_fit, fit_fit]; unfold top; split <;> omega
end Go.Proofs.Ytcnnepmhdccipaa.Sat

namespace Go.Proofs.Ytcnnepmhdccipaa.Codec

/-- The byte at place i of eight, the highest at 0. -/
def byteAt (x : Int) (i : Nat) : Int := x / 256 ^ (7 - i) % 256
/-- The first k bytes of a number. -/
def some8 (x : Int) (k : Nat) : List Int := (List.range k).map (byteAt x)
def eight (x : Int) : List Int := some8 x 8
/-- The number of bytes. -/
def num (bs : List Int) : Int := bs.foldl (fun a b => a * 256 + b) 0
def IsBytes (bs : List Int) : Prop := ∀ x ∈ bs, 0 ≤ x ∧ x < 256

theorem len_some8 (x : Int) (k : Nat) : (some8 x k).length = k := by simp [some8]
theorem len_eight (x : Int) : (eight x).length = 8 := len_some8 x 8
theorem some8_zero (x : Int) : some8 x 0 = [] := rfl
theorem some8_succ (x : Int) (k : Nat) : some8 x (k + 1) = some8 x k ++ [byteAt x k] := by simp [some8, List.range_succ]
theorem byteAt_ok (x : Int) (i : Nat) : 0 ≤ byteAt x i ∧ byteAt x i < 256 := by
  unfold byteAt
  exact ⟨Int.emod_nonneg _ (by omega), Int.emod_lt_of_pos _ (by omega)⟩
theorem some8_ok (x : Int) (k : Nat) : IsBytes (some8 x k) := by
  intro y hy
  simp only [some8, List.mem_map] at hy
  obtain ⟨i, _, rfl⟩ := hy
  exact byteAt_ok x i
theorem eight_ok (x : Int) : IsBytes (eight x) := some8_ok x 8

theorem num_nil : num [] = 0 := rfl
theorem num_snoc (l : List Int) (b : Int) : num (l ++ [b]) = num l * 256 + b := by simp [num]
theorem pow_pos256 (n : Nat) : (0 : Int) < 256 ^ n := Int.pow_pos (by omega)

theorem num_some8 (x : Int) (h0 : 0 ≤ x) (h1 : x < 18446744073709551616) : ∀ k, k ≤ 8 → num (some8 x k) = x / 256 ^ (8 - k)
  | 0, _ => by
    rw [some8_zero, num_nil]
    have e : (256 : Int) ^ (8 - 0) = 18446744073709551616 := by decide
    rw [e]
    omega
  | k + 1, hk => by
    rw [some8_succ, num_snoc, num_some8 x h0 h1 k (by omega)]
    unfold byteAt
    have e : 8 - k = (7 - k) + 1 := by omega
    have e2 : 8 - (k + 1) = 7 - k := by omega
    rw [e, e2, Int.pow_succ, ← Int.ediv_ediv_of_nonneg (Int.le_of_lt (pow_pos256 _))]
    generalize x / 256 ^ (7 - k) = q
    omega
theorem num_eight (x : Int) (h0 : 0 ≤ x) (h1 : x < 18446744073709551616) : num (eight x) = x := by
  have := num_some8 x h0 h1 8 (Nat.le_refl _)
  simpa [eight] using this

theorem num_bound : ∀ (n : Nat) (l : List Int), l.length = n → IsBytes l → 0 ≤ num l ∧ num l < 256 ^ n
  | 0, l, hl, _ => by
    obtain rfl := List.eq_nil_of_length_eq_zero hl
    simp [num]
  | n + 1, l, hl, hb => by
    have hne : l ≠ [] := by intro h; rw [h] at hl; simp at hl
    have e := List.dropLast_concat_getLast hne
    have h1 := num_bound n l.dropLast (by simp [hl]) (fun x hx => hb x (List.dropLast_subset l hx))
    have h2 := hb _ (List.getLast_mem hne)
    rw [← e, num_snoc, Int.pow_succ]
    omega

/-- The first k of at least eight bytes. -/
theorem num_take (bs : List Int) (hb : IsBytes bs) (k : Nat) (hk : k ≤ bs.length) : 0 ≤ num (bs.take k) ∧ num (bs.take k) < 256 ^ k :=
  num_bound k (bs.take k) (by simp; omega) (fun x hx => hb x (List.mem_of_mem_take hx))
theorem take_snoc (bs : List Int) (k : Nat) (hk : k < bs.length) : bs.take (k + 1) = bs.take k ++ [bs.getD k 0] := by
  rw [List.take_succ_eq_append_getElem hk]
  simp [List.getD, hk]
theorem num_take_succ (bs : List Int) (k : Nat) (hk : k < bs.length) : num (bs.take (k + 1)) = num (bs.take k) * 256 + bs.getD k 0 := by
  rw [take_snoc bs k hk, num_snoc]
theorem bytes_at (bs : List Int) (hb : IsBytes bs) (k : Nat) (hk : k < bs.length) : 0 ≤ bs.getD k 0 ∧ bs.getD k 0 < 256 := by
  have : bs.getD k 0 ∈ bs := by simp [List.getD, hk]
  exact hb _ this
theorem pow_below (k : Nat) (hk : k < 8) : (256 : Int) ^ k ≤ 72057594037927936 := by
  have : ∀ k : Fin 8, (256 : Int) ^ k.val ≤ 72057594037927936 := by decide
  exact this ⟨k, hk⟩
theorem IsBytes.append {a b : List Int} (ha : IsBytes a) (hb : IsBytes b) : IsBytes (a ++ b) := by
  intro x hx
  rcases List.mem_append.1 hx with h | h
  · exact ha x h
  · exact hb x h
theorem IsBytes.drop {a : List Int} (ha : IsBytes a) (k : Nat) : IsBytes (a.drop k) := fun x hx => ha x (List.mem_of_mem_drop hx)
theorem IsBytes.take {a : List Int} (ha : IsBytes a) (k : Nat) : IsBytes (a.take k) := fun x hx => ha x (List.mem_of_mem_take hx)

/-- What the program's shift and narrowing make of a number. -/
theorem byteAt_of (x : Int) (k n : Nat) (hn : n = 8 * (7 - k)) : x / 2 ^ n % 256 = byteAt x k := by
  unfold byteAt
  subst hn
  rw [show (256 : Int) = 2 ^ 8 by decide, ← Int.pow_mul]

/-! What a reader does: what is left, and whether it failed; the program's (p..), and the document's (r..). -/
abbrev St := List Int × Bool
def rBits (s : St) : Int × St := if s.2 = true ∨ s.1.length < 8 then (0, s.1, true) else (num (s.1.take 8), s.1.drop 8, false)
def pBits (s : St) : Int × St := if s.1.length < 8 then (0, [], true) else (num (s.1.take 8), s.1.drop 8, s.2)
def over (m x : Int) : Bool := decide (4611686018427387904 < x ∨ m < x)
def rUpto (m : Int) (s : St) : Int × St := if (rBits s).2.2 = true ∨ over m (rBits s).1 = true then (0, (rBits s).2.1, true) else rBits s
def pUpto (m : Int) (s : St) : Int × St := if over m (pBits s).1 = true then (0, [], true) else pBits s
def tell (s : St) : Int := if s.2 = true ∨ s.1 ≠ [] then 2 else 0
/-- The program's reader stands as the document's. -/
def Alike (s t : St) : Prop := s.2 = t.2 ∧ (s.2 = false → s.1 = t.1) ∧ (s.2 = true → s.1 = [])
theorem alike_start (l : List Int) : Alike (l, false) (l, false) := ⟨rfl, fun _ => rfl, fun h => by cases h⟩
theorem alike_failed (l : List Int) : Alike ([], true) (l, true) := ⟨rfl, fun h => (by cases h), fun _ => rfl⟩
theorem alike_bits {s t : St} (h : Alike s t) : (pBits s).1 = (rBits t).1 ∧ Alike (pBits s).2 (rBits t).2 := by
  obtain ⟨l, f⟩ := s
  obtain ⟨l', f'⟩ := t
  obtain ⟨h1, h2, h3⟩ := h
  simp only at h1 h2 h3
  subst h1
  cases f with
  | true =>
    obtain rfl := h3 rfl
    simp [pBits, rBits, alike_failed]
  | false =>
    obtain rfl := h2 rfl
    by_cases hl : l.length < 8
    · simp [pBits, rBits, hl, alike_failed]
    · simp [pBits, rBits, hl, alike_start]
theorem alike_upto {s t : St} (m : Int) (h : Alike s t) : (pUpto m s).1 = (rUpto m t).1 ∧ Alike (pUpto m s).2 (rUpto m t).2 := by
  obtain ⟨hx, hs⟩ := alike_bits h
  unfold pUpto rUpto
  rw [hx]
  by_cases ho : over m (rBits t).1 = true
  · simp [ho, alike_failed]
  · have ho' : over m (rBits t).1 = false := Bool.eq_false_iff.2 ho
    rw [if_neg ho]
    by_cases hf : (rBits t).2.2 = true
    · have hp : (pBits s).2.2 = true := hs.1.trans hf
      have hl := hs.2.2 hp
      have hz : (pBits s).1 = 0 := by
        unfold pBits at hp ⊢
        split
        · rfl
        · rename_i hlen
          rw [if_neg hlen] at hp
          have := h.2.2 hp
          rw [this] at hlen
          simp at hlen
      rw [if_pos (.inl hf)]
      refine ⟨hz, ?_⟩
      have e : (pBits s).2 = ([], true) := Prod.ext hl hp
      rw [e]
      exact alike_failed _
    · rw [if_neg (by simp [hf, ho'])]
      exact ⟨hx, hs⟩
theorem alike_tell {s t : St} (h : Alike s t) : tell s = tell t := by
  obtain ⟨l, f⟩ := s
  obtain ⟨l', f'⟩ := t
  obtain ⟨h1, h2, h3⟩ := h
  simp only at h1 h2 h3
  subst h1
  cases f with
  | true => simp [tell]
  | false => obtain rfl := h2 rfl; rfl
theorem pBits_ok {s : St} (h : IsBytes s.1) : IsBytes (pBits s).2.1 := by
  unfold pBits
  split
  · intro x hx; cases hx
  · exact h.drop 8
theorem rBits_ok {s : St} (h : IsBytes s.1) : IsBytes (rBits s).2.1 := by
  unfold rBits
  split
  · exact h
  · exact h.drop 8
theorem pUpto_ok {s : St} (m : Int) (h : IsBytes s.1) : IsBytes (pUpto m s).2.1 := by
  unfold pUpto
  split
  · intro x hx; cases hx
  · exact pBits_ok h
theorem rUpto_ok {s : St} (m : Int) (h : IsBytes s.1) : IsBytes (rUpto m s).2.1 := by
  unfold rUpto
  split
  · exact rBits_ok h
  · exact rBits_ok h

theorem pBits_eight (x : Int) (l : List Int) (f : Bool) (h0 : 0 ≤ x) (h1 : x < 18446744073709551616) : pBits (eight x ++ l, f) = (x, l, f) := by
  have hl : ¬ (eight x ++ l).length < 8 := by rw [List.length_append, len_eight]; omega
  unfold pBits
  rw [if_neg hl]
  simp only
  rw [List.take_left' (len_eight x), List.drop_left' (len_eight x), num_eight x h0 h1]
theorem pUpto_eight (m x : Int) (l : List Int) (f : Bool) (h0 : 0 ≤ x) (h1 : x ≤ 4611686018427387904) (h2 : x ≤ m) : pUpto m (eight x ++ l, f) = (x, l, f) := by
  unfold pUpto
  rw [pBits_eight x l f h0 (by omega)]
  have : over m x = false := by simp [over]; omega
  simp [this]

/-- The bytes of numbers. -/
def puts (l : List Int) : List Int := l.flatMap eight
theorem puts_nil : puts [] = [] := rfl
theorem puts_snoc (l : List Int) (x : Int) : puts (l ++ [x]) = puts l ++ eight x := by simp [puts]
theorem len_puts : ∀ l : List Int, (puts l).length = 8 * l.length
  | [] => rfl
  | x :: l => by
    have := len_puts l
    simp [puts, len_eight] at this ⊢
    omega
theorem puts_ok : ∀ l : List Int, IsBytes (puts l)
  | [] => by intro x hx; cases hx
  | x :: l => by
    have := (eight_ok x).append (puts_ok l)
    simpa [puts] using this
theorem puts_drop : ∀ (l : List Int) (k : Nat), k ≤ l.length → (puts l).drop (8 * k) = puts (l.drop k)
  | l, 0, _ => by simp
  | [], k + 1, h => by simp at h
  | x :: l, k + 1, h => by
    have := puts_drop l k (by simpa using h)
    have e : puts (x :: l) = eight x ++ puts l := by simp [puts]
    rw [e, show 8 * (k + 1) = 8 + 8 * k by omega, ← List.drop_drop, List.drop_left' (len_eight x), this]
    rfl
/-- May each be a number? -/
def good (x : Int) : Bool := decide (0 ≤ x ∧ x ≤ 4611686018427387904)
def goods (l : List Int) : Bool := l.all good
theorem puts_step (l : List Int) (k : Nat) (hk : k < l.length) : puts (l.drop k) = eight (l.getD k 0) ++ puts (l.drop (k + 1)) := by
  have e : l.getD k 0 = l[k] := by simp [List.getD, hk]
  rw [e, List.drop_eq_getElem_cons hk]
  unfold puts
  rw [List.flatMap_cons]
theorem good_at (l : List Int) (h : goods l = true) (k : Nat) (hk : k < l.length) : 0 ≤ l.getD k 0 ∧ l.getD k 0 ≤ 4611686018427387904 := by
  have := List.all_eq_true.1 h (l.getD k 0) (by simp [List.getD, hk])
  simpa [good] using this
/-- A number is read, of what was written, whatever lies behind. -/
theorem back_num (l : List Int) (t : List Int) (f : Bool) (h : goods l = true) (k : Nat) (hk : k < l.length) : pUpto 4611686018427387904 (puts (l.drop k) ++ t, f) = (l.getD k 0, puts (l.drop (k + 1)) ++ t, f) := by
  obtain ⟨h0, h1⟩ := good_at l h k hk
  rw [puts_step l k hk, List.append_assoc]
  exact pUpto_eight _ _ _ _ h0 h1 h1
theorem back_none (t : List Int) (f : Bool) (h : t.length < 8) : pBits (t, f) = (0, [], true) := by unfold pBits; rw [if_pos h]
end Go.Proofs.Ytcnnepmhdccipaa.Codec

namespace Go.Proofs.Ytcnnepmhdccipaa.Ledger
open _root_.Go.Proofs.Ytcnnepmhdccipaa.Frame (Rw Tb noRow)
open _root_.Go.Proofs.Ytcnnepmhdccipaa.Sat (fit add sub mul)

/-- The place of the first one; -1: there is none. -/
def spot {α : Type} (f : α → Bool) : List α → Int
  | [] => -1
  | x :: l => if f x = true then 0 else if spot f l < 0 then -1 else spot f l + 1
theorem spot_at {α : Type} (f : α → Bool) (d : α) : ∀ (l : List α) (j : Nat), j < l.length → (∀ i, i < j → f (l.getD i d) = false) → f (l.getD j d) = true → spot f l = (j : Int)
  | [], j, hj, _, _ => by simp at hj
  | x :: l, 0, _, _, h => by
    have h' : f x = true := by simpa using h
    simp [spot, h']
  | x :: l, j + 1, hj, h0, h => by
    have hx : f x = false := by simpa using h0 0 (by omega)
    have := spot_at f d l j (by simpa using hj) (fun i hi => by simpa using h0 (i + 1) (by omega)) (by simpa using h)
    rw [spot, if_neg (by simp [hx]), this, if_neg (by omega)]
    omega
theorem spot_none {α : Type} (f : α → Bool) (d : α) : ∀ (l : List α), (∀ i, i < l.length → f (l.getD i d) = false) → spot f l = -1
  | [], _ => rfl
  | x :: l, h => by
    have hx : f x = false := by simpa using h 0 (by simp)
    have := spot_none f d l (fun i hi => by simpa using h (i + 1) (by simpa using hi))
    rw [spot, if_neg (by simp [hx]), this, if_pos (by omega)]
theorem spot_cases {α : Type} (f : α → Bool) (d : α) (l : List α) : (spot f l = -1 ∧ ∀ i, i < l.length → f (l.getD i d) = false) ∨ ∃ j : Nat, spot f l = (j : Int) ∧ j < l.length ∧ f (l.getD j d) = true ∧ ∀ i, i < j → f (l.getD i d) = false := by
  by_cases h : ∀ i, i < l.length → f (l.getD i d) = false
  · exact .inl ⟨spot_none f d l h, h⟩
  · right
    have hex : ∃ j, j < l.length ∧ f (l.getD j d) = true := by
      refine Classical.byContradiction fun hn => h fun i hi => ?_
      cases hf : f (l.getD i d) with
      | false => rfl
      | true => exact absurd ⟨i, hi, hf⟩ hn
    have : ∀ n, (∃ j, j ≤ n ∧ j < l.length ∧ f (l.getD j d) = true) → ∃ j, j < l.length ∧ f (l.getD j d) = true ∧ ∀ i, i < j → f (l.getD i d) = false := by
      intro n
      induction n with
      | zero =>
        rintro ⟨j, h0, h1, h2⟩
        exact ⟨j, h1, h2, fun i hi => by omega⟩
      | succ n ih =>
        rintro ⟨j, h0, h1, h2⟩
        by_cases hm : ∃ j, j ≤ n ∧ j < l.length ∧ f (l.getD j d) = true
        · exact ih hm
        · refine ⟨j, h1, h2, fun i hi => ?_⟩
          cases hf : f (l.getD i d) with
          | false => rfl
          | true => exact absurd ⟨i, by omega, by omega, hf⟩ hm
    obtain ⟨j, h1, h2⟩ := hex
    obtain ⟨k, k1, k2, k3⟩ := this j ⟨j, Nat.le_refl _, h1, h2⟩
    exact ⟨k, spot_at f d l k k1 k3 k2, k1, k2, k3⟩

/-- The place of a key's row, of a node's lease. -/
def place (l : List Rw) (key : Int) : Int := spot (fun r => r.key == key) l
def outAt (l : List (Int × Int)) (node : Int) : Int := spot (fun x => x.1 == node) l
/-- A key's row. -/
def findRow (t : Tb) (key : Int) : Rw := if place t.rows key < 0 then ⟨key, 0, t.start, []⟩ else t.rows.getD (place t.rows key).toNat noRow
def findIs (t : Tb) (key : Int) : Bool := decide (0 ≤ place t.rows key)
/-- A row's total. -/
def total (r : Rw) : Int := add (r.avail :: r.out.map (·.2))
/-- A row, minted. -/
def minted (r : Rw) (now R B : Int) : Rw := ⟨r.key, add [r.avail, min (mul R (sub now r.mark)) (sub B (total r))], max r.mark now, r.out⟩
def look (t : Tb) (key now R B : Int) : Rw := minted (findRow t key) now R B
/-- A table's rows with another one, by keys: how far it is. -/
def setStep (r : Rw) (s : List Rw × Bool) (x : Rw) : List Rw × Bool := ((if s.2 = false ∧ r.key ≤ x.key then s.1 ++ [r] else s.1) ++ (if x.key = r.key then [] else [x]), s.2 || decide (r.key ≤ x.key))
def setTo (r : Rw) (l : List Rw) : List Rw × Bool := l.foldl (setStep r) ([], false)
def setRows (l : List Rw) (r : Rw) : List Rw := if (setTo r l).2 = true then (setTo r l).1 else (setTo r l).1 ++ [r]
def setRow (t : Tb) (r : Rw) : Tb := ⟨t.start, setRows t.rows r⟩
theorem setTo_take (r : Rw) (l : List Rw) (k : Nat) (h : k < l.length) : setTo r (l.take (k + 1)) = setStep r (setTo r (l.take k)) (l.getD k noRow) := by
  have e : l.getD k noRow = l[k] := by simp [List.getD, h]
  rw [e, List.take_succ_eq_append_getElem h]
  simp only [setTo, List.foldl_append, List.foldl_cons, List.foldl_nil]
/-- One, if it is not in yet. -/
def rest : Bool → Nat
  | true => 0
  | false => 1
theorem setTo_rest (r : Rw) : ∀ (l : List Rw) (s : List Rw × Bool), (l.foldl (setStep r) s).1.length + rest (l.foldl (setStep r) s).2 ≤ s.1.length + rest s.2 + l.length
  | [], s => Nat.le_refl _
  | x :: l, (a, b) => by
    refine Nat.le_trans (setTo_rest r l _) ?_
    simp only [setStep, List.length_append, List.length_cons]
    cases b <;> by_cases h1 : r.key ≤ x.key <;> by_cases h2 : x.key = r.key <;> simp [h1, h2, rest] <;> omega
theorem setTo_len (r : Rw) (l : List Rw) : (setTo r l).1.length + rest (setTo r l).2 ≤ l.length + 1 := by
  have : (l.foldl (setStep r) ([], false)).1.length + rest (l.foldl (setStep r) ([], false)).2 ≤ 0 + 1 + l.length := setTo_rest r l ([], false)
  unfold setTo
  omega
theorem setRows_len (l : List Rw) (r : Rw) : (setRows l r).length ≤ l.length + 1 := by
  have := setTo_len r l
  unfold setRows
  split
  · omega
  · rename_i h
    rw [Bool.not_eq_true] at h
    rw [h] at this
    simp only [rest] at this
    simp
    omega
end Go.Proofs.Ytcnnepmhdccipaa.Ledger

namespace Go.Proofs.Ytcnnepmhdccipaa.Conf

def within (x lo hi : Int) : Bool := decide (lo ≤ x) && decide (x ≤ hi)
theorem within_yes {x lo hi : Int} (h0 : lo ≤ x) (h1 : x ≤ hi) : within x lo hi = true := by unfold within; simp [h0, h1]
theorem within_no {x lo hi : Int} (h : ¬ (lo ≤ x ∧ x ≤ hi)) : within x lo hi = false := by
  unfold within
  by_cases h0 : lo ≤ x
  · have h1 : ¬ x ≤ hi := fun k => h ⟨h0, k⟩
    simp [h0, h1]
  · simp [h0]
theorem within_iff {x lo hi : Int} : within x lo hi = true ↔ lo ≤ x ∧ x ≤ hi := by unfold within; simp

/-- Whose a ballot is. -/
def owner (n b : Int) : Int := if 1 ≤ n ∧ n ≤ 64 ∧ n ≤ b ∧ b ≤ 1099511627776 then b % n else -1

/-- The least ballot of a node above a number, whatever its size. -/
def bal (n above node : Int) : Int := if n + node ≤ above then above - (above - node) % n + n else n + node
def next (n above node : Int) : Int × Int :=
  if ¬ (1 ≤ n ∧ n ≤ 64 ∧ 0 ≤ node ∧ node < n) then (0, 1) else
  if 1099511627776 ≤ above then (0, 6) else
  if 1099511627776 < bal n above node then (0, 6) else (bal n above node, 0)

def key (p m : Int) : Int × Int := if 0 ≤ p ∧ p ≤ 7 ∧ 0 ≤ m ∧ m ≤ 65535 then (p * 65536 + m, 0) else (0, 1)

theorem bal_lo {n above node : Int} (hn : 1 ≤ n) (hd : 0 ≤ node) : n ≤ bal n above node := by
  unfold bal
  split
  · have h1 := Int.emod_lt_of_pos (above - node) (by omega : 0 < n)
    omega
  · omega
theorem bal_above {n above node : Int} (hn : 1 ≤ n) : above < bal n above node := by
  unfold bal
  split
  · have h1 := Int.emod_lt_of_pos (above - node) (by omega : 0 < n)
    omega
  · omega
theorem bal_mod {n above node : Int} (hd : 0 ≤ node) (hl : node < n) : bal n above node % n = node := by
  unfold bal
  split
  · have h1 := Int.mul_ediv_add_emod (above - node) n
    have h2 : above - (above - node) % n + n = node + n * ((above - node) / n + 1) := by rw [Int.mul_add]; omega
    rw [h2, Int.add_mul_emod_self_left, Int.emod_eq_of_lt hd hl]
  · rw [Int.add_comm, Int.add_emod_right, Int.emod_eq_of_lt hd hl]
theorem bal_near {n above node : Int} (hn : 1 ≤ n) (hl : node < n) : bal n above node < max (above + 1) n + n := by
  unfold bal
  split
  · have h1 := Int.emod_nonneg (above - node) (by omega : n ≠ 0)
    omega
  · omega
/-- From the first number on, at most n - 1 steps to the ballot; it is there where the rest is the node. -/
theorem bal_here {n above node b : Int} (hd : 0 ≤ node) (hl : node < n) (h0 : b ≤ bal n above node) (h1 : bal n above node < b + n) (hm : b % n = node) : b = bal n above node := by
  have h2 := bal_mod (above := above) hd hl
  have h3 : (bal n above node - b) % n = 0 := by rw [Int.sub_emod, h2, hm]; simp
  have h4 : (bal n above node - b) % n = bal n above node - b := Int.emod_eq_of_lt (by omega) (by omega)
  omega
theorem bal_not {n above node b : Int} (hd : 0 ≤ node) (hl : node < n) (h0 : b ≤ bal n above node) (hm : b % n ≠ node) : b + 1 ≤ bal n above node := by
  have h2 := bal_mod (above := above) hd hl
  rcases Int.lt_or_eq_of_le h0 with h | h
  · omega
  · rw [h] at hm; exact absurd h2 hm

theorem next_arg {n above node : Int} (h : ¬ (1 ≤ n ∧ n ≤ 64 ∧ 0 ≤ node ∧ node < n)) : next n above node = (0, 1) := by unfold next; rw [if_pos h]
theorem next_far {n above node : Int} (h : 1 ≤ n ∧ n ≤ 64 ∧ 0 ≤ node ∧ node < n) (h1 : 1099511627776 ≤ above) : next n above node = (0, 6) := by
  unfold next; rw [if_neg (fun k => k h), if_pos h1]
theorem next_over {n above node : Int} (h : 1 ≤ n ∧ n ≤ 64 ∧ 0 ≤ node ∧ node < n) (h1 : ¬ 1099511627776 ≤ above) (h2 : 1099511627776 < bal n above node) : next n above node = (0, 6) := by
  unfold next; rw [if_neg (fun k => k h), if_neg h1, if_pos h2]
theorem next_ok {n above node : Int} (h : 1 ≤ n ∧ n ≤ 64 ∧ 0 ≤ node ∧ node < n) (h1 : ¬ 1099511627776 ≤ above) (h2 : ¬ 1099511627776 < bal n above node) : next n above node = (bal n above node, 0) := by
  unfold next; rw [if_neg (fun k => k h), if_neg h1, if_neg h2]
end Go.Proofs.Ytcnnepmhdccipaa.Conf

namespace Go.Proofs.Ytcnnepmhdccipaa.Ring

/-- Is a node in a set? -/
def has (x i : Int) : Bool := decide (0 ≤ i ∧ i < 64) && x.toNat.testBit i.toNat
/-- The set of one node; none, if there is no such node. -/
def only (i : Int) : Int := if 0 ≤ i ∧ i < 64 then ((2 ^ i.toNat : Nat) : Int) else 0
/-- A set with a node. -/
def put (x i : Int) : Int := ((x.toNat ||| (only i).toNat : Nat) : Int)
/-- A set without a node. -/
def cut (x i : Int) : Int := ((x.toNat &&& (18446744073709551615 - (only i).toNat) : Nat) : Int)
/-- What two sets have in common. -/
def meet (x y : Int) : Int := ((x.toNat &&& y.toNat : Nat) : Int)
def okRing (n : Int) : Bool := decide (1 ≤ n) && decide (n ≤ 64)
/-- The nodes of a ring of n. -/
def all (n : Int) : Int := if okRing n then ((2 ^ n.toNat - 1 : Nat) : Int) else 0
/-- How many a set has. -/
def count (x : Int) : Int := ((List.range 64).countP (fun i => x.toNat.testBit i) : Nat)
/-- Its nodes, rising. -/
def nodes (x : Int) : List Int := ((List.range 64).filter (fun i => x.toNat.testBit i)).map (fun i : Nat => (i : Int))
/-- The nodes that come behind i on a ring of n, once round. -/
def behind (n i : Int) : List Int := (List.range (n.toNat - 1)).map (fun k : Nat => (i + ((k : Int) + 1)) % n)
/-- Who comes next. -/
def next (x n i : Int) : Int := if okRing n && (decide (0 ≤ i) && decide (i < n)) then ((behind n i).find? (fun j => has x j)).getD i else -1
def maj (n : Int) : Int := if n < 1 then 0 else n / 2 + 1

theorem pow_lt {i : Int} (h1 : i < 64) : 2 ^ i.toNat < 18446744073709551616 :=
  Nat.lt_of_lt_of_le (Nat.pow_lt_pow_right (by decide) (by omega : i.toNat < 64)) (by decide)

theorem only_lo (i : Int) : 0 ≤ only i := by
  unfold only; split
  · exact Int.natCast_nonneg _
  · omega
theorem only_hi (i : Int) : only i < 18446744073709551616 := by
  unfold only; split
  · rename_i h; have := pow_lt h.2; generalize 2 ^ i.toNat = k at this; omega
  · omega
theorem only_in {i : Int} (h0 : 0 ≤ i) (h1 : i < 64) : only i = ((2 ^ i.toNat : Nat) : Int) := by unfold only; rw [if_pos ⟨h0, h1⟩]
theorem only_out {i : Int} (h : ¬ (0 ≤ i ∧ i < 64)) : only i = 0 := by unfold only; rw [if_neg h]
theorem only_wrap {i : Int} (h0 : 0 ≤ i) (h1 : i < 64) : IntKind.u64.wrap ((2 : Int) ^ i.toNat) = only i := by
  rw [only_in h0 h1, IntKind.wrap_u64]
  have h := pow_lt h1
  have e : ((2 : Int) ^ i.toNat) = ((2 ^ i.toNat : Nat) : Int) := by simp
  rw [e]
  generalize 2 ^ i.toNat = k at h
  omega

theorem put_lo (x i : Int) : 0 ≤ put x i := by unfold put; omega
theorem put_hi (x i : Int) (h1 : x < 18446744073709551616) : put x i < 18446744073709551616 := by
  unfold put
  have a := only_lo i; have b := only_hi i
  have : x.toNat ||| (only i).toNat < 2 ^ 64 := Nat.or_lt_two_pow (by omega) (by omega)
  omega
theorem cut_lo (x i : Int) : 0 ≤ cut x i := by unfold cut; omega
theorem cut_hi (x i : Int) : cut x i < 18446744073709551616 := by
  unfold cut
  have : x.toNat &&& (18446744073709551615 - (only i).toNat) < 2 ^ 64 := Nat.and_lt_two_pow _ (by omega)
  omega
theorem meet_lo (x y : Int) : 0 ≤ meet x y := by unfold meet; omega
theorem meet_hi (x y : Int) (h1 : y < 18446744073709551616) : meet x y < 18446744073709551616 := by
  unfold meet
  have : x.toNat &&& y.toNat < 2 ^ 64 := Nat.and_lt_two_pow _ (by omega)
  omega
theorem all_lo (n : Int) : 0 ≤ all n := by unfold all; split <;> omega
theorem all_hi (n : Int) : all n < 18446744073709551616 := by
  unfold all; split
  · rename_i h; unfold okRing at h; simp at h
    have : 2 ^ n.toNat ≤ 2 ^ 64 := Nat.pow_le_pow_right (by decide) (by omega)
    omega
  · omega

theorem and_has (x i : Int) (h0 : 0 ≤ x) (h1 : x < 18446744073709551616) : (bits .and .u64 x (only i) != 0) = has x i := by
  rw [u64_and x (only i) h0 h1 (only_lo i) (only_hi i)]
  unfold has
  by_cases h : 0 ≤ i ∧ i < 64
  · rw [only_in h.1 h.2, Int.toNat_natCast, nat_bit, decide_eq_true h, Bool.true_and, Nat.testBit_eq_decide_div_mod_eq]
    have hp := Nat.two_pow_pos i.toNat
    rcases Nat.mod_two_eq_zero_or_one (x.toNat / 2 ^ i.toNat) with e | e
    · rw [e]; simp
    · rw [e, Nat.one_mul]
      generalize 2 ^ i.toNat = k at hp
      rw [Bool.eq_iff_iff]; simp; omega
  · rw [only_out h, decide_eq_false h]; simp
theorem or_put (x i : Int) (h0 : 0 ≤ x) (h1 : x < 18446744073709551616) : bits .or .u64 x (only i) = put x i :=
  u64_or x (only i) h0 h1 (only_lo i) (only_hi i)
theorem andNot_cut (x i : Int) (h0 : 0 ≤ x) (h1 : x < 18446744073709551616) : bits .andNot .u64 x (only i) = cut x i :=
  u64_andNot x (only i) h0 h1 (only_lo i) (only_hi i)
theorem and_meet (x y : Int) (h0 : 0 ≤ x) (h1 : x < 18446744073709551616) (g0 : 0 ≤ y) (g1 : y < 18446744073709551616) : bits .and .u64 x y = meet x y :=
  u64_and x y h0 h1 g0 g1

theorem all_shift_nat : ∀ n : Fin 65, 18446744073709551615 / 2 ^ (64 - n.val) = 2 ^ n.val - 1 := by decide +kernel
theorem all_shift (n : Int) (h0 : 1 ≤ n) (h1 : n ≤ 64) : (18446744073709551615 : Int) / 2 ^ (64 - n).toNat = all n := by
  have h := all_shift_nat ⟨n.toNat, by omega⟩
  have e : (64 - n).toNat = 64 - n.toNat := by omega
  unfold all okRing
  simp only [h0, h1, decide_true, Bool.and_self, if_true]
  rw [← h, e]; simp

/-- The bits of a set. -/
theorem has_nat (x : Int) (i : Nat) (h : i < 64) : has x (i : Int) = x.toNat.testBit i := by
  unfold has; rw [decide_eq_true (by omega)]; simp
theorem high {x : Int} (h1 : x < 18446744073709551616) {i : Nat} (h : 64 ≤ i) : x.toNat.testBit i = false := by
  apply Nat.testBit_lt_two_pow
  exact Nat.lt_of_lt_of_le (by omega : x.toNat < 2 ^ 64) (Nat.pow_le_pow_right (by decide) h)
theorem set_ext {x y : Int} (h0 : 0 ≤ x) (h1 : x < 18446744073709551616) (g0 : 0 ≤ y) (g1 : y < 18446744073709551616) (h : ∀ i : Nat, i < 64 → has x (i : Int) = has y (i : Int)) : x = y := by
  have : x.toNat = y.toNat := by
    apply Nat.eq_of_testBit_eq
    intro i
    by_cases hi : i < 64
    · have := h i hi; rwa [has_nat x i hi, has_nat y i hi] at this
    · rw [high h1 (by omega), high g1 (by omega)]
  omega
theorem has_put (x i j : Int) : has (put x i) j = (has x j || (decide (i = j) && decide (0 ≤ j ∧ j < 64))) := by
  unfold has put
  rw [Int.toNat_natCast, Nat.testBit_or]
  by_cases hj : 0 ≤ j ∧ j < 64
  · rw [decide_eq_true hj]
    by_cases hi : 0 ≤ i ∧ i < 64
    · rw [only_in hi.1 hi.2, Int.toNat_natCast, Nat.testBit_two_pow]
      have : decide (i.toNat = j.toNat) = decide (i = j) := by rw [decide_eq_decide]; omega
      rw [this]; simp
    · rw [only_out hi]
      have : decide (i = j) = false := decide_eq_false (fun e => hi (e ▸ hj))
      rw [this]; simp
  · rw [decide_eq_false hj]; simp
theorem has_meet (x y j : Int) : has (meet x y) j = (has x j && has y j) := by
  unfold has meet
  rw [Int.toNat_natCast, Nat.testBit_and]
  cases decide (0 ≤ j ∧ j < 64) <;> simp
theorem has_all (n j : Int) : has (all n) j = (okRing n && (decide (0 ≤ j) && decide (j < n))) := by
  unfold has all okRing
  by_cases h : 1 ≤ n ∧ n ≤ 64
  · simp only [h.1, h.2, decide_true, Bool.and_self, if_true, Int.toNat_natCast, Nat.testBit_two_pow_sub_one, Bool.true_and]
    rw [Bool.eq_iff_iff]; simp; omega
  · have : (decide (1 ≤ n) && decide (n ≤ 64)) = false := by
      rw [Bool.eq_false_iff]; simp; omega
    rw [this]; simp
theorem has_zero (j : Int) : has 0 j = false := by unfold has; simp

/-- A node more: how many there are. -/
theorem countP_more (p q : Nat → Bool) (i : Nat) (hp : p i = false) (hq : q i = true) (hr : ∀ j, j ≠ i → p j = q j) : ∀ n : Nat, (List.range n).countP q = (List.range n).countP p + (if i < n then 1 else 0)
  | 0 => by simp
  | n + 1 => by
    rw [List.range_succ, List.countP_append, List.countP_append, countP_more p q i hp hq hr n]
    by_cases e : n = i
    · subst e; simp [hp, hq]
    · have := hr n e
      by_cases hn : i < n
      · simp [List.countP_cons, this, hn, Nat.lt_succ_of_lt hn]; omega
      · have : ¬ i < n + 1 := by omega
        simp [List.countP_cons, hr n e, hn, this]
theorem count_put (x i : Int) (hi : 0 ≤ i ∧ i < 64) (h : has x i = false) : count (put x i) = count x + 1 := by
  unfold count
  have k := countP_more (fun j => x.toNat.testBit j) (fun j => (put x i).toNat.testBit j) i.toNat
    (by have := has_nat x i.toNat (by omega); rw [Int.toNat_of_nonneg hi.1] at this; rw [← this]; exact h)
    (by have := has_nat (put x i) i.toNat (by omega); rw [Int.toNat_of_nonneg hi.1] at this; rw [← this, has_put]; simp [hi])
    (fun j hj => by
      unfold put; rw [Int.toNat_natCast, Nat.testBit_or, only_in hi.1 hi.2, Int.toNat_natCast, Nat.testBit_two_pow]
      have : ¬ i.toNat = j := fun e => hj e.symm
      simp [this]) 64
  rw [k, if_pos (by omega)]; omega
theorem countP_le (p q : Nat → Bool) (h : ∀ j, p j = true → q j = true) (n : Nat) : (List.range n).countP p ≤ (List.range n).countP q :=
  List.countP_mono_left (fun j _ => h j)
theorem countP_eq (p q : Nat → Bool) (h : ∀ j, p j = true → q j = true) : ∀ n : Nat, (List.range n).countP p = (List.range n).countP q → ∀ j, j < n → p j = q j
  | 0, _, _, hj => absurd hj (by omega)
  | n + 1, e, j, hj => by
    rw [List.range_succ, List.countP_append, List.countP_append] at e
    have l := countP_le p q h n
    have hn := h n
    simp only [List.countP_cons, List.countP_nil, Nat.zero_add] at e
    have e2 : p n = q n := by
      cases hp : p n <;> cases hq : q n <;> simp [hp, hq] at e hn ⊢ <;> omega
    rw [e2] at e
    by_cases ej : j = n
    · subst ej; exact e2
    · exact countP_eq p q h n (by omega) j (by omega)
theorem countP_two (p q : Nat → Bool) : ∀ n : Nat, (List.range n).countP p + (List.range n).countP q = (List.range n).countP (fun i => p i || q i) + (List.range n).countP (fun i => p i && q i)
  | 0 => by simp
  | n + 1 => by
    have k := countP_two p q n
    rw [List.range_succ]
    simp only [List.countP_append, List.countP_cons, List.countP_nil, Nat.zero_add]
    cases p n <;> cases q n <;> simp <;> omega
theorem countP_below (p : Nat → Bool) (m : Nat) (h : ∀ j, p j = true → j < m) : ∀ n : Nat, (List.range n).countP p ≤ m
  | 0 => by simp
  | n + 1 => by
    by_cases hn : n + 1 ≤ m
    · exact Nat.le_trans List.countP_le_length (by simp; omega)
    · have k := countP_below p m h n
      have : p n = false := by cases hp : p n with | false => rfl | true => exact absurd (h n hp) (by omega)
      rw [List.range_succ, List.countP_append]; simp [this]; omega

/-- They meet. -/
theorem they_meet (n a b : Int) (h1 : 1 ≤ n) (h2 : n ≤ 64) (ha : maj n ≤ count (meet a (all n))) (hb : maj n ≤ count (meet b (all n))) :
    0 < count (meet (meet a (all n)) (meet b (all n))) := by
  unfold count at ha hb ⊢
  have e : ∀ i, (meet (meet a (all n)) (meet b (all n))).toNat.testBit i = ((meet a (all n)).toNat.testBit i && (meet b (all n)).toNat.testBit i) := fun i => by
    unfold meet; simp [Nat.testBit_and]
  have k := countP_two (fun i => (meet a (all n)).toNat.testBit i) (fun i => (meet b (all n)).toNat.testBit i) 64
  have hall : ∀ i, (all n).toNat.testBit i = true → i < n.toNat := fun i hi => by
    have ok : okRing n = true := by unfold okRing; simp [h1, h2]
    unfold all at hi; rw [ok] at hi; simp only [if_true, Int.toNat_natCast, Nat.testBit_two_pow_sub_one] at hi
    exact of_decide_eq_true hi
  have l := countP_below (fun i => (meet a (all n)).toNat.testBit i || (meet b (all n)).toNat.testBit i) n.toNat (fun j hj => by
    unfold meet at hj; simp only [Int.toNat_natCast, Nat.testBit_and, Bool.or_eq_true, Bool.and_eq_true] at hj
    exact hj.elim (fun h => hall j h.2) (fun h => hall j h.2)) 64
  have m : maj n = n / 2 + 1 := by unfold maj; rw [if_neg (by omega)]
  rw [m] at ha hb
  simp only [e]
  omega

theorem count_lo (x : Int) : 0 ≤ count x := by unfold count; omega
theorem count_hi (x : Int) : count x ≤ 64 := by
  unfold count
  have : (List.range 64).countP (fun i => x.toNat.testBit i) ≤ (List.range 64).length := List.countP_le_length
  simp at this; omega
theorem nodes_length (x : Int) : ((nodes x).length : Int) = count x := by
  unfold nodes count; rw [List.length_map, List.countP_eq_length_filter]
theorem count_eq {x y : Int} (h : ∀ i : Nat, i < 64 → has x (i : Int) = true → has y (i : Int) = true) (e : count x = count y) : ∀ i : Nat, i < 64 → has x (i : Int) = has y (i : Int) := by
  intro i hi
  unfold count at e
  have k := countP_eq (fun i => x.toNat.testBit i && decide (i < 64)) (fun i => y.toNat.testBit i && decide (i < 64)) (fun j hj => by
    simp only [Bool.and_eq_true, decide_eq_true_eq] at hj ⊢
    have := h j hj.2; rw [has_nat x j hj.2, has_nat y j hj.2] at this; exact ⟨this hj.1, hj.2⟩) 64 (by
      have c : ∀ z : Int, (List.range 64).countP (fun i => z.toNat.testBit i && decide (i < 64)) = (List.range 64).countP (fun i => z.toNat.testBit i) := fun z => by
        apply List.countP_congr; intro j hj; have := List.mem_range.1 hj; simp [this]
      rw [c, c]; omega) i hi
  rw [has_nat x i hi, has_nat y i hi]
  simpa [hi] using k

theorem maj_lo (n : Int) : 0 ≤ maj n := by unfold maj; split <;> omega

/-! The document's answers, by arithmetic. -/
theorem add_or (s i : Nat) (h : s.testBit i = false) : s + 2 ^ i = s ||| 2 ^ i := by
  have hq : s = 2 ^ (i + 1) * (s / 2 ^ (i + 1)) + s % 2 ^ (i + 1) := (Nat.div_add_mod s (2 ^ (i + 1))).symm
  have hr : s % 2 ^ (i + 1) < 2 ^ i := by
    rcases Nat.lt_or_ge (s % 2 ^ (i + 1)) (2 ^ i) with h' | h'
    · exact h'
    · exfalso
      have hm : s % 2 ^ (i + 1) < 2 ^ (i + 1) := Nat.mod_lt _ (Nat.two_pow_pos _)
      have ht : (s % 2 ^ (i + 1)).testBit i = true := by
        rw [Nat.testBit_eq_decide_div_mod_eq]
        have e : s % 2 ^ (i + 1) / 2 ^ i = 1 := by
          apply Nat.div_eq_of_lt_le
          · omega
          · rw [Nat.pow_succ] at hm; omega
        rw [e]; rfl
      rw [Nat.testBit_mod_two_pow] at ht
      simp [h] at ht
  have e1 : s ||| 2 ^ i = 2 ^ (i + 1) * (s / 2 ^ (i + 1)) + (s % 2 ^ (i + 1) + 2 ^ i) := by
    have l1 : s % 2 ^ (i + 1) + 2 ^ i < 2 ^ (i + 1) := by rw [Nat.pow_succ] at *; omega
    have e2 : s % 2 ^ (i + 1) + 2 ^ i = s % 2 ^ (i + 1) ||| 2 ^ i := by
      have := Nat.two_pow_add_eq_or_of_lt hr 1
      rw [Nat.mul_one] at this
      rw [Nat.add_comm, this, Nat.or_comm]
    rw [Nat.two_pow_add_eq_or_of_lt l1, e2, ← Nat.or_assoc, ← Nat.two_pow_add_eq_or_of_lt (Nat.mod_lt _ (Nat.two_pow_pos _)), ← hq]
  omega

theorem ref_has (x i : Int) (h : 0 ≤ x) (h0 : 0 ≤ i) (h1 : i < 64) : ((x / 2 ^ i.toNat).tmod 2 == 1) = has x i := by
  have e : x / 2 ^ i.toNat = ((x.toNat / 2 ^ i.toNat : Nat) : Int) := by
    rw [Int.natCast_ediv, Int.toNat_of_nonneg h]; simp
  unfold has
  rw [e, decide_eq_true ⟨h0, h1⟩, Bool.true_and, Nat.testBit_eq_decide_div_mod_eq, Int.tmod_eq_emod_of_nonneg (Int.natCast_nonneg _)]
  generalize x.toNat / 2 ^ i.toNat = k
  rw [Bool.eq_iff_iff]; simp; omega
theorem ref_put (x i : Int) (h : 0 ≤ x) (hx : x < 18446744073709551616) (h0 : 0 ≤ i) (h1 : i < 64) (hn : has x i = false) : IntKind.u64.wrap (x + IntKind.u64.wrap (2 ^ i.toNat)) = put x i := by
  have l := put_hi x i hx
  rw [only_wrap h0 h1]
  have e := add_or x.toNat i.toNat (by
    have := has_nat x i.toNat (by omega); rw [Int.toNat_of_nonneg h0] at this; rw [← this]; exact hn)
  unfold put at l ⊢
  rw [only_in h0 h1, Int.toNat_natCast] at l ⊢
  rw [IntKind.wrap_u64]; omega
theorem put_same (x i : Int) (h : 0 ≤ x) (hx : x < 18446744073709551616) (hn : has x i = true ∨ ¬ (0 ≤ i ∧ i < 64)) : put x i = x := by
  apply set_ext (put_lo _ _) (put_hi _ _ hx) h hx
  intro j hj
  rw [has_put]
  by_cases e : i = (j : Int)
  · subst e
    rcases hn with hn | hn
    · rw [hn]; simp
    · exact absurd ⟨by omega, by omega⟩ hn
  · simp [e]
theorem has_cut (x i j : Int) : has (cut x i) j = (has x j && !(decide (i = j))) := by
  unfold has cut
  rw [Int.toNat_natCast, Nat.testBit_and]
  by_cases hj : 0 ≤ j ∧ j < 64
  · rw [decide_eq_true hj]
    have hb : (18446744073709551615 - (only i).toNat).testBit j.toNat = !((only i).toNat.testBit j.toNat) := by
      have := Nat.testBit_two_pow_sub_succ (x := (only i).toNat) (n := 64) (by have := only_hi i; have := only_lo i; omega) j.toNat
      rw [show (18446744073709551615 - (only i).toNat) = 2 ^ 64 - ((only i).toNat + 1) by omega, this]
      simp; omega
    rw [hb]
    by_cases hi : 0 ≤ i ∧ i < 64
    · rw [only_in hi.1 hi.2, Int.toNat_natCast, Nat.testBit_two_pow]
      have : decide (i.toNat = j.toNat) = decide (i = j) := by rw [decide_eq_decide]; omega
      rw [this]; simp
    · rw [only_out hi]
      have : decide (i = j) = false := decide_eq_false (fun e => hi (e ▸ hj))
      rw [this]; simp
  · rw [decide_eq_false hj]; simp
theorem cut_same (x i : Int) (h : 0 ≤ x) (hx : x < 18446744073709551616) (hn : has x i = false) : cut x i = x := by
  apply set_ext (cut_lo _ _) (cut_hi _ _) h hx
  intro j hj
  rw [has_cut]
  by_cases e : i = (j : Int)
  · subst e; rw [hn]; simp
  · simp [e]
theorem ref_cut (x i : Int) (h : 0 ≤ x) (hx : x < 18446744073709551616) (h0 : 0 ≤ i) (h1 : i < 64) (hn : has x i = true) : IntKind.u64.wrap (x - IntKind.u64.wrap (2 ^ i.toNat)) = cut x i := by
  have hc : has (cut x i) i = false := by rw [has_cut]; simp
  have e := ref_put (cut x i) i (cut_lo _ _) (cut_hi _ _) h0 h1 hc
  have e2 : put (cut x i) i = x := by
    apply set_ext (put_lo _ _) (put_hi _ _ (cut_hi _ _)) h hx
    intro j hj
    rw [has_put, has_cut]
    by_cases ej : i = (j : Int)
    · subst ej; rw [hn]; simp; omega
    · simp [ej]
  rw [e2, only_wrap h0 h1, IntKind.wrap_u64] at e
  rw [only_wrap h0 h1, IntKind.wrap_u64]
  have := cut_lo x i; have := cut_hi x i
  have := only_lo i; have := only_hi i
  omega
end Go.Proofs.Ytcnnepmhdccipaa.Ring

namespace Go.Proofs.Ytcnnepmhdccipaa.Ring

def srt (zs : List Int) : List Int := zs.mergeSort (fun x y => decide (x ≤ y))
def nth (zs : List Int) (m : Int) : Int := if 1 ≤ m ∧ m ≤ (zs.length : Int) then (srt zs).getD (zs.length - m.toNat) 0 else 0
end Go.Proofs.Ytcnnepmhdccipaa.Ring
