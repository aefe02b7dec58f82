/-
  Frames, plain: leases, rows, tables, tokens and frames as data; which of them may be, and which are the same, by the document's own order of asking. No program; no conditions.
  Plain facts on the numbers of the layer sat: fit, sums, products, differences and quotients that do not run over are in order. No condition.
  Tables, plain: a key's row, its total, minted; a table with another row; what is out. No program; no conditions beyond those that each names.
  Leases as data, and what a wallet of them does: find, put, left, spend, close, drop; what such a wallet keeps. Plain functions, no program.
  Items as data, and what a queue of them does: put, take, expire, of, keys, sum; what such a queue keeps. Plain functions, no program.
-/
import Derived.WalkKit
namespace Go.Proofs.YtlbpeeelgpjciaaGreat.Frame

structure Rw where
  key : Int
  avail : Int
  mark : Int
  out : List (Int × Int)
structure Tb where
  start : Int
  rows : List Rw
structure Tk where
  gen : Int
  hop : Int
  stamps : List Int
  table : Tb
structure Fr where
  kind : Int
  src : Int
  dst : Int
  gen : Int
  hop : Int
  bits : Int
  token : Tk
instance : Inhabited Rw := ⟨⟨0, 0, 0, []⟩⟩
def noRow : Rw := ⟨0, 0, 0, []⟩

/-- Does it hold of all below n? -/
def allTo (f : Nat → Bool) (n : Nat) : Bool := (List.range n).all f
theorem allTo_true {f : Nat → Bool} {n : Nat} (h : ∀ j, j < n → f j = true) : allTo f n = true := by
  rw [allTo, List.all_eq_true]
  intro j hj
  exact h j (List.mem_range.1 hj)
theorem allTo_false {f : Nat → Bool} {n k : Nat} (hk : k < n) (h : f k = false) : allTo f n = false := by
  rw [allTo, List.all_eq_false]
  exact ⟨k, List.mem_range.2 hk, by rw [h]; simp⟩
theorem allTo_succ (f : Nat → Bool) (n : Nat) : allTo f (n + 1) = (allTo f n && f n) := by
  simp [allTo, List.range_succ]

def isIn (x lo hi : Int) : Bool := decide (lo ≤ x ∧ x ≤ hi)
theorem isIn_yes {x lo hi : Int} (h : isIn x lo hi = true) : lo ≤ x ∧ x ≤ hi := by simpa [isIn] using h
theorem isIn_no {x lo hi : Int} (h : isIn x lo hi = false) : x < lo ∨ (lo ≤ x ∧ hi < x) := by
  simp [isIn] at h
  omega
def isKey (k : Int) : Bool := decide (0 ≤ k ∧ k < 524288)

def leaseAt (l : List (Int × Int)) (i : Nat) : Bool := isIn (l.getD i (0, 0)).1 0 63 && isIn (l.getD i (0, 0)).2 1 2147483648 && (i == 0 || decide ((l.getD (i - 1) (0, 0)).1 < (l.getD i (0, 0)).1))
def rowOk (r : Rw) (start : Int) : Bool := isKey r.key && isIn r.avail 0 2147483648 && isIn r.mark start 4611686018427387904 && decide (r.out.length ≤ 64) && allTo (leaseAt r.out) r.out.length
def rowAt (l : List Rw) (start : Int) (i : Nat) : Bool := rowOk (l.getD i noRow) start && (i == 0 || decide ((l.getD (i - 1) noRow).key < (l.getD i noRow).key))
def tableOk (t : Tb) : Bool := isIn t.start 0 4611686018427387904 && decide (t.rows.length ≤ 16) && allTo (rowAt t.rows t.start) t.rows.length
def stampsOk (l : List Int) (n : Nat) : Bool := allTo (fun i => isIn (l.getD i 0) (-1) 4611686018427387903) n
def tokenHead (t : Tk) : Bool := isIn t.gen 1 1099511627776 && isIn t.hop 0 1099511627776 && isIn t.stamps.length 1 64
def tokenOk (t : Tk) : Bool := tokenHead t && stampsOk t.stamps t.stamps.length && tableOk t.table
def tokenNone (t : Tk) : Bool := t.gen == 0 && t.hop == 0 && t.stamps.length == 0 && t.table.start == 0 && t.table.rows.length == 0
def frameOk (f : Fr) : Bool :=
  isIn f.src 0 63 && isIn f.dst 0 63 &&
    (if f.kind = 0 then tokenOk f.token && f.gen == 0 && f.hop == 0 && f.bits == 0
     else if f.kind = 1 then tokenNone f.token && isIn f.gen 1 1099511627776 && isIn f.hop 0 1099511627776 && f.bits == 0
     else if f.kind = 2 then tokenNone f.token && isIn f.gen 1 1099511627776 && f.hop == 0
     else if f.kind = 3 then tokenNone f.token && f.gen == 0 && f.hop == 0 && f.bits == 0
     else false)

def sameInts (a b : List Int) : Bool := a.length == b.length && allTo (fun i => a.getD i 0 == b.getD i 0) a.length
def samePair (a b : Int × Int) : Bool := a.1 == b.1 && a.2 == b.2
def sameLeases (a b : List (Int × Int)) : Bool := allTo (fun i => samePair (a.getD i (0, 0)) (b.getD i (0, 0))) a.length
def sameRow (a b : Rw) : Bool := a.key == b.key && a.avail == b.avail && a.mark == b.mark && a.out.length == b.out.length && sameLeases a.out b.out
def sameTable (a b : Tb) : Bool := a.start == b.start && a.rows.length == b.rows.length && allTo (fun i => sameRow (a.rows.getD i noRow) (b.rows.getD i noRow)) a.rows.length
def sameToken (a b : Tk) : Bool := a.gen == b.gen && a.hop == b.hop && sameInts a.stamps b.stamps && sameTable a.table b.table
def sameFrame (a b : Fr) : Bool := a.kind == b.kind && a.src == b.src && a.dst == b.dst && a.gen == b.gen && a.hop == b.hop && a.bits == b.bits && sameToken a.token b.token

/-! The numbers of a token, in their order. -/
def leaseNums (l : List (Int × Int)) : List Int := l.flatMap fun x => [x.1, x.2]
def rowNums (r : Rw) : List Int := [r.key, r.avail, r.mark, (r.out.length : Int)] ++ leaseNums r.out
def headNums (t : Tk) : List Int := [t.gen, t.hop, (t.stamps.length : Int)]
def tokenNums (t : Tk) : List Int := headNums t ++ t.stamps.map (· + 1) ++ [t.table.start, (t.table.rows.length : Int)] ++ t.table.rows.flatMap rowNums
theorem len_leaseNums : ∀ l : List (Int × Int), (leaseNums l).length = 2 * l.length
  | [] => rfl
  | x :: l => by
    have := len_leaseNums l
    simp [leaseNums] at this ⊢
    omega
theorem leaseNums_take (l : List (Int × Int)) (j : Nat) (h : j < l.length) : leaseNums (l.take (j + 1)) = leaseNums (l.take j) ++ [(l.getD j (0, 0)).1, (l.getD j (0, 0)).2] := by
  have e : l.getD j (0, 0) = l[j] := by simp [List.getD, h]
  rw [e, List.take_succ_eq_append_getElem h]
  simp only [leaseNums, List.flatMap_append, List.flatMap_cons, List.flatMap_nil, List.append_nil]
theorem rows_take (l : List Rw) (j : Nat) (h : j < l.length) : (l.take (j + 1)).flatMap rowNums = (l.take j).flatMap rowNums ++ rowNums (l.getD j noRow) := by
  have e : l.getD j noRow = l[j] := by simp [List.getD, h]
  rw [e, List.take_succ_eq_append_getElem h]
  simp only [List.flatMap_append, List.flatMap_cons, List.flatMap_nil, List.append_nil]
theorem stamps_take (l : List Int) (j : Nat) (h : j < l.length) : (l.take (j + 1)).map (· + 1) = (l.take j).map (· + 1) ++ [l.getD j 0 + 1] := by
  have e : l.getD j 0 = l[j] := by simp [List.getD, h]
  rw [e, List.take_succ_eq_append_getElem h]
  simp only [List.map_append, List.map_cons, List.map_nil]
theorem len_rows_flat (l : List Rw) (hl : ∀ r ∈ l, r.out.length ≤ 64) : (l.flatMap rowNums).length ≤ 132 * l.length := by
  induction l with
  | nil => simp
  | cons r l ih =>
    have h1 := ih (fun x hx => hl x (by simp [hx]))
    have h2 := hl r (by simp)
    have h3 := len_leaseNums r.out
    simp [rowNums] at h1 h3 ⊢
    omega
end Go.Proofs.YtlbpeeelgpjciaaGreat.Frame

namespace Go.Proofs.YtlbpeeelgpjciaaGreat.Sat

/-- The end of time. -/
def top : Int := 4611686018427387904
def clamp (x lo hi : Int) : Int := if x < lo ∨ hi < lo then lo else if hi < x then hi else x
def fit (x : Int) : Int := if x < 0 then 0 else if top < x then top else x
def sum : List Int → Int
  | [] => 0
  | x :: r => fit x + sum r
def add (l : List Int) : Int := if top < sum l then top else sum l
def sub (a b : Int) : Int := fit (fit a - fit b)
def mul (a b : Int) : Int := if top < fit a * fit b then top else fit a * fit b
def ceil (a b : Int) : Int := if fit b = 0 then top else (fit a + fit b - 1) / fit b

theorem top_eq : top = 4611686018427387904 := rfl
theorem clamp_fit (x : Int) : clamp x 0 4611686018427387904 = fit x := by
  unfold clamp fit top
  by_cases h : x < 0
  · rw [if_pos (Or.inl h), if_pos h]
  · rw [if_neg (by omega), if_neg h]
theorem fit_lo (x : Int) : 0 ≤ fit x := by unfold fit top; split <;> (try split) <;> omega
theorem fit_hi (x : Int) : fit x ≤ 4611686018427387904 := by unfold fit top; split <;> (try split) <;> omega
theorem fit_self {x : Int} (h0 : 0 ≤ x) (h1 : x ≤ 4611686018427387904) : fit x = x := by
  unfold fit top; rw [if_neg (by omega), if_neg (by omega)]
theorem fit_fit (x : Int) : fit (fit x) = fit x := fit_self (fit_lo x) (fit_hi x)
theorem sum_lo (l : List Int) : 0 ≤ sum l := by
  induction l with
  | nil => exact Int.le_refl _
  | cons x r ih => have := fit_lo x; simp only [sum]; omega
theorem sum_append (a b : List Int) : sum (a ++ b) = sum a + sum b := by
  induction a with
  | nil => simp [sum]
  | cons x r ih => simp only [List.cons_append, sum, ih]; omega
theorem sum_two (a b : Int) : sum [a, b] = fit a + fit b := by simp [sum]
theorem add_lo (l : List Int) : 0 ≤ add l := by have := sum_lo l; unfold add top; split <;> omega
theorem add_hi (l : List Int) : add l ≤ 4611686018427387904 := by unfold add top; split <;> omega
theorem add_comm (a b : Int) : add [a, b] = add [b, a] := by
  unfold add; rw [sum_two, sum_two, Int.add_comm]
theorem mul_lo (a b : Int) : 0 ≤ mul a b := by
  have := Int.mul_nonneg (fit_lo a) (fit_lo b)
  unfold mul top; split <;> omega
theorem mul_hi (a b : Int) : mul a b ≤ 4611686018427387904 := by unfold mul top; split <;> omega
theorem mul_comm (a b : Int) : mul a b = mul b a := by unfold mul; rw [Int.mul_comm]
theorem fit_add (l : List Int) : fit (add l) = add l := fit_self (add_lo l) (add_hi l)
theorem sub_lo (a b : Int) : 0 ≤ sub a b := fit_lo _
theorem sub_hi (a b : Int) : sub a b ≤ 4611686018427387904 := fit_hi _
theorem ceil_lo (a b : Int) : 0 ≤ ceil a b := by
  have ha := fit_lo a; have hb := fit_lo b
  unfold ceil
  by_cases h : fit b = 0
  · rw [if_pos h]; decide
  · rw [if_neg h]; exact Int.ediv_nonneg (by omega) hb
theorem ceil_hi (a b : Int) : ceil a b ≤ 4611686018427387904 := by
  have ha := fit_lo a; have ha' := fit_hi a; have hb := fit_lo b
  unfold ceil
  by_cases h : fit b = 0
  · rw [if_pos h]; decide
  · rw [if_neg h]
    have h1 : 0 < fit b := by omega
    refine Int.le_trans ?_ ha'
    generalize fit b = y at *
    generalize fit a = x at *
    by_cases hx : x = 0
    · subst hx
      rw [Int.ediv_eq_zero_of_lt (by omega) (by omega)]; exact Int.le_refl _
    · have h2 : x + y - 1 < (x + 1) * y := by
        have h3 : x * 1 ≤ x * y := Int.mul_le_mul_of_nonneg_left (by omega) (by omega)
        rw [Int.add_mul]; omega
      have := Int.ediv_lt_of_lt_mul h1 h2
      omega
/-- The quotient rounded up, as the code finds it. -/
theorem ceil_code (x y : Int) (hy : 0 < y) :
    (x + y - 1) / y = if 0 < x % y then x / y + 1 else x / y := by
  have hm := Int.emod_nonneg x (by omega : y ≠ 0)
  have hl := Int.emod_lt_of_pos x hy
  have he := Int.mul_ediv_add_emod x y
  have e1 : x + y - 1 = (x % y + y - 1) + y * (x / y) := by omega
  rw [e1, Int.add_mul_ediv_left _ _ (by omega : y ≠ 0)]
  by_cases h : 0 < x % y
  · rw [if_pos h]
    have e2 : x % y + y - 1 = (x % y - 1) + y * 1 := by omega
    rw [e2, Int.add_mul_ediv_left _ _ (by omega : y ≠ 0), Int.ediv_eq_zero_of_lt (by omega) (by omega)]
    omega
  · rw [if_neg h, Int.ediv_eq_zero_of_lt (by omega) (by omega)]; omega
theorem ceil_mul (x y : Int) (hy : 0 < y) : x ≤ (x + y - 1) / y * y ∧ (x + y - 1) / y * y < x + y := by
  have he := Int.mul_ediv_add_emod (x + y - 1) y
  have hm := Int.emod_nonneg (x + y - 1) (by omega : y ≠ 0)
  have hl := Int.emod_lt_of_pos (x + y - 1) hy
  rw [Int.mul_comm] at he
  omega

/-! ### The law -/
theorem law_add (a b c : Int) : ¬ add [add [fit a, fit c], fit b] < add [a, b] := by
  have ha := fit_lo a; have hb := fit_lo b; have hc := fit_lo c
  have e : fit (add [fit a, fit c]) = add [fit a, fit c] := fit_add _
  unfold add at *
  rw [sum_two, sum_two] at *
  rw [sum_two, e, fit_fit, fit_fit, fit_fit]
  have h1 := fit_hi a
  unfold top
  repeat' split
  all_goals omega
theorem law_mul (a b c : Int) : ¬ mul (add [fit a, fit c]) (fit b) < mul a b := by
  have ha := fit_lo a; have hb := fit_lo b; have hc := fit_lo c; have h1 := fit_hi a
  have e : fit (add [fit a, fit c]) = add [fit a, fit c] := fit_add _
  have h : fit a ≤ add [fit a, fit c] := by
    unfold add; rw [sum_two, fit_fit, fit_fit]; unfold top; split <;> omega
  have hm := Int.mul_le_mul_of_nonneg_right h hb
  unfold mul
  rw [e, fit_fit]
  unfold top
  repeat' split
  all_goals omega
theorem law_sub (a b : Int) (h : add [a, b] < 4611686018427387904) : sub (add [a, b]) a = fit b := by
  have ha := fit_lo a; have hb := fit_lo b
  have e : fit (add [a, b]) = add [a, b] := fit_add _
  have hs : add [a, b] = fit a + fit b := by
    unfold add at h ⊢; rw [sum_two] at *; unfold top at *; split at h <;> rename_i h'
    · omega
    · rw [if_neg h']
  unfold sub
  rw [e, hs, show fit a + fit b - fit a = fit b from by omega, fit_fit]
theorem law_ceil_zero (a b : Int) (h : fit b = 0) : ceil a b = 4611686018427387904 := by
  unfold ceil; rw [if_pos h, top_eq]
theorem law_ceil (a b : Int) (h : 0 < fit b) (hne : mul (ceil a b) b ≠ 4611686018427387904) :
    fit a ≤ mul (ceil a b) b ∧ mul (ceil a b) b < add [fit a, fit b] := by
  have hq : fit (ceil a b) = ceil a b := fit_self (ceil_lo a b) (ceil_hi a b)
  have hk := ceil_mul (fit a) (fit b) h
  have hc : ceil a b = (fit a + fit b - 1) / fit b := by unfold ceil; rw [if_neg (by omega)]
  have hh := mul_hi (ceil a b) b
  have hm : mul (ceil a b) b = (fit a + fit b - 1) / fit b * fit b := by
    unfold mul at hne ⊢
    rw [hq, hc] at hne ⊢
    by_cases ht : top < (fit a + fit b - 1) / fit b * fit b
    · rw [if_pos ht] at hne; exact absurd top_eq hne
    · rw [if_neg ht]
  rw [hm] at hh hne ⊢
  refine ⟨hk.1, ?_⟩
  unfold add; rw [sum_two, fit_fit, fit_fit]; unfold top; split <;> omega
end Go.Proofs.YtlbpeeelgpjciaaGreat.Sat

namespace Go.Proofs.YtlbpeeelgpjciaaGreat.Ledger
open _root_.Go.Proofs.YtlbpeeelgpjciaaGreat.Frame (Rw Tb noRow)
open _root_.Go.Proofs.YtlbpeeelgpjciaaGreat.Sat (fit add sub mul)

/-- The place of the first one; -1: there is none. -/
def spot {α : Type} (f : α → Bool) : List α → Int
  | [] => -1
  | x :: l => if f x = true then 0 else if spot f l < 0 then -1 else spot f l + 1
theorem spot_at {α : Type} (f : α → Bool) (d : α) : ∀ (l : List α) (j : Nat), j < l.length → (∀ i, i < j → f (l.getD i d) = false) → f (l.getD j d) = true → spot f l = (j : Int)
  | [], j, hj, _, _ => by simp at hj
  | x :: l, 0, _, _, h => by
    have h' : f x = true := by simpa using h
    simp [spot, h']
  | x :: l, j + 1, hj, h0, h => by
    have hx : f x = false := by simpa using h0 0 (by omega)
    have := spot_at f d l j (by simpa using hj) (fun i hi => by simpa using h0 (i + 1) (by omega)) (by simpa using h)
    rw [spot, if_neg (by simp [hx]), this, if_neg (by omega)]
    omega
theorem spot_none {α : Type} (f : α → Bool) (d : α) : ∀ (l : List α), (∀ i, i < l.length → f (l.getD i d) = false) → spot f l = -1
  | [], _ => rfl
  | x :: l, h => by
    have hx : f x = false := by simpa using h 0 (by simp)
    have := spot_none f d l (fun i hi => by simpa using h (i + 1) (by simpa using hi))
    rw [spot, if_neg (by simp [hx]), this, if_pos (by omega)]
theorem spot_cases {α : Type} (f : α → Bool) (d : α) (l : List α) : (spot f l = -1 ∧ ∀ i, i < l.length → f (l.getD i d) = false) ∨ ∃ j : Nat, spot f l = (j : Int) ∧ j < l.length ∧ f (l.getD j d) = true ∧ ∀ i, i < j → f (l.getD i d) = false := by
  by_cases h : ∀ i, i < l.length → f (l.getD i d) = false
  · exact .inl ⟨spot_none f d l h, h⟩
  · right
    have hex : ∃ j, j < l.length ∧ f (l.getD j d) = true := by
      refine Classical.byContradiction fun hn => h fun i hi => ?_
      cases hf : f (l.getD i d) with
      | false => rfl
      | true => exact absurd ⟨i, hi, hf⟩ hn
    have : ∀ n, (∃ j, j ≤ n ∧ j < l.length ∧ f (l.getD j d) = true) → ∃ j, j < l.length ∧ f (l.getD j d) = true ∧ ∀ i, i < j → f (l.getD i d) = false := by
      intro n
      induction n with
      | zero =>
        rintro ⟨j, h0, h1, h2⟩
        exact ⟨j, h1, h2, fun i hi => by omega⟩
      | succ n ih =>
        rintro ⟨j, h0, h1, h2⟩
        by_cases hm : ∃ j, j ≤ n ∧ j < l.length ∧ f (l.getD j d) = true
        · exact ih hm
        · refine ⟨j, h1, h2, fun i hi => ?_⟩
          cases hf : f (l.getD i d) with
          | false => rfl
          | true => exact absurd ⟨i, by omega, by omega, hf⟩ hm
    obtain ⟨j, h1, h2⟩ := hex
    obtain ⟨k, k1, k2, k3⟩ := this j ⟨j, Nat.le_refl _, h1, h2⟩
    exact ⟨k, spot_at f d l k k1 k3 k2, k1, k2, k3⟩

/-- The place of a key's row, of a node's lease. -/
def place (l : List Rw) (key : Int) : Int := spot (fun r => r.key == key) l
def outAt (l : List (Int × Int)) (node : Int) : Int := spot (fun x => x.1 == node) l
/-- A key's row. -/
def findRow (t : Tb) (key : Int) : Rw := if place t.rows key < 0 then ⟨key, 0, t.start, []⟩ else t.rows.getD (place t.rows key).toNat noRow
def findIs (t : Tb) (key : Int) : Bool := decide (0 ≤ place t.rows key)
/-- A row's total. -/
def total (r : Rw) : Int := add (r.avail :: r.out.map (·.2))
/-- A row, minted. -/
def minted (r : Rw) (now R B : Int) : Rw := ⟨r.key, add [r.avail, min (mul R (sub now r.mark)) (sub B (total r))], max r.mark now, r.out⟩
def look (t : Tb) (key now R B : Int) : Rw := minted (findRow t key) now R B
/-- A table's rows with another one, by keys: how far it is. -/
def setStep (r : Rw) (s : List Rw × Bool) (x : Rw) : List Rw × Bool := ((if s.2 = false ∧ r.key ≤ x.key then s.1 ++ [r] else s.1) ++ (if x.key = r.key then [] else [x]), s.2 || decide (r.key ≤ x.key))
def setTo (r : Rw) (l : List Rw) : List Rw × Bool := l.foldl (setStep r) ([], false)
def setRows (l : List Rw) (r : Rw) : List Rw := if (setTo r l).2 = true then (setTo r l).1 else (setTo r l).1 ++ [r]
def setRow (t : Tb) (r : Rw) : Tb := ⟨t.start, setRows t.rows r⟩
theorem setTo_take (r : Rw) (l : List Rw) (k : Nat) (h : k < l.length) : setTo r (l.take (k + 1)) = setStep r (setTo r (l.take k)) (l.getD k noRow) := by
  have e : l.getD k noRow = l[k] := by simp [List.getD, h]
  rw [e, List.take_succ_eq_append_getElem h]
  simp only [setTo, List.foldl_append, List.foldl_cons, List.foldl_nil]
/-- One, if it is not in yet. -/
def rest : Bool → Nat
  | true => 0
  | false => 1
theorem setTo_rest (r : Rw) : ∀ (l : List Rw) (s : List Rw × Bool), (l.foldl (setStep r) s).1.length + rest (l.foldl (setStep r) s).2 ≤ s.1.length + rest s.2 + l.length
  | [], s => Nat.le_refl _
  | x :: l, (a, b) => by
    refine Nat.le_trans (setTo_rest r l _) ?_
    simp only [setStep, List.length_append, List.length_cons]
    cases b <;> by_cases h1 : r.key ≤ x.key <;> by_cases h2 : x.key = r.key <;> simp [h1, h2, rest] <;> omega
theorem setTo_len (r : Rw) (l : List Rw) : (setTo r l).1.length + rest (setTo r l).2 ≤ l.length + 1 := by
  have : (l.foldl (setStep r) ([], false)).1.length + rest (l.foldl (setStep r) ([], false)).2 ≤ 0 + 1 + l.length := setTo_rest r l ([], false)
  unfold setTo
  omega
theorem setRows_len (l : List Rw) (r : Rw) : (setRows l r).length ≤ l.length + 1 := by
  have := setTo_len r l
  unfold setRows
  split
  · omega
  · rename_i h
    rw [Bool.not_eq_true] at h
    rw [h] at this
    simp only [rest] at this
    simp
    omega
end Go.Proofs.YtlbpeeelgpjciaaGreat.Ledger

namespace Go.Proofs.YtlbpeeelgpjciaaGreat.Lease
open _root_.Go.Proofs.YtlbpeeelgpjciaaGreat.Ledger (spot spot_at spot_none spot_cases)

structure Lz where
  key : Int
  gen : Int
  amount : Int
  spent : Int
  til : Int
def z : Lz := ⟨0, 0, 0, 0, 0⟩
def Num (x : Int) : Prop := -9223372036854775808 ≤ x ∧ x ≤ 9223372036854775807
def Nums (x : Lz) : Prop := Num x.key ∧ Num x.gen ∧ Num x.amount ∧ Num x.spent ∧ Num x.til
/-- The place of a key's; -1: there is none. -/
def place (l : List Lz) (k : Int) : Int := spot (fun x => x.key == k) l
def the (l : List Lz) (k : Int) : Lz := l.getD (place l k).toNat z
def wrong (x : Lz) : Prop := x.gen < 1 ∨ x.amount < 1 ∨ x.spent ≠ 0 ∨ x.til < 0
instance (x : Lz) : Decidable (wrong x) := by unfold wrong; infer_instance
def ins (x : Lz) : List Lz → List Lz
  | [] => [x]
  | y :: l => if x.key < y.key then x :: y :: l else y :: ins x l
def put (l : List Lz) (x : Lz) : List Lz × Int := if wrong x then (l, 1) else if 0 ≤ place l x.key then (l, 5) else (ins x l, 0)
def left (l : List Lz) (k now : Int) : Int := if place l k < 0 ∨ (the l k).til ≤ now then 0 else (the l k).amount - (the l k).spent
def more (x : Lz) (c : Int) : Lz := ⟨x.key, x.gen, x.amount, x.spent + c, x.til⟩
def spend (l : List Lz) (k c now : Int) : List Lz × Int × Bool := if c < 1 ∨ left l k now < c then (l, 0, false) else (l.set (place l k).toNat (more (the l k) c), (the l k).gen, true)
def close (l : List Lz) (k g : Int) : List Lz × Int := if place l k < 0 then (l, -1) else (l.eraseIdx (place l k).toNat, if (the l k).gen = g then (the l k).spent else -1)
def elder (g : Int) (x : Lz) : Bool := decide (x.gen < g)
def drop (l : List Lz) (g : Int) : List Lz × Int := (l.filter fun x => !elder g x, (l.countP (elder g) : Int))

/-- What a wallet keeps. -/
structure Good (l : List Lz) : Prop where
  rise : l.Pairwise fun a b => a.key < b.key
  each : ∀ x ∈ l, 0 ≤ x.spent ∧ x.spent ≤ x.amount ∧ Nums x

theorem good_nil : Good [] := ⟨.nil, fun x h => by cases h⟩
theorem place_some {l : List Lz} {k : Int} (h : 0 ≤ place l k) : (place l k).toNat < l.length ∧ (the l k).key = k ∧ the l k ∈ l := by
  unfold the
  rcases spot_cases (fun x : Lz => x.key == k) z l with ⟨e, -⟩ | ⟨j, e, hj, hk, -⟩
  · unfold place at h; omega
  · have e' : (place l k).toNat = j := by unfold place; omega
    rw [e']
    refine ⟨hj, by simpa using hk, ?_⟩
    simp [List.getD, hj]
theorem place_none {l : List Lz} {k : Int} (h : place l k < 0) : ∀ x ∈ l, x.key ≠ k := by
  rcases spot_cases (fun x : Lz => x.key == k) z l with ⟨-, e⟩ | ⟨j, e, -⟩
  · intro x hx
    obtain ⟨i, hi, rfl⟩ := List.getElem_of_mem hx
    have := e i hi
    simpa [List.getD, hi] using this
  · unfold place at h; omega
theorem mem_ins {x y : Lz} : ∀ {l : List Lz}, y ∈ ins x l → y = x ∨ y ∈ l
  | [], h => by simpa [ins] using h
  | a :: l, h => by
    unfold ins at h
    split at h
    · simpa using h
    · rcases List.mem_cons.1 h with h | h
      · exact .inr (by simp [h])
      · rcases mem_ins h with h | h
        · exact .inl h
        · exact .inr (by simp [h])
theorem rise_ins {x : Lz} : ∀ {l : List Lz}, (l.Pairwise fun a b => a.key < b.key) → (∀ y ∈ l, y.key ≠ x.key) → (ins x l).Pairwise fun a b => a.key < b.key
  | [], _, _ => by simp [ins]
  | a :: l, h, hn => by
    have h' := List.pairwise_cons.1 h
    unfold ins
    split
    · rename_i hlt
      refine List.pairwise_cons.2 ⟨fun y hy => ?_, h⟩
      rcases List.mem_cons.1 hy with rfl | hy
      · exact hlt
      · exact Int.lt_trans hlt (h'.1 y hy)
    · rename_i hlt
      have hne := hn a (by simp)
      refine List.pairwise_cons.2 ⟨fun y hy => ?_, rise_ins h'.2 fun y hy => hn y (by simp [hy])⟩
      rcases mem_ins hy with rfl | hy
      · omega
      · exact h'.1 y hy
theorem len_ins (x : Lz) : ∀ l : List Lz, (ins x l).length = l.length + 1
  | [] => rfl
  | a :: l => by
    unfold ins
    split
    · rfl
    · simp [len_ins x l]
theorem good_put {l : List Lz} (h : Good l) {x : Lz} (hx : Nums x) : Good (put l x).1 := by
  unfold put
  split
  · exact h
  · split
    · exact h
    · rename_i hw hp
      unfold wrong at hw
      refine ⟨rise_ins h.rise (place_none (by omega)), fun y hy => ?_⟩
      rcases mem_ins hy with rfl | hy
      · exact ⟨by omega, by omega, hx⟩
      · exact h.each y hy
theorem len_put (l : List Lz) (x : Lz) : (put l x).1.length ≤ l.length + 1 := by
  unfold put
  split
  · simp
  · split
    · simp
    · simp [len_ins]
theorem left_le {l : List Lz} (h : Good l) (k now : Int) : 0 ≤ left l k now ∧ Num (left l k now) := by
  unfold left
  split
  · exact ⟨by omega, by unfold Num; omega⟩
  · rename_i hn
    obtain ⟨-, -, hm⟩ := place_some (l := l) (k := k) (by omega)
    obtain ⟨h0, h1, h2⟩ := h.each _ hm
    unfold Nums Num at *
    omega
theorem left_some {l : List Lz} {k c now : Int} (h : ¬ (c < 1 ∨ left l k now < c)) : 0 ≤ place l k ∧ now < (the l k).til ∧ c ≤ (the l k).amount - (the l k).spent ∧ 1 ≤ c := by
  unfold left at h
  split at h
  · omega
  · omega
theorem good_spend {l : List Lz} (h : Good l) (k c now : Int) : Good (spend l k c now).1 := by
  unfold spend
  split
  · exact h
  · rename_i hn
    obtain ⟨hp, -, h1, h2⟩ := left_some hn
    obtain ⟨hj, hk, hm⟩ := place_some hp
    have hg := h.each _ hm
    have hx : the l k = l[(place l k).toNat] := by unfold the; simp [List.getD, hj]
    refine ⟨?_, fun y hy => ?_⟩
    · have hr := h.rise
      rw [List.pairwise_iff_getElem] at hr ⊢
      intro i j hi hj' hij
      rw [List.length_set] at hi hj'
      have := hr i j hi hj' hij
      simp only [List.getElem_set]
      have hkey : (more (the l k) c).key = l[(place l k).toNat].key := by rw [← hx]; rfl
      by_cases e1 : (place l k).toNat = i
      · subst e1
        rw [if_pos rfl, if_neg (by omega), hkey]
        exact this
      · rw [if_neg e1]
        by_cases e2 : (place l k).toNat = j
        · subst e2
          rw [if_pos rfl, hkey]
          exact this
        · rw [if_neg e2]
          exact this
    · rcases List.mem_or_eq_of_mem_set hy with hy | rfl
      · exact h.each y hy
      · obtain ⟨g0, g1, g2⟩ := hg
        unfold Nums Num at *
        refine ⟨?_, ?_, ?_, ?_, ?_, ?_, ?_⟩ <;> simp only [more] <;> omega
theorem len_spend (l : List Lz) (k c now : Int) : (spend l k c now).1.length = l.length := by
  unfold spend
  split <;> simp
theorem good_close {l : List Lz} (h : Good l) (k g : Int) : Good (close l k g).1 := by
  unfold close
  split
  · exact h
  · exact ⟨h.rise.sublist (List.eraseIdx_sublist _ _), fun x hx => h.each x ((List.eraseIdx_sublist _ _).subset hx)⟩
theorem len_close (l : List Lz) (k g : Int) : (close l k g).1.length ≤ l.length := by
  unfold close
  split
  · simp
  · exact (List.eraseIdx_sublist _ _).length_le
theorem good_drop {l : List Lz} (h : Good l) (g : Int) : Good (drop l g).1 :=
  ⟨h.rise.sublist List.filter_sublist, fun x hx => h.each x (List.mem_filter.1 hx).1⟩
theorem len_drop (l : List Lz) (g : Int) : (drop l g).1.length ≤ l.length := List.length_filter_le _ _
end Go.Proofs.YtlbpeeelgpjciaaGreat.Lease

namespace Go.Proofs.YtlbpeeelgpjciaaGreat.Queue
open _root_.Go.Proofs.YtlbpeeelgpjciaaGreat.Ledger (spot spot_at spot_none spot_cases)
open _root_.Go.Proofs.YtlbpeeelgpjciaaGreat.Sat (add)

structure It where
  id : Int
  key : Int
  cost : Int
  cls : Int
  til : Int
def z : It := ⟨0, 0, 0, 0, 0⟩
def Num (x : Int) : Prop := -9223372036854775808 ≤ x ∧ x ≤ 9223372036854775807
def Nums (x : It) : Prop := Num x.id ∧ Num x.key ∧ Num x.cost ∧ Num x.cls ∧ Num x.til
/-- The place of a name's; -1: there is none. -/
def place (l : List It) (i : Int) : Int := spot (fun x => x.id == i) l
def the (l : List It) (i : Int) : It := l.getD (place l i).toNat z
def wrong (x : It) : Prop := x.cost < 1 ∨ x.cls < 0 ∨ 2 < x.cls ∨ x.til < 0
instance (x : It) : Decidable (wrong x) := by unfold wrong; infer_instance
def put (room : Int) (l : List It) (x : It) : List It × Int := if wrong x then (l, 1) else if 0 ≤ place l x.id then (l, 5) else if room ≤ l.length then (l, 3) else (l ++ [x], 0)
def isOf (k c : Int) (x : It) : Bool := x.key == k && x.cls == c
def ofc (l : List It) (k c : Int) : List It := l.filter (isOf k c)
def of (l : List It) (k : Int) : List It := ofc l k 0 ++ ofc l k 1 ++ ofc l k 2
def take (l : List It) (i : Int) : List It × It × Bool := if place l i < 0 then (l, z, false) else (l.eraseIdx (place l i).toNat, the l i, true)
def due (now : Int) (x : It) : Bool := decide (x.til ≤ now)
def expire (l : List It) (now : Int) : List It × List It := (l.filter fun x => !due now x, l.filter (due now))
def kstep (k : Int) (s : List Int × Bool) (a : Int) : List Int × Bool :=
  if s.2 = false ∧ k ≤ a then (if a = k then s.1 ++ [k] else s.1 ++ [k] ++ [a], true) else (if a = k then s.1 else s.1 ++ [a], s.2)
def kfold (k : Int) (l : List Int) : List Int × Bool := l.foldl (kstep k) ([], false)
def kput (k : Int) (l : List Int) : List Int := if (kfold k l).2 = true then (kfold k l).1 else (kfold k l).1 ++ [k]
def keys (l : List It) : List Int := l.foldl (fun s x => kput x.key s) []
def sums (l : List It) : Int := l.foldl (fun s x => add [s, x.cost]) 0
def sum (l : List It) (k : Int) : Int := sums (of l k)

/-- What a queue keeps. -/
structure Good (room : Int) (l : List It) : Prop where
  room : (l.length : Int) ≤ room
  names : l.Pairwise fun a b => a.id ≠ b.id
  each : ∀ x ∈ l, ¬ wrong x ∧ Nums x
theorem good_nil {room : Int} (h : 0 ≤ room) : Good room [] := ⟨by simpa using h, .nil, fun x h => by cases h⟩
theorem place_some {l : List It} {k : Int} (h : 0 ≤ place l k) : (place l k).toNat < l.length ∧ (the l k).id = k ∧ the l k ∈ l := by
  unfold the
  rcases spot_cases (fun x : It => x.id == k) z l with ⟨e, -⟩ | ⟨j, e, hj, hk, -⟩
  · unfold place at h; omega
  · have e' : (place l k).toNat = j := by unfold place; omega
    rw [e']
    refine ⟨hj, by simpa using hk, ?_⟩
    simp [List.getD, hj]
theorem place_none {l : List It} {k : Int} (h : place l k < 0) : ∀ x ∈ l, x.id ≠ k := by
  rcases spot_cases (fun x : It => x.id == k) z l with ⟨-, e⟩ | ⟨j, e, -⟩
  · intro x hx
    obtain ⟨i, hi, rfl⟩ := List.getElem_of_mem hx
    have := e i hi
    simpa [List.getD, hi] using this
  · unfold place at h; omega
theorem place_ge (l : List It) (k : Int) : -1 ≤ place l k ∧ place l k < l.length := by
  unfold place
  rcases spot_cases (fun x : It => x.id == k) z l with ⟨e, -⟩ | ⟨j, e, hj, -⟩ <;> omega
theorem good_put {room : Int} {l : List It} (h : Good room l) {x : It} (hx : Nums x) : Good room (put room l x).1 := by
  unfold put
  split
  · exact h
  · split
    · exact h
    · split
      · exact h
      · rename_i hw hp hr
        refine ⟨by simp; omega, ?_, fun y hy => ?_⟩
        · rw [List.pairwise_append]
          refine ⟨h.names, by simp, fun a ha b hb => ?_⟩
          rw [List.mem_singleton.1 hb]
          exact place_none (by omega) a ha
        · rcases List.mem_append.1 hy with hy | hy
          · exact h.each y hy
          · rw [List.mem_singleton.1 hy]
            exact ⟨hw, hx⟩
theorem good_sub {room : Int} {l m : List It} (h : Good room l) (s : List.Sublist m l) : Good room m :=
  ⟨by have := s.length_le; have := h.room; omega, h.names.sublist s, fun x hx => h.each x (s.subset hx)⟩
theorem good_take {room : Int} {l : List It} (h : Good room l) (i : Int) : Good room (take l i).1 := by
  unfold take
  split
  · exact h
  · exact good_sub h (List.eraseIdx_sublist _ _)
theorem good_expire {room : Int} {l : List It} (h : Good room l) (now : Int) : Good room (expire l now).1 := good_sub h List.filter_sublist
theorem ofc_len (l : List It) (k c : Int) : (ofc l k c).length ≤ l.length := List.length_filter_le _ _
theorem of_len : ∀ (l : List It) (k : Int), (of l k).length ≤ l.length
  | [], _ => by simp [of, ofc]
  | x :: l, k => by
    have ih := of_len l k
    simp only [of, ofc, List.length_append, List.filter_cons] at ih ⊢
    by_cases hk : x.key = k
    · by_cases h0 : x.cls = 0
      · simp [isOf, hk, h0] at ih ⊢; omega
      · by_cases h1 : x.cls = 1
        · simp [isOf, hk, h1] at ih ⊢; omega
        · by_cases h2 : x.cls = 2
          · simp [isOf, hk, h2] at ih ⊢; omega
          · simp [isOf, hk, h0, h1, h2] at ih ⊢; omega
    · simp [isOf, hk] at ih ⊢; omega
theorem kstep_len (k : Int) (s : List Int × Bool) (a : Int) : (kstep k s a).1.length + (if (kstep k s a).2 = true then 0 else 1) ≤ s.1.length + (if s.2 = true then 0 else 1) + 1 := by
  obtain ⟨l, d⟩ := s
  unfold kstep
  cases d <;> simp only <;> repeat' split <;> simp_all
theorem kfold_snoc (k : Int) (l : List Int) (a : Int) : kfold k (l ++ [a]) = kstep k (kfold k l) a := by unfold kfold; rw [List.foldl_append]; rfl
theorem kfold_len (k : Int) (l : List Int) : (kfold k l).1.length + (if (kfold k l).2 = true then 0 else 1) ≤ l.length + 1 := by
  suffices h : ∀ (l : List Int) (s : List Int × Bool), (l.foldl (kstep k) s).1.length + (if (l.foldl (kstep k) s).2 = true then 0 else 1) ≤ s.1.length + (if s.2 = true then 0 else 1) + l.length by
    have := h l ([], false)
    unfold kfold
    simp at this ⊢
    omega
  intro l
  induction l with
  | nil => intro s; exact Nat.le_refl _
  | cons a l ih =>
    intro s
    have h1 := ih (kstep k s a)
    have h2 := kstep_len k s a
    rw [List.foldl_cons, List.length_cons]
    omega
theorem kput_len (k : Int) (l : List Int) : (kput k l).length ≤ l.length + 1 := by
  have := kfold_len k l
  unfold kput
  split
  · rename_i h
    rw [if_pos h] at this
    omega
  · rename_i h
    rw [if_neg h] at this
    simp
    omega
theorem keys_len (l : List It) : (keys l).length ≤ l.length := by
  suffices h : ∀ (l : List It) (s : List Int), (l.foldl (fun s x => kput x.key s) s).length ≤ s.length + l.length by
    have := h l []
    simp only [List.length_nil, Nat.zero_add] at this
    exact this
  intro l
  induction l with
  | nil => intro s; simp
  | cons a l ih =>
    intro s
    have h1 := ih (kput a.key s)
    have h2 := kput_len a.key s
    rw [List.foldl_cons, List.length_cons]
    omega
theorem keys_snoc (l : List It) (x : It) : keys (l ++ [x]) = kput x.key (keys l) := by unfold keys; rw [List.foldl_append]; rfl
theorem sums_snoc (l : List It) (x : It) : sums (l ++ [x]) = add [sums l, x.cost] := by unfold sums; rw [List.foldl_append]; rfl
end Go.Proofs.YtlbpeeelgpjciaaGreat.Queue
