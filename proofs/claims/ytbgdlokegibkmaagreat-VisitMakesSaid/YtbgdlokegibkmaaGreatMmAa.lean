/-
  Plain facts on the numbers of the layer sat: fit, sums, products, differences and quotients that do not run over are in order. No condition.
  Numbers as bytes, plain: the eight bytes of a number from 0 to 2^64 less 1, the highest first, and the number of bytes; each is the other's answer. No program; no conditions beyond those that each names.
  Words for memory: a slice whose cells are bytes; a block of a struct of two fields, a slice of bytes and a bool; what of it stays behind a call. Any program, any types; no conditions beyond those that each names.
  Frames, plain: leases, rows, tables, tokens and frames as data; which of them may be, and which are the same, by the document's own order of asking. No program; no conditions.
  Tables, plain: a key's row, its total, minted; a table with another row; what is out. No program; no conditions beyond those that each names.
  Sets of nodes as plain functions on whole numbers (only, has, put, cut, all, count, nodes, next, maj), and what they have to do with one another; no program is named. Conditions: a set is from 0 to 2^64 less 1.
  Plain facts on keys and ballots of the layer conf: what is from one number to another, whose a ballot is, and the least ballot of a node above a number. No condition.
  Words for memory: a slice of leases, a slice of rows, each with its leases; what stays. Any program; no conditions beyond those that each names.
  Leases as data, and what a wallet of them does: find, put, left, spend, close, drop; what such a wallet keeps. Plain functions, no program.
  Items as data, and what a queue of them does: put, take, expire, of, keys, sum; what such a queue keeps. Plain functions, no program.
  Numbers in order, and the m-th greatest, plain. No program.
  The m-th greatest of some numbers: fewer than m are more, at least m are that or more, and no other number is so; plain facts, no program is named. Condition: m is from 1 to as many as there are.
  Tokens, plain: which place is newer, a new token, till when a token is valid; a majority has stamped one that is valid. No program.
  The plain calls of package ring (only, Has, With, Without, isRing, All, Majority) and of the document's answers (Has, With, Without, Right, All, Majority) return what the plain functions of RingPlain give, and leave the world as it was; any ints, any set from 0 to 2^64 less 1.
  The calls of package conf on numbers alone (within, isRing, Right, Key, Owner, Next) and the document's answers (Right, Owner, Next) return what the plain functions of ConfPlain give, and leave the world as it was; any ints.
  Words for memory: leases, the document's wallet, what lies of it, and what a step of it leaves alone. No conditions beyond those that each names.
  The document's wallet as one cell of a bigger block (at ov): what lies of it, and what a step of it leaves alone. No conditions beyond those that each names.
-/
import Derived.WalkKit
import Derived.ProofKit
import Derived.Lib.Hide
import Derived.IntWalk
import Derived.Deep.AppendLies
import Derived.Laws.BytesArg
import Derived.Outline
import Derived.Laws.AppendOwnNone
import Derived.Test.YtbgdlokegibkmaaGreatChecked
namespace Go.Proofs.YtbgdlokegibkmaaGreat.Sat
/-- The end of time. -/
def top : Int := 4611686018427387904
def clamp (x lo hi : Int) : Int := if x < lo ∨ hi < lo then lo else if hi < x then hi else x
def fit (x : Int) : Int := if x < 0 then 0 else if top < x then top else x
def sum : List Int → Int
  | [] => 0
  | x :: r => fit x + sum r
def add (l : List Int) : Int := if top < sum l then top else sum l
def sub (a b : Int) : Int := fit (fit a - fit b)
def mul (a b : Int) : Int := if top < fit a * fit b then top else fit a * fit b
theorem clamp_fit (x : Int) : clamp x 0 4611686018427387904 = fit x := by
  unfold clamp fit top
  by_cases h : x < 0
  · rw [if_pos (Or.inl h), if_pos h]
  · rw [if_neg (by omega), if_neg h]
theorem fit_lo (x : Int) : 0 ≤ fit x := by unfold fit top; split <;> (try split) <;> omega
theorem fit_hi (x : Int) : fit x ≤ 4611686018427387904 := by unfold fit top; split <;> (try split) <;> omega
theorem fit_self {x : Int} (h0 : 0 ≤ x) (h1 : x ≤ 4611686018427387904) : fit x = x := by
  unfold fit top; rw [if_neg (by omega), if_neg (by omega)]
theorem sum_lo (l : List Int) : 0 ≤ sum l := by
  induction l with
  | nil => exact Int.le_refl _
  | cons x r ih => have := fit_lo x; simp only [sum]; omega
theorem sum_append (a b : List Int) : sum (a ++ b) = sum a + sum b := by
  induction a with
  | nil => simp [sum]
  | cons x r ih => simp only [List.cons_append, sum, ih]; omega
theorem sum_two (a b : Int) : sum [a, b] = fit a + fit b := by simp [sum]
theorem add_lo (l : List Int) : 0 ≤ add l := by have := sum_lo l; unfold add top; split <;> omega
theorem add_hi (l : List Int) : add l ≤ 4611686018427387904 := by unfold add top; split <;> omega
theorem fit_add (l : List Int) : fit (add l) = add l := fit_self (add_lo l) (add_hi l)
/-! ### The law -/
end Go.Proofs.YtbgdlokegibkmaaGreat.Sat

namespace Go.Proofs.YtbgdlokegibkmaaGreat.Codec
/-- The number of bytes. -/
def num (bs : List Int) : Int := bs.foldl (fun a b => a * 256 + b) 0
/-! What a reader does: what is left, and whether it failed; the program's (p..), and the document's (r..). -/
def over (m x : Int) : Bool := decide (4611686018427387904 < x ∨ m < x)
/-- May each be a number? -/
def good (x : Int) : Bool := decide (0 ≤ x ∧ x ≤ 4611686018427387904)
end Go.Proofs.YtbgdlokegibkmaaGreat.Codec

namespace Go.Proofs.YtbgdlokegibkmaaGreat.Codec
open Go.RowKit
/-- Cells of bytes. -/
def cells8 (xs : List Int) : List Value := xs.map (Value.int .u8)
theorem add_at (b o j : Nat) : (⟨b, o, none⟩ : Addr).add j = ⟨b, o + j, none⟩ := by
  unfold Addr.add
  split <;> simp_all
/-- The same, in a block of type E. -/
def Lies (E : TypeId) (w : World) (p : Option Addr) (xs : List Int) : Prop :=
  xs = [] ∨ ∃ g o cs z, p = some ⟨g, o, none⟩ ∧ w.heap[g]? = some (.cells cs E z) ∧ ∀ j, j < xs.length → cs[o + j]? = some (.int .u8 (xs.getD j 0))
/-- Blocks of type E stay. -/
def Stays (E : TypeId) (w w' : World) : Prop := ∀ (g : Nat) (cs : Array Value) (z : Nat × Nat), w.heap[g]? = some (Obj.cells cs E z) → w'.heap[g]? = some (Obj.cells cs E z)
section
variable {w w' w'' : World} {E T : TypeId}
theorem lt_of_heap {g : Nat} {o : Obj} (h : w.heap[g]? = some o) : g < w.heap.size := (Array.getElem?_eq_some_iff.1 h).1
theorem Stays.below (hb : Below w.heap.size w w') : Stays E w w' := fun g _ _ h => (hb.block g (lt_of_heap h)).trans h
theorem Stays.grown {b : Nat} {cs : Array Value} {z : Nat × Nat} (hb : w.heap[b]? = some (.cells cs T z)) (hT : T ≠ E) (hg : w.grownBy w' (some b)) : Stays E w w' := by
  intro g ds y h
  refine (hg.block g (lt_of_heap h) ?_).trans h
  intro e
  simp only [Option.some.injEq] at e
  subst e
  rw [h] at hb
  simp only [Option.some.injEq, Obj.cells.injEq] at hb
  exact hT hb.2.1.symm
/-- What a call owns it owns on, if what lay lies. -/
theorem own_below {base size n : Nat} {e : TypeId} {v : Value} {xs : List Value} (h : w.ownsRow base e size v n xs) (hb : Below w.heap.size w w') : w'.ownsRow base e size v n xs := by
  refine ⟨h.1, ?_⟩
  rcases h.2 with h0 | ⟨g, cap, cur, rfl, h1, h2, h3⟩
  · exact .inl h0
  · exact .inr ⟨g, cap, cur, rfl, h1, (hb.block g (lt_of_heap h2)).trans h2, h3⟩
theorem own_lower {base base' size n : Nat} {e : TypeId} {v : Value} {xs : List Value} (h : w.ownsRow base e size v n xs) (hb : base' ≤ base) : w.ownsRow base' e size v n xs := by
  refine ⟨h.1, ?_⟩
  rcases h.2 with h0 | ⟨g, cap, cur, rfl, h1, h2⟩
  · exact .inl h0
  · exact .inr ⟨g, cap, cur, rfl, by omega, h2⟩
/-- A slice whose cells are the ints zs. -/
def Ints (w : World) (p : Option Addr) (zs : List Int) : Prop :=
  zs = [] ∨ ∃ b o, p = some ⟨b, o, none⟩ ∧ ∀ j, j < zs.length → w.cell? ⟨b, o + j, none⟩ = some (.int .i64 (zs.getD j 0))
theorem Ints.below {p : Option Addr} {zs : List Int} (h : Ints w p zs) (hb : Below w.heap.size w w') : Ints w' p zs := by
  rcases h with h | ⟨b, o, e, hc⟩
  · exact .inl h
  · exact .inr ⟨b, o, e, fun j hj => (hb.cell (p := ⟨b, o + j, none⟩) (World.block_lt_of_cell? _ _ (hc j hj))).trans (hc j hj)⟩
theorem frozen_of {b o : Nat} {cs : Array Value} (h : w.heap[b]? = some (.cells cs T (0, 0))) : w.frozen? ⟨b, o, none⟩ = false := by
  simp [World.frozen?, h]
theorem grown_set (b o : Nat) (u : Value) : w.grownBy (w.setCell ⟨b, o, none⟩ u) (some b) :=
  ⟨rfl, rfl, rfl, by simp [World.setCell], fun k _ hk => Below.heap_setCell _ _ _ _ (by simpa using hk)⟩
theorem heap_set (b o : Nat) (cs : Array Value) (u : Value) (h : w.heap[b]? = some (.cells cs T (0, 0))) : (w.setCell ⟨b, o, none⟩ u).heap[b]? = some (.cells (cs.setIfInBounds o u) T (0, 0)) := by
  simp [World.setCell, Array.getElem?_modify, h]
end
end Go.Proofs.YtbgdlokegibkmaaGreat.Codec

namespace Go.Proofs.YtbgdlokegibkmaaGreat.Frame
structure Rw where
  key : Int
  avail : Int
  mark : Int
  out : List (Int × Int)
structure Tb where
  start : Int
  rows : List Rw
structure Tk where
  gen : Int
  hop : Int
  stamps : List Int
  table : Tb
instance : Inhabited Rw := ⟨⟨0, 0, 0, []⟩⟩
def noRow : Rw := ⟨0, 0, 0, []⟩
/-- Does it hold of all below n? -/
def allTo (f : Nat → Bool) (n : Nat) : Bool := (List.range n).all f
theorem allTo_true {f : Nat → Bool} {n : Nat} (h : ∀ j, j < n → f j = true) : allTo f n = true := by
  rw [allTo, List.all_eq_true]
  intro j hj
  exact h j (List.mem_range.1 hj)
theorem allTo_false {f : Nat → Bool} {n k : Nat} (hk : k < n) (h : f k = false) : allTo f n = false := by
  rw [allTo, List.all_eq_false]
  exact ⟨k, List.mem_range.2 hk, by rw [h]; simp⟩
def isIn (x lo hi : Int) : Bool := decide (lo ≤ x ∧ x ≤ hi)
theorem isIn_yes {x lo hi : Int} (h : isIn x lo hi = true) : lo ≤ x ∧ x ≤ hi := by simpa [isIn] using h
theorem isIn_no {x lo hi : Int} (h : isIn x lo hi = false) : x < lo ∨ (lo ≤ x ∧ hi < x) := by
  simp [isIn] at h
  omega
def isKey (k : Int) : Bool := decide (0 ≤ k ∧ k < 524288)
def leaseAt (l : List (Int × Int)) (i : Nat) : Bool := isIn (l.getD i (0, 0)).1 0 63 && isIn (l.getD i (0, 0)).2 1 2147483648 && (i == 0 || decide ((l.getD (i - 1) (0, 0)).1 < (l.getD i (0, 0)).1))
def rowOk (r : Rw) (start : Int) : Bool := isKey r.key && isIn r.avail 0 2147483648 && isIn r.mark start 4611686018427387904 && decide (r.out.length ≤ 64) && allTo (leaseAt r.out) r.out.length
def rowAt (l : List Rw) (start : Int) (i : Nat) : Bool := rowOk (l.getD i noRow) start && (i == 0 || decide ((l.getD (i - 1) noRow).key < (l.getD i noRow).key))
def tableOk (t : Tb) : Bool := isIn t.start 0 4611686018427387904 && decide (t.rows.length ≤ 16) && allTo (rowAt t.rows t.start) t.rows.length
def stampsOk (l : List Int) (n : Nat) : Bool := allTo (fun i => isIn (l.getD i 0) (-1) 4611686018427387903) n
def tokenHead (t : Tk) : Bool := isIn t.gen 1 1099511627776 && isIn t.hop 0 1099511627776 && isIn t.stamps.length 1 64
def tokenOk (t : Tk) : Bool := tokenHead t && stampsOk t.stamps t.stamps.length && tableOk t.table
/-! The numbers of a token, in their order. -/
end Go.Proofs.YtbgdlokegibkmaaGreat.Frame

namespace Go.Proofs.YtbgdlokegibkmaaGreat.Ledger
open _root_.Go.Proofs.YtbgdlokegibkmaaGreat.Frame (Rw Tb noRow)
open _root_.Go.Proofs.YtbgdlokegibkmaaGreat.Sat (fit add sub mul)
/-- The place of the first one; -1: there is none. -/
def spot {α : Type} (f : α → Bool) : List α → Int
  | [] => -1
  | x :: l => if f x = true then 0 else if spot f l < 0 then -1 else spot f l + 1
theorem spot_at {α : Type} (f : α → Bool) (d : α) : ∀ (l : List α) (j : Nat), j < l.length → (∀ i, i < j → f (l.getD i d) = false) → f (l.getD j d) = true → spot f l = (j : Int)
  | [], j, hj, _, _ => by simp at hj
  | x :: l, 0, _, _, h => by
    have h' : f x = true := by simpa using h
    simp [spot, h']
  | x :: l, j + 1, hj, h0, h => by
    have hx : f x = false := by simpa using h0 0 (by omega)
    have := spot_at f d l j (by simpa using hj) (fun i hi => by simpa using h0 (i + 1) (by omega)) (by simpa using h)
    rw [spot, if_neg (by simp [hx]), this, if_neg (by omega)]
    omega
theorem spot_none {α : Type} (f : α → Bool) (d : α) : ∀ (l : List α), (∀ i, i < l.length → f (l.getD i d) = false) → spot f l = -1
  | [], _ => rfl
  | x :: l, h => by
    have hx : f x = false := by simpa using h 0 (by simp)
    have := spot_none f d l (fun i hi => by simpa using h (i + 1) (by simpa using hi))
    rw [spot, if_neg (by simp [hx]), this, if_pos (by omega)]
theorem spot_cases {α : Type} (f : α → Bool) (d : α) (l : List α) : (spot f l = -1 ∧ ∀ i, i < l.length → f (l.getD i d) = false) ∨ ∃ j : Nat, spot f l = (j : Int) ∧ j < l.length ∧ f (l.getD j d) = true ∧ ∀ i, i < j → f (l.getD i d) = false := by
  by_cases h : ∀ i, i < l.length → f (l.getD i d) = false
  · exact .inl ⟨spot_none f d l h, h⟩
  · right
    have hex : ∃ j, j < l.length ∧ f (l.getD j d) = true := by
      refine Classical.byContradiction fun hn => h fun i hi => ?_
      cases hf : f (l.getD i d) with
      | false => rfl
      | true => exact absurd ⟨i, hi, hf⟩ hn
    have : ∀ n, (∃ j, j ≤ n ∧ j < l.length ∧ f (l.getD j d) = true) → ∃ j, j < l.length ∧ f (l.getD j d) = true ∧ ∀ i, i < j → f (l.getD i d) = false := by
      intro n
      induction n with
      | zero =>
        rintro ⟨j, h0, h1, h2⟩
        exact ⟨j, h1, h2, fun i hi => by omega⟩
      | succ n ih =>
        rintro ⟨j, h0, h1, h2⟩
        by_cases hm : ∃ j, j ≤ n ∧ j < l.length ∧ f (l.getD j d) = true
        · exact ih hm
        · refine ⟨j, h1, h2, fun i hi => ?_⟩
          cases hf : f (l.getD i d) with
          | false => rfl
          | true => exact absurd ⟨i, by omega, by omega, hf⟩ hm
    obtain ⟨j, h1, h2⟩ := hex
    obtain ⟨k, k1, k2, k3⟩ := this j ⟨j, Nat.le_refl _, h1, h2⟩
    exact ⟨k, spot_at f d l k k1 k3 k2, k1, k2, k3⟩
/-- The place of a key's row, of a node's lease. -/
def place (l : List Rw) (key : Int) : Int := spot (fun r => r.key == key) l
def outAt (l : List (Int × Int)) (node : Int) : Int := spot (fun x => x.1 == node) l
/-- A key's row. -/
def findRow (t : Tb) (key : Int) : Rw := if place t.rows key < 0 then ⟨key, 0, t.start, []⟩ else t.rows.getD (place t.rows key).toNat noRow
def findIs (t : Tb) (key : Int) : Bool := decide (0 ≤ place t.rows key)
/-- A row's total. -/
def total (r : Rw) : Int := add (r.avail :: r.out.map (·.2))
/-- A row, minted. -/
def minted (r : Rw) (now R B : Int) : Rw := ⟨r.key, add [r.avail, min (mul R (sub now r.mark)) (sub B (total r))], max r.mark now, r.out⟩
def look (t : Tb) (key now R B : Int) : Rw := minted (findRow t key) now R B
/-- A table's rows with another one, by keys: how far it is. -/
def setStep (r : Rw) (s : List Rw × Bool) (x : Rw) : List Rw × Bool := ((if s.2 = false ∧ r.key ≤ x.key then s.1 ++ [r] else s.1) ++ (if x.key = r.key then [] else [x]), s.2 || decide (r.key ≤ x.key))
def setTo (r : Rw) (l : List Rw) : List Rw × Bool := l.foldl (setStep r) ([], false)
def setRows (l : List Rw) (r : Rw) : List Rw := if (setTo r l).2 = true then (setTo r l).1 else (setTo r l).1 ++ [r]
def setRow (t : Tb) (r : Rw) : Tb := ⟨t.start, setRows t.rows r⟩
/-- One, if it is not in yet. -/
def rest : Bool → Nat
  | true => 0
  | false => 1
theorem setTo_rest (r : Rw) : ∀ (l : List Rw) (s : List Rw × Bool), (l.foldl (setStep r) s).1.length + rest (l.foldl (setStep r) s).2 ≤ s.1.length + rest s.2 + l.length
  | [], s => Nat.le_refl _
  | x :: l, (a, b) => by
    refine Nat.le_trans (setTo_rest r l _) ?_
    simp only [setStep, List.length_append, List.length_cons]
    cases b <;> by_cases h1 : r.key ≤ x.key <;> by_cases h2 : x.key = r.key <;> simp [h1, h2, rest] <;> omega
theorem setTo_len (r : Rw) (l : List Rw) : (setTo r l).1.length + rest (setTo r l).2 ≤ l.length + 1 := by
  have : (l.foldl (setStep r) ([], false)).1.length + rest (l.foldl (setStep r) ([], false)).2 ≤ 0 + 1 + l.length := setTo_rest r l ([], false)
  unfold setTo
  omega
theorem setRows_len (l : List Rw) (r : Rw) : (setRows l r).length ≤ l.length + 1 := by
  have := setTo_len r l
  unfold setRows
  split
  · omega
  · rename_i h
    rw [Bool.not_eq_true] at h
    rw [h] at this
    simp only [rest] at this
    simp
    omega
end Go.Proofs.YtbgdlokegibkmaaGreat.Ledger

namespace Go.Proofs.YtbgdlokegibkmaaGreat.Ring
/-- Is a node in a set? -/
def has (x i : Int) : Bool := decide (0 ≤ i ∧ i < 64) && x.toNat.testBit i.toNat
/-- The set of one node; none, if there is no such node. -/
def only (i : Int) : Int := if 0 ≤ i ∧ i < 64 then ((2 ^ i.toNat : Nat) : Int) else 0
/-- A set with a node. -/
def put (x i : Int) : Int := ((x.toNat ||| (only i).toNat : Nat) : Int)
def okRing (n : Int) : Bool := decide (1 ≤ n) && decide (n ≤ 64)
/-- The nodes of a ring of n. -/
def all (n : Int) : Int := if okRing n then ((2 ^ n.toNat - 1 : Nat) : Int) else 0
def maj (n : Int) : Int := if n < 1 then 0 else n / 2 + 1
theorem high {x : Int} (h1 : x < 18446744073709551616) {i : Nat} (h : 64 ≤ i) : x.toNat.testBit i = false := by
  apply Nat.testBit_lt_two_pow
  exact Nat.lt_of_lt_of_le (by omega : x.toNat < 2 ^ 64) (Nat.pow_le_pow_right (by decide) h)
/-! The document's answers, by arithmetic. -/
end Go.Proofs.YtbgdlokegibkmaaGreat.Ring

namespace Go.Proofs.YtbgdlokegibkmaaGreat.Conf
def within (x lo hi : Int) : Bool := decide (lo ≤ x) && decide (x ≤ hi)
theorem within_yes {x lo hi : Int} (h0 : lo ≤ x) (h1 : x ≤ hi) : within x lo hi = true := by unfold within; simp [h0, h1]
theorem within_no {x lo hi : Int} (h : ¬ (lo ≤ x ∧ x ≤ hi)) : within x lo hi = false := by
  unfold within
  by_cases h0 : lo ≤ x
  · have h1 : ¬ x ≤ hi := fun k => h ⟨h0, k⟩
    simp [h0, h1]
  · simp [h0]
theorem within_iff {x lo hi : Int} : within x lo hi = true ↔ lo ≤ x ∧ x ≤ hi := by unfold within; simp
def key (p m : Int) : Int × Int := if 0 ≤ p ∧ p ≤ 7 ∧ 0 ≤ m ∧ m ≤ 65535 then (p * 65536 + m, 0) else (0, 1)
end Go.Proofs.YtbgdlokegibkmaaGreat.Conf

namespace Go.Proofs.YtbgdlokegibkmaaGreat.Frame
open Go.RowKit Codec
/-- A slice of leases. -/
def LeasesAt (w : World) (p : Option Addr) (l : List (Int × Int)) : Prop :=
  l = [] ∨ ∃ b o, p = some ⟨b, o, none⟩ ∧ ∀ j, j < l.length → w.cell? ⟨b, o + j * 2, none⟩ = some (.int .i64 (l.getD j (0, 0)).1) ∧ w.cell? ⟨b, o + j * 2 + 1, none⟩ = some (.int .i64 (l.getD j (0, 0)).2)
/-- The four cells of a row. -/
def RowAt (w : World) (b o : Nat) (r : Rw) : Prop :=
  w.cell? ⟨b, o, none⟩ = some (.int .i64 r.key) ∧ w.cell? ⟨b, o + 1, none⟩ = some (.int .i64 r.avail) ∧ w.cell? ⟨b, o + 2, none⟩ = some (.int .i64 r.mark) ∧
    ∃ p c, w.cell? ⟨b, o + 3, none⟩ = some (.slice p r.out.length c) ∧ LeasesAt w p r.out
/-- A slice of rows. -/
def RowsAt (w : World) (p : Option Addr) (l : List Rw) : Prop :=
  l = [] ∨ ∃ b o, p = some ⟨b, o, none⟩ ∧ ∀ j, j < l.length → RowAt w b (o + j * 4) (l.getD j noRow)
section
variable {w w' : World}
theorem cell_on {b o : Nat} {v : Value} (h : w.cell? ⟨b, o, none⟩ = some v) (hb : Below w.heap.size w w') : w'.cell? ⟨b, o, none⟩ = some v :=
  (hb.cell (p := ⟨b, o, none⟩) (World.block_lt_of_cell? _ _ h)).trans h
theorem LeasesAt.below {p : Option Addr} {l : List (Int × Int)} (h : LeasesAt w p l) (hb : Below w.heap.size w w') : LeasesAt w' p l := by
  rcases h with h | ⟨b, o, e, hc⟩
  · exact .inl h
  · exact .inr ⟨b, o, e, fun j hj => ⟨cell_on (hc j hj).1 hb, cell_on (hc j hj).2 hb⟩⟩
theorem RowAt.below {b o : Nat} {r : Rw} (h : RowAt w b o r) (hb : Below w.heap.size w w') : RowAt w' b o r := by
  obtain ⟨h0, h1, h2, p, c, h3, h4⟩ := h
  exact ⟨cell_on h0 hb, cell_on h1 hb, cell_on h2 hb, p, c, cell_on h3 hb, h4.below hb⟩
theorem RowsAt.below {p : Option Addr} {l : List Rw} (h : RowsAt w p l) (hb : Below w.heap.size w w') : RowsAt w' p l := by
  rcases h with h | ⟨b, o, e, hc⟩
  · exact .inl h
  · exact .inr ⟨b, o, e, fun j hj => (hc j hj).below hb⟩
end
end Go.Proofs.YtbgdlokegibkmaaGreat.Frame

namespace Go.Proofs.YtbgdlokegibkmaaGreat.Lease
open _root_.Go.Proofs.YtbgdlokegibkmaaGreat.Ledger (spot spot_at spot_none spot_cases)
structure Lz where
  key : Int
  gen : Int
  amount : Int
  spent : Int
  til : Int
def z : Lz := ⟨0, 0, 0, 0, 0⟩
def Num (x : Int) : Prop := -9223372036854775808 ≤ x ∧ x ≤ 9223372036854775807
def Nums (x : Lz) : Prop := Num x.key ∧ Num x.gen ∧ Num x.amount ∧ Num x.spent ∧ Num x.til
/-- The place of a key's; -1: there is none. -/
def place (l : List Lz) (k : Int) : Int := spot (fun x => x.key == k) l
def the (l : List Lz) (k : Int) : Lz := l.getD (place l k).toNat z
def wrong (x : Lz) : Prop := x.gen < 1 ∨ x.amount < 1 ∨ x.spent ≠ 0 ∨ x.til < 0
instance (x : Lz) : Decidable (wrong x) := by unfold wrong; infer_instance
def ins (x : Lz) : List Lz → List Lz
  | [] => [x]
  | y :: l => if x.key < y.key then x :: y :: l else y :: ins x l
def put (l : List Lz) (x : Lz) : List Lz × Int := if wrong x then (l, 1) else if 0 ≤ place l x.key then (l, 5) else (ins x l, 0)
def left (l : List Lz) (k now : Int) : Int := if place l k < 0 ∨ (the l k).til ≤ now then 0 else (the l k).amount - (the l k).spent
def more (x : Lz) (c : Int) : Lz := ⟨x.key, x.gen, x.amount, x.spent + c, x.til⟩
def spend (l : List Lz) (k c now : Int) : List Lz × Int × Bool := if c < 1 ∨ left l k now < c then (l, 0, false) else (l.set (place l k).toNat (more (the l k) c), (the l k).gen, true)
def close (l : List Lz) (k g : Int) : List Lz × Int := if place l k < 0 then (l, -1) else (l.eraseIdx (place l k).toNat, if (the l k).gen = g then (the l k).spent else -1)
def elder (g : Int) (x : Lz) : Bool := decide (x.gen < g)
def drop (l : List Lz) (g : Int) : List Lz × Int := (l.filter fun x => !elder g x, (l.countP (elder g) : Int))
/-- What a wallet keeps. -/
structure Good (l : List Lz) : Prop where
  rise : l.Pairwise fun a b => a.key < b.key
  each : ∀ x ∈ l, 0 ≤ x.spent ∧ x.spent ≤ x.amount ∧ Nums x
theorem good_nil : Good [] := ⟨.nil, fun x h => by cases h⟩
theorem place_some {l : List Lz} {k : Int} (h : 0 ≤ place l k) : (place l k).toNat < l.length ∧ (the l k).key = k ∧ the l k ∈ l := by
  unfold the
  rcases spot_cases (fun x : Lz => x.key == k) z l with ⟨e, -⟩ | ⟨j, e, hj, hk, -⟩
  · unfold place at h; omega
  · have e' : (place l k).toNat = j := by unfold place; omega
    rw [e']
    refine ⟨hj, by simpa using hk, ?_⟩
    simp [List.getD, hj]
theorem place_none {l : List Lz} {k : Int} (h : place l k < 0) : ∀ x ∈ l, x.key ≠ k := by
  rcases spot_cases (fun x : Lz => x.key == k) z l with ⟨-, e⟩ | ⟨j, e, -⟩
  · intro x hx
    obtain ⟨i, hi, rfl⟩ := List.getElem_of_mem hx
    have := e i hi
    simpa [List.getD, hi] using this
  · unfold place at h; omega
theorem mem_ins {x y : Lz} : ∀ {l : List Lz}, y ∈ ins x l → y = x ∨ y ∈ l
  | [], h => by simpa [ins] using h
  | a :: l, h => by
    unfold ins at h
    split at h
    · simpa using h
    · rcases List.mem_cons.1 h with h | h
      · exact .inr (by simp [h])
      · rcases mem_ins h with h | h
        · exact .inl h
        · exact .inr (by simp [h])
theorem rise_ins {x : Lz} : ∀ {l : List Lz}, (l.Pairwise fun a b => a.key < b.key) → (∀ y ∈ l, y.key ≠ x.key) → (ins x l).Pairwise fun a b => a.key < b.key
  | [], _, _ => by simp [ins]
  | a :: l, h, hn => by
    have h' := List.pairwise_cons.1 h
    unfold ins
    split
    · rename_i hlt
      refine List.pairwise_cons.2 ⟨fun y hy => ?_, h⟩
      rcases List.mem_cons.1 hy with rfl | hy
      · exact hlt
      · exact Int.lt_trans hlt (h'.1 y hy)
    · rename_i hlt
      have hne := hn a (by simp)
      refine List.pairwise_cons.2 ⟨fun y hy => ?_, rise_ins h'.2 fun y hy => hn y (by simp [hy])⟩
      rcases mem_ins hy with rfl | hy
      · omega
      · exact h'.1 y hy
theorem len_ins (x : Lz) : ∀ l : List Lz, (ins x l).length = l.length + 1
  | [] => rfl
  | a :: l => by
    unfold ins
    split
    · rfl
    · simp [len_ins x l]
theorem good_put {l : List Lz} (h : Good l) {x : Lz} (hx : Nums x) : Good (put l x).1 := by
  unfold put
  split
  · exact h
  · split
    · exact h
    · rename_i hw hp
      unfold wrong at hw
      refine ⟨rise_ins h.rise (place_none (by omega)), fun y hy => ?_⟩
      rcases mem_ins hy with rfl | hy
      · exact ⟨by omega, by omega, hx⟩
      · exact h.each y hy
theorem len_put (l : List Lz) (x : Lz) : (put l x).1.length ≤ l.length + 1 := by
  unfold put
  split
  · simp
  · split
    · simp
    · simp [len_ins]
theorem left_some {l : List Lz} {k c now : Int} (h : ¬ (c < 1 ∨ left l k now < c)) : 0 ≤ place l k ∧ now < (the l k).til ∧ c ≤ (the l k).amount - (the l k).spent ∧ 1 ≤ c := by
  unfold left at h
  split at h
  · omega
  · omega
theorem good_spend {l : List Lz} (h : Good l) (k c now : Int) : Good (spend l k c now).1 := by
  unfold spend
  split
  · exact h
  · rename_i hn
    obtain ⟨hp, -, h1, h2⟩ := left_some hn
    obtain ⟨hj, hk, hm⟩ := place_some hp
    have hg := h.each _ hm
    have hx : the l k = l[(place l k).toNat] := by unfold the; simp [List.getD, hj]
    refine ⟨?_, fun y hy => ?_⟩
    · have hr := h.rise
      rw [List.pairwise_iff_getElem] at hr ⊢
      intro i j hi hj' hij
      rw [List.length_set] at hi hj'
      have := hr i j hi hj' hij
      simp only [List.getElem_set]
      have hkey : (more (the l k) c).key = l[(place l k).toNat].key := by rw [← hx]; rfl
      by_cases e1 : (place l k).toNat = i
      · subst e1
        rw [if_pos rfl, if_neg (by omega), hkey]
        exact this
      · rw [if_neg e1]
        by_cases e2 : (place l k).toNat = j
        · subst e2
          rw [if_pos rfl, hkey]
          exact this
        · rw [if_neg e2]
          exact this
    · rcases List.mem_or_eq_of_mem_set hy with hy | rfl
      · exact h.each y hy
      · obtain ⟨g0, g1, g2⟩ := hg
        unfold Nums Num at *
        refine ⟨?_, ?_, ?_, ?_, ?_, ?_, ?_⟩ <;> simp only [more] <;> omega
theorem len_spend (l : List Lz) (k c now : Int) : (spend l k c now).1.length = l.length := by
  unfold spend
  split <;> simp
theorem good_close {l : List Lz} (h : Good l) (k g : Int) : Good (close l k g).1 := by
  unfold close
  split
  · exact h
  · exact ⟨h.rise.sublist (List.eraseIdx_sublist _ _), fun x hx => h.each x ((List.eraseIdx_sublist _ _).subset hx)⟩
theorem good_drop {l : List Lz} (h : Good l) (g : Int) : Good (drop l g).1 :=
  ⟨h.rise.sublist List.filter_sublist, fun x hx => h.each x (List.mem_filter.1 hx).1⟩
end Go.Proofs.YtbgdlokegibkmaaGreat.Lease

namespace Go.Proofs.YtbgdlokegibkmaaGreat.Queue
open _root_.Go.Proofs.YtbgdlokegibkmaaGreat.Ledger (spot spot_at spot_none spot_cases)
open _root_.Go.Proofs.YtbgdlokegibkmaaGreat.Sat (add)
structure It where
  id : Int
  key : Int
  cost : Int
  cls : Int
  til : Int
def z : It := ⟨0, 0, 0, 0, 0⟩
def Num (x : Int) : Prop := -9223372036854775808 ≤ x ∧ x ≤ 9223372036854775807
def Nums (x : It) : Prop := Num x.id ∧ Num x.key ∧ Num x.cost ∧ Num x.cls ∧ Num x.til
/-- The place of a name's; -1: there is none. -/
def place (l : List It) (i : Int) : Int := spot (fun x => x.id == i) l
def the (l : List It) (i : Int) : It := l.getD (place l i).toNat z
def wrong (x : It) : Prop := x.cost < 1 ∨ x.cls < 0 ∨ 2 < x.cls ∨ x.til < 0
instance (x : It) : Decidable (wrong x) := by unfold wrong; infer_instance
def put (room : Int) (l : List It) (x : It) : List It × Int := if wrong x then (l, 1) else if 0 ≤ place l x.id then (l, 5) else if room ≤ l.length then (l, 3) else (l ++ [x], 0)
def isOf (k c : Int) (x : It) : Bool := x.key == k && x.cls == c
def ofc (l : List It) (k c : Int) : List It := l.filter (isOf k c)
def of (l : List It) (k : Int) : List It := ofc l k 0 ++ ofc l k 1 ++ ofc l k 2
def take (l : List It) (i : Int) : List It × It × Bool := if place l i < 0 then (l, z, false) else (l.eraseIdx (place l i).toNat, the l i, true)
def due (now : Int) (x : It) : Bool := decide (x.til ≤ now)
def expire (l : List It) (now : Int) : List It × List It := (l.filter fun x => !due now x, l.filter (due now))
def kstep (k : Int) (s : List Int × Bool) (a : Int) : List Int × Bool :=
  if s.2 = false ∧ k ≤ a then (if a = k then s.1 ++ [k] else s.1 ++ [k] ++ [a], true) else (if a = k then s.1 else s.1 ++ [a], s.2)
def kfold (k : Int) (l : List Int) : List Int × Bool := l.foldl (kstep k) ([], false)
def kput (k : Int) (l : List Int) : List Int := if (kfold k l).2 = true then (kfold k l).1 else (kfold k l).1 ++ [k]
def keys (l : List It) : List Int := l.foldl (fun s x => kput x.key s) []
def sums (l : List It) : Int := l.foldl (fun s x => add [s, x.cost]) 0
def sum (l : List It) (k : Int) : Int := sums (of l k)
/-- What a queue keeps. -/
structure Good (room : Int) (l : List It) : Prop where
  room : (l.length : Int) ≤ room
  names : l.Pairwise fun a b => a.id ≠ b.id
  each : ∀ x ∈ l, ¬ wrong x ∧ Nums x
theorem good_nil {room : Int} (h : 0 ≤ room) : Good room [] := ⟨by simpa using h, .nil, fun x h => by cases h⟩
theorem place_some {l : List It} {k : Int} (h : 0 ≤ place l k) : (place l k).toNat < l.length ∧ (the l k).id = k ∧ the l k ∈ l := by
  unfold the
  rcases spot_cases (fun x : It => x.id == k) z l with ⟨e, -⟩ | ⟨j, e, hj, hk, -⟩
  · unfold place at h; omega
  · have e' : (place l k).toNat = j := by unfold place; omega
    rw [e']
    refine ⟨hj, by simpa using hk, ?_⟩
    simp [List.getD, hj]
theorem place_none {l : List It} {k : Int} (h : place l k < 0) : ∀ x ∈ l, x.id ≠ k := by
  rcases spot_cases (fun x : It => x.id == k) z l with ⟨-, e⟩ | ⟨j, e, -⟩
  · intro x hx
    obtain ⟨i, hi, rfl⟩ := List.getElem_of_mem hx
    have := e i hi
    simpa [List.getD, hi] using this
  · unfold place at h; omega
theorem good_put {room : Int} {l : List It} (h : Good room l) {x : It} (hx : Nums x) : Good room (put room l x).1 := by
  unfold put
  split
  · exact h
  · split
    · exact h
    · split
      · exact h
      · rename_i hw hp hr
        refine ⟨by simp; omega, ?_, fun y hy => ?_⟩
        · rw [List.pairwise_append]
          refine ⟨h.names, by simp, fun a ha b hb => ?_⟩
          rw [List.mem_singleton.1 hb]
          exact place_none (by omega) a ha
        · rcases List.mem_append.1 hy with hy | hy
          · exact h.each y hy
          · rw [List.mem_singleton.1 hy]
            exact ⟨hw, hx⟩
theorem good_sub {room : Int} {l m : List It} (h : Good room l) (s : List.Sublist m l) : Good room m :=
  ⟨by have := s.length_le; have := h.room; omega, h.names.sublist s, fun x hx => h.each x (s.subset hx)⟩
theorem good_take {room : Int} {l : List It} (h : Good room l) (i : Int) : Good room (take l i).1 := by
  unfold take
  split
  · exact h
  · exact good_sub h (List.eraseIdx_sublist _ _)
theorem of_len : ∀ (l : List It) (k : Int), (of l k).length ≤ l.length
  | [], _ => by simp [of, ofc]
  | x :: l, k => by
    have ih := of_len l k
    simp only [of, ofc, List.length_append, List.filter_cons] at ih ⊢
    by_cases hk : x.key = k
    · by_cases h0 : x.cls = 0
      · simp [isOf, hk, h0] at ih ⊢; omega
      · by_cases h1 : x.cls = 1
        · simp [isOf, hk, h1] at ih ⊢; omega
        · by_cases h2 : x.cls = 2
          · simp [isOf, hk, h2] at ih ⊢; omega
          · simp [isOf, hk, h0, h1, h2] at ih ⊢; omega
    · simp [isOf, hk] at ih ⊢; omega
theorem kstep_len (k : Int) (s : List Int × Bool) (a : Int) : (kstep k s a).1.length + (if (kstep k s a).2 = true then 0 else 1) ≤ s.1.length + (if s.2 = true then 0 else 1) + 1 := by
  obtain ⟨l, d⟩ := s
  unfold kstep
  cases d <;> simp only <;> repeat' split <;> simp_all
theorem kfold_snoc (k : Int) (l : List Int) (a : Int) : kfold k (l ++ [a]) = kstep k (kfold k l) a := by unfold kfold; rw [List.foldl_append]; rfl
theorem kfold_len (k : Int) (l : List Int) : (kfold k l).1.length + (if (kfold k l).2 = true then 0 else 1) ≤ l.length + 1 := by
  suffices h : ∀ (l : List Int) (s : List Int × Bool), (l.foldl (kstep k) s).1.length + (if (l.foldl (kstep k) s).2 = true then 0 else 1) ≤ s.1.length + (if s.2 = true then 0 else 1) + l.length by
    have := h l ([], false)
    unfold kfold
    simp at this ⊢
    omega
  intro l
  induction l with
  | nil => intro s; exact Nat.le_refl _
  | cons a l ih =>
    intro s
    have h1 := ih (kstep k s a)
    have h2 := kstep_len k s a
    rw [List.foldl_cons, List.length_cons]
    omega
theorem kput_len (k : Int) (l : List Int) : (kput k l).length ≤ l.length + 1 := by
  have := kfold_len k l
  unfold kput
  split
  · rename_i h
    rw [if_pos h] at this
    omega
  · rename_i h
    rw [if_neg h] at this
    simp
    omega
theorem keys_len (l : List It) : (keys l).length ≤ l.length := by
  suffices h : ∀ (l : List It) (s : List Int), (l.foldl (fun s x => kput x.key s) s).length ≤ s.length + l.length by
    have := h l []
    simp only [List.length_nil, Nat.zero_add] at this
    exact this
  intro l
  induction l with
  | nil => intro s; simp
  | cons a l ih =>
    intro s
    have h1 := ih (kput a.key s)
    have h2 := kput_len a.key s
    rw [List.foldl_cons, List.length_cons]
    omega
theorem keys_snoc (l : List It) (x : It) : keys (l ++ [x]) = kput x.key (keys l) := by unfold keys; rw [List.foldl_append]; rfl
theorem sums_snoc (l : List It) (x : It) : sums (l ++ [x]) = add [sums l, x.cost] := by unfold sums; rw [List.foldl_append]; rfl
end Go.Proofs.YtbgdlokegibkmaaGreat.Queue

namespace Go.Proofs.YtbgdlokegibkmaaGreat.Ring
def srt (zs : List Int) : List Int := zs.mergeSort (fun x y => decide (x ≤ y))
def nth (zs : List Int) (m : Int) : Int := if 1 ≤ m ∧ m ≤ (zs.length : Int) then (srt zs).getD (zs.length - m.toNat) 0 else 0
end Go.Proofs.YtbgdlokegibkmaaGreat.Ring

namespace Go.Proofs.YtbgdlokegibkmaaGreat.Ring
def more (zs : List Int) (y : Int) : Nat := zs.countP (fun z => decide (y < z))
def same (zs : List Int) (y : Int) : Nat := zs.countP (fun z => decide (z = y))
def least (zs : List Int) (y : Int) : Nat := zs.countP (fun z => decide (y ≤ z))
theorem least_le_more (zs : List Int) {y v : Int} (h : y < v) : least zs v ≤ more zs y :=
  List.countP_mono_left (fun z _ hz => by simp at hz ⊢; omega)
def Good (zs : List Int) (m y : Int) : Prop := (more zs y : Int) < m ∧ m ≤ (least zs y : Int)
theorem good_one {zs : List Int} {m y v : Int} (h : Good zs m y) (k : Good zs m v) : y = v := by
  rcases Int.lt_trichotomy y v with c | c | c
  · have := least_le_more zs c; have := h.1; have := k.2; omega
  · exact c
  · have := least_le_more zs c; have := k.1; have := h.2; omega
theorem nth_good (zs : List Int) (m : Int) (h1 : 1 ≤ m) (h2 : m ≤ (zs.length : Int)) : Good zs m (nth zs m) ∧ nth zs m ∈ zs := by
  have hp : (srt zs).Perm zs := List.mergeSort_perm zs _
  have hl : (srt zs).length = zs.length := hp.length_eq
  have hs : (srt zs).Pairwise (fun a b => decide (a ≤ b) = true) := List.pairwise_mergeSort (by intro a b c; simp; omega) (by intro a b; simp; omega) zs
  have hs' := List.pairwise_iff_getElem.1 hs
  have hi : zs.length - m.toNat < (srt zs).length := by omega
  have hn : nth zs m = (srt zs)[zs.length - m.toNat] := by
    unfold nth; rw [if_pos ⟨h1, h2⟩]; simp [hi]
  have hmem : nth zs m ∈ zs := by rw [hn]; exact hp.subset (List.getElem_mem hi)
  refine ⟨?_, hmem⟩
  rw [hn]
  obtain ⟨p, hpd⟩ : ∃ p, p = zs.length - m.toNat := ⟨_, rfl⟩
  simp only [← hpd] at hi ⊢
  obtain ⟨v, hv⟩ : ∃ v, v = (srt zs)[p] := ⟨_, rfl⟩
  rw [← hv]
  have up : ∀ j (hj : j < (srt zs).length), p ≤ j → v ≤ (srt zs)[j] := fun j hj hpj => by
    rcases Nat.lt_or_ge p j with c | c
    · have := hs' p j hi hj c; rw [hv]; simpa using this
    · have : p = j := by omega
      subst this; rw [hv]; exact Int.le_refl _
  have dn : ∀ j (hj : j < (srt zs).length), j ≤ p → (srt zs)[j] ≤ v := fun j hj hpj => by
    rcases Nat.lt_or_ge j p with c | c
    · have := hs' j p hj hi c; rw [hv]; simpa using this
    · have : j = p := by omega
      subst this; rw [hv]; exact Int.le_refl _
  constructor
  · have e : more zs v = more (srt zs) v := (hp.countP_eq _).symm
    rw [e]; unfold more
    rw [← List.take_append_drop (p + 1) (srt zs), List.countP_append]
    have z : ((srt zs).take (p + 1)).countP (fun z => decide (v < z)) = 0 := by
      rw [List.countP_eq_zero]
      intro a ha
      obtain ⟨j, hj, rfl⟩ := List.mem_take_iff_getElem.1 ha
      have := dn j (by omega) (by omega)
      simp; omega
    have l : ((srt zs).drop (p + 1)).countP (fun z => decide (v < z)) ≤ ((srt zs).drop (p + 1)).length := List.countP_le_length
    rw [z]; rw [List.length_drop] at l; omega
  · have e : least zs v = least (srt zs) v := (hp.countP_eq _).symm
    rw [e]; unfold least
    rw [← List.take_append_drop p (srt zs), List.countP_append]
    have z : ((srt zs).drop p).countP (fun z => decide (v ≤ z)) = ((srt zs).drop p).length := by
      rw [List.countP_eq_length]
      intro a ha
      obtain ⟨j, hj, rfl⟩ := List.mem_drop_iff_getElem.1 ha
      have := up (j + p) (by omega) (by omega)
      simpa [Nat.add_comm] using this
    rw [z, List.length_drop]; omega
end Go.Proofs.YtbgdlokegibkmaaGreat.Ring

namespace Go.Proofs.YtbgdlokegibkmaaGreat.Token
open _root_.Go.Proofs.YtbgdlokegibkmaaGreat.Frame (Rw Tb Tk tokenOk)
open _root_.Go.Proofs.YtbgdlokegibkmaaGreat.Ring (nth maj more least Good nth_good least_le_more has all)
open _root_.Go.Proofs.YtbgdlokegibkmaaGreat.Sat (fit add fit_self sum_two)
/-- Stamps of a new token. -/
def firsts (n : Nat) (node now : Int) : List Int := (List.range n).map fun i : Nat => if ((i : Nat) : Int) = node then now else -1
def freshTk (gen : Int) (n : Nat) (node now : Int) : Tk := ⟨gen, 0, firsts n node now, ⟨now, []⟩⟩
def noTk : Tk := ⟨0, 0, [], ⟨0, []⟩⟩
def fresh (gen n node now : Int) : Tk × Int :=
  if n < 1 ∨ 64 < n ∨ node < 0 ∨ n ≤ node then (noTk, 1) else if tokenOk (freshTk gen n.toNat node now) = true ∧ 0 ≤ now then (freshTk gen n.toNat node now, 0) else (noTk, 1)
/-- Stamps that there are. -/
def given (l : List Int) : List Int := l.filter fun x => decide (0 ≤ x)
def upto (l : List Int) (span : Int) : Int := if 1 ≤ maj l.length ∧ maj l.length ≤ ((given l).length : Int) then add [nth (given l) (maj l.length), span] else -1
def valid (l : List Int) (now span : Int) : Bool := decide (0 ≤ upto l span) && decide (fit now ≤ upto l span)
def stamped (t : Tk) (node now : Int) : Tk × Int := if node < 0 ∨ (t.stamps.length : Int) ≤ node ∨ now < 0 ∨ 4611686018427387903 < now then (t, 1) else (⟨t.gen, t.hop, t.stamps.set node.toNat now, t.table⟩, 0)
/-! One line. -/
/-! A majority. -/
/-! Till when, by the m-th greatest of all stamps. -/
theorem least_given (l : List Int) {y : Int} (h : 0 ≤ y) : least (given l) y = least l y := by
  unfold least given
  rw [List.countP_filter]
  congr 1
  funext x
  by_cases hx : y ≤ x
  · simp [hx, show (0 : Int) ≤ x by omega]
  · simp [hx]
theorem more_given (l : List Int) {y : Int} (h : 0 ≤ y) : more (given l) y = more l y := by
  unfold more given
  rw [List.countP_filter]
  congr 1
  funext x
  by_cases hx : y < x
  · simp [hx, show (0 : Int) ≤ x by omega]
  · simp [hx]
theorem given_length (l : List Int) : (given l).length = least l 0 := by
  unfold given least
  rw [List.countP_eq_length_filter]
theorem nth_given {l : List Int} {m : Int} (h1 : 1 ≤ m) (h2 : m ≤ (l.length : Int)) (h0 : 0 ≤ nth l m) : m ≤ ((given l).length : Int) ∧ nth (given l) m = nth l m := by
  obtain ⟨⟨hm, hl⟩, -⟩ := nth_good l m h1 h2
  have h3 : m ≤ ((given l).length : Int) := by
    have : least l (nth l m) ≤ least l 0 := List.countP_mono_left (fun z _ hz => by simp at hz ⊢; omega)
    rw [given_length]; omega
  refine ⟨h3, ?_⟩
  obtain ⟨hg, hmem⟩ := nth_good (given l) m h1 h3
  have hb : 0 ≤ nth (given l) m := by simpa using (List.mem_filter.1 hmem).2
  refine Ring.good_one (zs := l) (m := m) ⟨?_, ?_⟩ ⟨hm, hl⟩
  · rw [← more_given l hb]; exact hg.1
  · rw [← least_given l hb]; exact hg.2
theorem upto_out {l : List Int} {span : Int} (h : ¬ (1 ≤ maj l.length ∧ maj l.length ≤ (l.length : Int))) : upto l span = -1 := by
  unfold upto
  rw [if_neg fun k => h ⟨k.1, by have : (given l).length ≤ l.length := List.length_filter_le _ _; omega⟩]
theorem upto_never {l : List Int} {span : Int} (h1 : 1 ≤ maj l.length) (h2 : maj l.length ≤ (l.length : Int)) (h : nth l (maj l.length) < 0) : upto l span = -1 := by
  unfold upto
  refine if_neg fun k => ?_
  obtain ⟨hg, hmem⟩ := nth_good (given l) (maj l.length) k.1 k.2
  obtain ⟨⟨hm, hl⟩, -⟩ := nth_good l (maj l.length) h1 h2
  have hb : 0 ≤ nth (given l) (maj l.length) := by simpa using (List.mem_filter.1 hmem).2
  have e1 := least_given l hb
  have e2 := least_le_more l (show nth l (maj l.length) < nth (given l) (maj l.length) by omega)
  have := hg.2
  omega
theorem upto_till {l : List Int} {span : Int} (h1 : 1 ≤ maj l.length) (h2 : maj l.length ≤ (l.length : Int)) (h : 0 ≤ nth l (maj l.length)) : upto l span = add [nth l (maj l.length), span] := by
  obtain ⟨h3, h4⟩ := nth_given h1 h2 h
  unfold upto
  rw [if_pos ⟨h1, h3⟩, h4]
/-- Of a reading, as a number. -/
theorem valid_upto (l : List Int) (now span : Int) : valid l now span = decide (fit now ≤ upto l span) := by
  unfold valid
  have : 0 ≤ fit now := by unfold fit; simp only [Sat.top]; split <;> (try split) <;> omega
  by_cases h : fit now ≤ upto l span
  · rw [decide_eq_true h, decide_eq_true (by omega)]; rfl
  · rw [decide_eq_false h, Bool.and_false]
end Go.Proofs.YtbgdlokegibkmaaGreat.Token

namespace Go.Proofs.YtbgdlokegibkmaaGreat.Ring
open Go.RowKit
theorem ret_int {k : IntKind} {a b : Int} (h : a = b) : Ending.returned (.int k a) = .returned (.int k b) := by rw [h]
theorem ret_bool {a b : Bool} (h : a = b) : Ending.returned (.bool a) = .returned (.bool b) := by rw [h]
theorem right_any (n : Int) (w : World) :
    Calls Tryz.prog 80 #[.int .i64 n] w fun e w' => e = .returned (.bool (okRing n)) ∧ w = w' := by
  by_cases h : 1 ≤ n
  · go_enter Tryz.func80, Tryz.ntmps80
    go_wp2
    go_ret
    exact ⟨ret_bool (by unfold okRing; rw [Bool.eq_iff_iff]; simp; omega), rfl⟩
  · go_enter Tryz.func80, Tryz.ntmps80
    go_wp2
    go_ret
    exact ⟨ret_bool (by unfold okRing; rw [Bool.eq_iff_iff]; simp; omega), rfl⟩
theorem maj_any (n : Int) (w : World) (hn : n ≤ 9223372036854775807) :
    Calls Tryz.prog 146 #[.int .i64 n] w fun e w' => e = .returned (.int .i64 (maj n)) ∧ w = w' := by
  by_cases h : n < 1
  · go_enter Tryz.func146, Tryz.ntmps146
    go_wp2
    go_ret
    exact ⟨ret_int (by unfold maj; rw [if_pos h]), rfl⟩
  · go_enter Tryz.func146, Tryz.ntmps146
    go_wp2
    go_ret
    refine ⟨ret_int ?_, rfl⟩
    unfold maj; rw [if_neg (by omega)]
end Go.Proofs.YtbgdlokegibkmaaGreat.Ring

namespace Go.Proofs.YtbgdlokegibkmaaGreat.Conf
open Go.RowKit Ring
theorem within_any (x lo hi : Int) (w : World) :
    Calls Tryz.prog 133 #[.int .i64 x, .int .i64 lo, .int .i64 hi] w fun e w' => e = .returned (.bool (within x lo hi)) ∧ w = w' := by
  by_cases h : lo ≤ x
  · go_enter Tryz.func133, Tryz.ntmps133
    go_wp2
    go_ret
    exact ⟨ret_bool (by unfold within; simp [h]), rfl⟩
  · go_enter Tryz.func133, Tryz.ntmps133
    go_wp2
    go_ret
    exact ⟨ret_bool (within_no (by omega)).symm, rfl⟩
theorem isRing_any (n : Int) (w : World) :
    Calls Tryz.prog 73 #[.int .i64 n] w fun e w' => e = .returned (.bool (within n 1 64)) ∧ w = w' := by
  go_enter Tryz.func73, Tryz.ntmps73
  go_wp2_with (go_at_call 133; refine (within_any _ _ _ _).mono ?_; rintro e w' ⟨rfl, rfl⟩)
  go_ret
  exact ⟨rfl, rfl⟩
theorem right_any (k : Int) (w : World) :
    Calls Tryz.prog 134 #[.int .i64 k] w fun e w' => e = .returned (.bool (within k 0 524287)) ∧ w = w' := by
  go_enter Tryz.func134, Tryz.ntmps134
  go_wp2_with (go_at_call 133; refine (within_any _ _ _ _).mono ?_; rintro e w' ⟨rfl, rfl⟩)
  go_ret
  exact ⟨rfl, rfl⟩
end Go.Proofs.YtbgdlokegibkmaaGreat.Conf

namespace Go.Proofs.YtbgdlokegibkmaaGreat.Lease
open Go.RowKit
open _root_.Go.Proofs.YtbgdlokegibkmaaGreat.Codec (own_below own_lower lt_of_heap frozen_of heap_set grown_set)
def val (x : Lz) : Value := .agg #[.int .i64 x.key, .int .i64 x.gen, .int .i64 x.amount, .int .i64 x.spent, .int .i64 x.til]
def cells5 (l : List Lz) : List Value := l.flatMap fun x => [.int .i64 x.key, .int .i64 x.gen, .int .i64 x.amount, .int .i64 x.spent, .int .i64 x.til]
theorem cells5_snoc (l : List Lz) (x : Lz) : cells5 (l ++ [x]) = cells5 l ++ [.int .i64 x.key, .int .i64 x.gen, .int .i64 x.amount, .int .i64 x.spent, .int .i64 x.til] := by simp [cells5]
theorem cells5_len (l : List Lz) : (cells5 l).length = l.length * 5 := by
  induction l with
  | nil => rfl
  | cons s l ih =>
    simp only [cells5, List.flatMap_cons, List.length_append, List.length_cons, List.length_nil] at ih ⊢
    omega
theorem cells5_at : ∀ (l : List Lz) (j : Nat) (_ : j < l.length), (cells5 l)[j * 5]? = some (.int .i64 (l.getD j z).key) ∧ (cells5 l)[j * 5 + 1]? = some (.int .i64 (l.getD j z).gen) ∧ (cells5 l)[j * 5 + 2]? = some (.int .i64 (l.getD j z).amount) ∧ (cells5 l)[j * 5 + 3]? = some (.int .i64 (l.getD j z).spent) ∧ (cells5 l)[j * 5 + 4]? = some (.int .i64 (l.getD j z).til)
  | [], j, hj => by simp at hj
  | x :: l, 0, _ => by simp [cells5]
  | x :: l, j + 1, hj => by
    have := cells5_at l j (by simpa using hj)
    have e : cells5 (x :: l) = [.int .i64 x.key, .int .i64 x.gen, .int .i64 x.amount, .int .i64 x.spent, .int .i64 x.til] ++ cells5 l := by simp [cells5]
    rw [e]
    have s : ∀ n, ([Value.int .i64 x.key, .int .i64 x.gen, .int .i64 x.amount, .int .i64 x.spent, .int .i64 x.til] ++ cells5 l)[5 + n]? = (cells5 l)[n]? := fun n => by
      rw [List.getElem?_append_right (by simp)]; simp
    have d : (x :: l).getD (j + 1) z = l.getD j z := by simp [List.getD]
    rw [d]
    refine ⟨?_, ?_, ?_, ?_, ?_⟩
    · rw [show (j + 1) * 5 = 5 + j * 5 by omega, s]; exact this.1
    · rw [show (j + 1) * 5 + 1 = 5 + (j * 5 + 1) by omega, s]; exact this.2.1
    · rw [show (j + 1) * 5 + 2 = 5 + (j * 5 + 2) by omega, s]; exact this.2.2.1
    · rw [show (j + 1) * 5 + 3 = 5 + (j * 5 + 3) by omega, s]; exact this.2.2.2.1
    · rw [show (j + 1) * 5 + 4 = 5 + (j * 5 + 4) by omega, s]; exact this.2.2.2.2
/-- The five cells of a lease. -/
def At (w : World) (b o : Nat) (x : Lz) : Prop := w.cell? ⟨b, o, none⟩ = some (.int .i64 x.key) ∧ w.cell? ⟨b, o + 1, none⟩ = some (.int .i64 x.gen) ∧ w.cell? ⟨b, o + 2, none⟩ = some (.int .i64 x.amount) ∧ w.cell? ⟨b, o + 3, none⟩ = some (.int .i64 x.spent) ∧ w.cell? ⟨b, o + 4, none⟩ = some (.int .i64 x.til)
/-- Leases that lie. -/
def Lies (w : World) (p : Option Addr) (l : List Lz) : Prop := l = [] ∨ ∃ b o, p = some ⟨b, o, none⟩ ∧ ∀ j, j < l.length → At w b (o + j * 5) (l.getD j z)
theorem cell_on {w w' : World} {b o : Nat} {v : Value} (h : w.cell? ⟨b, o, none⟩ = some v) (hb : Below w.heap.size w w') : w'.cell? ⟨b, o, none⟩ = some v :=
  (hb.cell (p := ⟨b, o, none⟩) (World.block_lt_of_cell? _ _ h)).trans h
theorem At.below {w w' : World} {b o : Nat} {x : Lz} (h : At w b o x) (hb : Below w.heap.size w w') : At w' b o x :=
  ⟨cell_on h.1 hb, cell_on h.2.1 hb, cell_on h.2.2.1 hb, cell_on h.2.2.2.1 hb, cell_on h.2.2.2.2 hb⟩
theorem Lies.below {w w' : World} {p : Option Addr} {l : List Lz} (h : Lies w p l) (hb : Below w.heap.size w w') : Lies w' p l := by
  rcases h with h | ⟨b, o, e, hc⟩
  · exact .inl h
  · exact .inr ⟨b, o, e, fun j hj => (hc j hj).below hb⟩
theorem lies_at {w : World} {p : Option Addr} {l : List Lz} (h : Lies w p l) {j : Nat} (hj : j < l.length) : ∃ b o, p = some ⟨b, o, none⟩ ∧ At w b (o + j * 5) (l.getD j z) := by
  rcases h with h | ⟨b, o, e, hc⟩
  · rw [h] at hj; simp at hj
  · exact ⟨b, o, e, hc j hj⟩
/-- Leases (of element type E) that a call owns. -/
def Own (E : TypeId) (B : Nat) (w : World) (v : Value) (l : List Lz) : Prop := w.ownsRow B E 5 v l.length (cells5 l)
section
variable {w w' : World} {E : TypeId} {B b : Nat} {v : Value} {l : List Lz}
/-- What is of none of these types stays. -/
structure Kept (ts : List TypeId) (w w' : World) : Prop where
  size : w.heap.size ≤ w'.heap.size
  obj : ∀ (g : Nat) (o : Obj), w.heap[g]? = some o → (∀ cs t z, o = Obj.cells cs t z → t ∉ ts) → w'.heap[g]? = some o
/-- The document's wallet. -/
def Wl (B : Nat) (w : World) (v : Nat) (l : List Lz) : Prop := B ≤ v ∧ ∃ y, w.heap[v]? = some (.cells #[y] 92 (0, 0)) ∧ Own 131 B w y l
end
theorem box5 {w : World} {b : Nat} {v0 v1 v2 v3 v4 : Value} {T : TypeId} (h : w.heap[b]? = some (.cells #[v0, v1, v2, v3, v4] T (0, 0))) : w.cell? ⟨b, 0, none⟩ = some v0 ∧ w.cell? ⟨b, 1, none⟩ = some v1 ∧ w.cell? ⟨b, 2, none⟩ = some v2 ∧ w.cell? ⟨b, 3, none⟩ = some v3 ∧ w.cell? ⟨b, 4, none⟩ = some v4 :=
  ⟨by rw [cell_of_row w b 0 _ _ (0, 0) h]; rfl, by rw [cell_of_row w b 1 _ _ (0, 0) h]; rfl, by rw [cell_of_row w b 2 _ _ (0, 0) h]; rfl, by rw [cell_of_row w b 3 _ _ (0, 0) h]; rfl, by rw [cell_of_row w b 4 _ _ (0, 0) h]; rfl⟩
end Go.Proofs.YtbgdlokegibkmaaGreat.Lease

namespace Go.Proofs.YtbgdlokegibkmaaGreat.Lease2
open Go.RowKit
open _root_.Go.Proofs.YtbgdlokegibkmaaGreat.Codec (own_below own_lower lt_of_heap frozen_of heap_set grown_set)
open _root_.Go.Proofs.YtbgdlokegibkmaaGreat.Lease
/-- The document's wallet. -/
def Wl (B : Nat) (w : World) (v ov : Nat) (l : List Lz) : Prop := B ≤ v ∧ ∃ cs T y, w.heap[v]? = some (.cells cs T (0, 0)) ∧ cs[ov]? = some y ∧ Own 131 B w y l
end Go.Proofs.YtbgdlokegibkmaaGreat.Lease2
