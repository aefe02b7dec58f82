/-
  Tables, plain: a key's row, its total, minted; a table with another row; what is out. No program; no conditions beyond those that each names.
-/
import Derived.Test.YtdcclmellabnlaaFramePlain
import Derived.Test.YtdcclmellabnlaaSatPlain
namespace Go.Proofs.Ytdcclmellabnlaa.Ledger
open _root_.Go.Proofs.Ytdcclmellabnlaa.Frame (Rw Tb noRow)
open _root_.Go.Proofs.Ytdcclmellabnlaa.Sat (fit add sub mul)

/-- The place of the first one; -1: there is none. -/
def spot {α : Type} (f : α → Bool) : List α → Int
  | [] => -1
  | x :: l => if f x = true then 0 else if spot f l < 0 then -1 else spot f l + 1
theorem spot_at {α : Type} (f : α → Bool) (d : α) : ∀ (l : List α) (j : Nat), j < l.length → (∀ i, i < j → f (l.getD i d) = false) → f (l.getD j d) = true → spot f l = (j : Int)
  | [], j, hj, _, _ => by simp at hj
  | x :: l, 0, _, _, h => by
    have h' : f x = true := by simpa using h
    simp [spot, h']
  | x :: l, j + 1, hj, h0, h => by
    have hx : f x = false := by simpa using h0 0 (by omega)
    have := spot_at f d l j (by simpa using hj) (fun i hi => by simpa using h0 (i + 1) (by omega)) (by simpa using h)
    rw [spot, if_neg (by simp [hx]), this, if_neg (by omega)]
    omega
theorem spot_none {α : Type} (f : α → Bool) (d : α) : ∀ (l : List α), (∀ i, i < l.length → f (l.getD i d) = false) → spot f l = -1
  | [], _ => rfl
  | x :: l, h => by
    have hx : f x = false := by simpa using h 0 (by simp)
    have := spot_none f d l (fun i hi => by simpa using h (i + 1) (by simpa using hi))
    rw [spot, if_neg (by simp [hx]), this, if_pos (by omega)]
theorem spot_cases {α : Type} (f : α → Bool) (d : α) (l : List α) : (spot f l = -1 ∧ ∀ i, i < l.length → f (l.getD i d) = false) ∨ ∃ j : Nat, spot f l = (j : Int) ∧ j < l.length ∧ f (l.getD j d) = true ∧ ∀ i, i < j → f (l.getD i d) = false := by
  by_cases h : ∀ i, i < l.length → f (l.getD i d) = false
  · exact .inl ⟨spot_none f d l h, h⟩
  · right
    have hex : ∃ j, j < l.length ∧ f (l.getD j d) = true := by
      refine Classical.byContradiction fun hn => h fun i hi => ?_
      cases hf : f (l.getD i d) with
      | false => rfl
      | true => exact absurd ⟨i, hi, hf⟩ hn
    have : ∀ n, (∃ j, j ≤ n ∧ j < l.length ∧ f (l.getD j d) = true) → ∃ j, j < l.length ∧ f (l.getD j d) = true ∧ ∀ i, i < j → f (l.getD i d) = false := by
      intro n
      induction n with
      | zero =>
        rintro ⟨j, h0, h1, h2⟩
        exact ⟨j, h1, h2, fun i hi => by omega⟩
      | succ n ih =>
        rintro ⟨j, h0, h1, h2⟩
        by_cases hm : ∃ j, j ≤ n ∧ j < l.length ∧ f (l.getD j d) = true
        · exact ih hm
        · refine ⟨j, h1, h2, fun i hi => ?_⟩
          cases hf : f (l.getD i d) with
          | false => rfl
          | true => exact absurd ⟨i, by omega, by omega, hf⟩ hm
    obtain ⟨j, h1, h2⟩ := hex
    obtain ⟨k, k1, k2, k3⟩ := this j ⟨j, Nat.le_refl _, h1, h2⟩
    exact ⟨k, spot_at f d l k k1 k3 k2, k1, k2, k3⟩

/-- The place of a key's row, of a node's lease. -/
def place (l : List Rw) (key : Int) : Int := spot (fun r => r.key == key) l
def outAt (l : List (Int × Int)) (node : Int) : Int := spot (fun x => x.1 == node) l
/-- A key's row. -/
def findRow (t : Tb) (key : Int) : Rw := if place t.rows key < 0 then ⟨key, 0, t.start, []⟩ else t.rows.getD (place t.rows key).toNat noRow
def findIs (t : Tb) (key : Int) : Bool := decide (0 ≤ place t.rows key)
/-- A row's total. -/
def total (r : Rw) : Int := add (r.avail :: r.out.map (·.2))
/-- A row, minted. -/
def minted (r : Rw) (now R B : Int) : Rw := ⟨r.key, add [r.avail, min (mul R (sub now r.mark)) (sub B (total r))], max r.mark now, r.out⟩
def look (t : Tb) (key now R B : Int) : Rw := minted (findRow t key) now R B
/-- A table's rows with another one, by keys: how far it is. -/
def setStep (r : Rw) (s : List Rw × Bool) (x : Rw) : List Rw × Bool := ((if s.2 = false ∧ r.key ≤ x.key then s.1 ++ [r] else s.1) ++ (if x.key = r.key then [] else [x]), s.2 || decide (r.key ≤ x.key))
def setTo (r : Rw) (l : List Rw) : List Rw × Bool := l.foldl (setStep r) ([], false)
def setRows (l : List Rw) (r : Rw) : List Rw := if (setTo r l).2 = true then (setTo r l).1 else (setTo r l).1 ++ [r]
def setRow (t : Tb) (r : Rw) : Tb := ⟨t.start, setRows t.rows r⟩
theorem setTo_take (r : Rw) (l : List Rw) (k : Nat) (h : k < l.length) : setTo r (l.take (k + 1)) = setStep r (setTo r (l.take k)) (l.getD k noRow) := by
  have e : l.getD k noRow = l[k] := by simp [List.getD, h]
  rw [e, List.take_succ_eq_append_getElem h]
  simp only [setTo, List.foldl_append, List.foldl_cons, List.foldl_nil]
/-- One, if it is not in yet. -/
def rest : Bool → Nat
  | true => 0
  | false => 1
theorem setTo_rest (r : Rw) : ∀ (l : List Rw) (s : List Rw × Bool), (l.foldl (setStep r) s).1.length + rest (l.foldl (setStep r) s).2 ≤ s.1.length + rest s.2 + l.length
  | [], s => Nat.le_refl _
  | x :: l, (a, b) => by
    refine Nat.le_trans (setTo_rest r l _) ?_
    simp only [setStep, List.length_append, List.length_cons]
    cases b <;> by_cases h1 : r.key ≤ x.key <;> by_cases h2 : x.key = r.key <;> simp [h1, h2, rest] <;> omega
theorem setTo_len (r : Rw) (l : List Rw) : (setTo r l).1.length + rest (setTo r l).2 ≤ l.length + 1 := by
  have : (l.foldl (setStep r) ([], false)).1.length + rest (l.foldl (setStep r) ([], false)).2 ≤ 0 + 1 + l.length := setTo_rest r l ([], false)
  unfold setTo
  omega
theorem setRows_len (l : List Rw) (r : Rw) : (setRows l r).length ≤ l.length + 1 := by
  have := setTo_len r l
  unfold setRows
  split
  · omega
  · rename_i h
    rw [Bool.not_eq_true] at h
    rw [h] at this
    simp only [rest] at this
    simp
    omega
end Go.Proofs.Ytdcclmellabnlaa.Ledger
