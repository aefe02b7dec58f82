/-
  Frames, plain: leases, rows, tables, tokens and frames as data; which of them may be, and which are the same, by the document's own order of asking. No program; no conditions.
-/
namespace Go.Proofs.Ytkdjhphakopfeaa.Frame

structure Rw where
  key : Int
  avail : Int
  mark : Int
  out : List (Int × Int)
structure Tb where
  start : Int
  rows : List Rw
structure Tk where
  gen : Int
  hop : Int
  stamps : List Int
  table : Tb
structure Fr where
  kind : Int
  src : Int
  dst : Int
  gen : Int
  hop : Int
  bits : Int
  token : Tk
instance : Inhabited Rw := ⟨⟨0, 0, 0, []⟩⟩
def noRow : Rw := ⟨0, 0, 0, []⟩

/-- Does it hold of all below n? -/
def allTo (f : Nat → Bool) (n : Nat) : Bool := (List.range n).all f
theorem allTo_true {f : Nat → Bool} {n : Nat} (h : ∀ j, j < n → f j = true) : allTo f n = true := by
  rw [allTo, List.all_eq_true]
  intro j hj
  exact h j (List.mem_range.1 hj)
theorem allTo_false {f : Nat → Bool} {n k : Nat} (hk : k < n) (h : f k = false) : allTo f n = false := by
  rw [allTo, List.all_eq_false]
  exact ⟨k, List.mem_range.2 hk, by rw [h]; simp⟩
theorem allTo_succ (f : Nat → Bool) (n : Nat) : allTo f (n + 1) = (allTo f n && f n) := by
  simp [allTo, List.range_succ]

def isIn (x lo hi : Int) : Bool := decide (lo ≤ x ∧ x ≤ hi)
theorem isIn_yes {x lo hi : Int} (h : isIn x lo hi = true) : lo ≤ x ∧ x ≤ hi := by simpa [isIn] using h
theorem isIn_no {x lo hi : Int} (h : isIn x lo hi = false) : x < lo ∨ (lo ≤ x ∧ hi < x) := by
  simp [isIn] at h
  omega
def isKey (k : Int) : Bool := decide (0 ≤ k ∧ k < 524288)

def leaseAt (l : List (Int × Int)) (i : Nat) : Bool := isIn (l.getD i (0, 0)).1 0 63 && isIn (l.getD i (0, 0)).2 1 2147483648 && (i == 0 || decide ((l.getD (i - 1) (0, 0)).1 < (l.getD i (0, 0)).1))
def rowOk (r : Rw) (start : Int) : Bool := isKey r.key && isIn r.avail 0 2147483648 && isIn r.mark start 4611686018427387904 && decide (r.out.length ≤ 64) && allTo (leaseAt r.out) r.out.length
def rowAt (l : List Rw) (start : Int) (i : Nat) : Bool := rowOk (l.getD i noRow) start && (i == 0 || decide ((l.getD (i - 1) noRow).key < (l.getD i noRow).key))
def tableOk (t : Tb) : Bool := isIn t.start 0 4611686018427387904 && decide (t.rows.length ≤ 16) && allTo (rowAt t.rows t.start) t.rows.length
def stampsOk (l : List Int) (n : Nat) : Bool := allTo (fun i => isIn (l.getD i 0) (-1) 4611686018427387903) n
def tokenHead (t : Tk) : Bool := isIn t.gen 1 1099511627776 && isIn t.hop 0 1099511627776 && isIn t.stamps.length 1 64
def tokenOk (t : Tk) : Bool := tokenHead t && stampsOk t.stamps t.stamps.length && tableOk t.table
def tokenNone (t : Tk) : Bool := t.gen == 0 && t.hop == 0 && t.stamps.length == 0 && t.table.start == 0 && t.table.rows.length == 0
def frameOk (f : Fr) : Bool :=
  isIn f.src 0 63 && isIn f.dst 0 63 &&
    (if f.kind = 0 then tokenOk f.token && f.gen == 0 && f.hop == 0 && f.bits == 0
     else if f.kind = 1 then tokenNone f.token && isIn f.gen 1 1099511627776 && isIn f.hop 0 1099511627776 && f.bits == 0
     else if f.kind = 2 then tokenNone f.token && isIn f.gen 1 1099511627776 && f.hop == 0
     else if f.kind = 3 then tokenNone f.token && f.gen == 0 && f.hop == 0 && f.bits == 0
     else false)

def sameInts (a b : List Int) : Bool := a.length == b.length && allTo (fun i => a.getD i 0 == b.getD i 0) a.length
def samePair (a b : Int × Int) : Bool := a.1 == b.1 && a.2 == b.2
def sameLeases (a b : List (Int × Int)) : Bool := allTo (fun i => samePair (a.getD i (0, 0)) (b.getD i (0, 0))) a.length
def sameRow (a b : Rw) : Bool := a.key == b.key && a.avail == b.avail && a.mark == b.mark && a.out.length == b.out.length && sameLeases a.out b.out
def sameTable (a b : Tb) : Bool := a.start == b.start && a.rows.length == b.rows.length && allTo (fun i => sameRow (a.rows.getD i noRow) (b.rows.getD i noRow)) a.rows.length
def sameToken (a b : Tk) : Bool := a.gen == b.gen && a.hop == b.hop && sameInts a.stamps b.stamps && sameTable a.table b.table
def sameFrame (a b : Fr) : Bool := a.kind == b.kind && a.src == b.src && a.dst == b.dst && a.gen == b.gen && a.hop == b.hop && a.bits == b.bits && sameToken a.token b.token

/-! The numbers of a token, in their order. -/
def leaseNums (l : List (Int × Int)) : List Int := l.flatMap fun x => [x.1, x.2]
def rowNums (r : Rw) : List Int := [r.key, r.avail, r.mark, (r.out.length : Int)] ++ leaseNums r.out
def headNums (t : Tk) : List Int := [t.gen, t.hop, (t.stamps.length : Int)]
def tokenNums (t : Tk) : List Int := headNums t ++ t.stamps.map (· + 1) ++ [t.table.start, (t.table.rows.length : Int)] ++ t.table.rows.flatMap rowNums
theorem len_leaseNums : ∀ l : List (Int × Int), (leaseNums l).length = 2 * l.length
  | [] => rfl
  | x :: l => by
    have := len_leaseNums l
    simp [leaseNums] at this ⊢
    omega
theorem leaseNums_take (l : List (Int × Int)) (j : Nat) (h : j < l.length) : leaseNums (l.take (j + 1)) = leaseNums (l.take j) ++ [(l.getD j (0, 0)).1, (l.getD j (0, 0)).2] := by
  have e : l.getD j (0, 0) = l[j] := by simp [List.getD, h]
  rw [e, List.take_succ_eq_append_getElem h]
  simp only [leaseNums, List.flatMap_append, List.flatMap_cons, List.flatMap_nil, List.append_nil]
theorem rows_take (l : List Rw) (j : Nat) (h : j < l.length) : (l.take (j + 1)).flatMap rowNums = (l.take j).flatMap rowNums ++ rowNums (l.getD j noRow) := by
  have e : l.getD j noRow = l[j] := by simp [List.getD, h]
  rw [e, List.take_succ_eq_append_getElem h]
  simp only [List.flatMap_append, List.flatMap_cons, List.flatMap_nil, List.append_nil]
theorem stamps_take (l : List Int) (j : Nat) (h : j < l.length) : (l.take (j + 1)).map (· + 1) = (l.take j).map (· + 1) ++ [l.getD j 0 + 1] := by
  have e : l.getD j 0 = l[j] := by simp [List.getD, h]
  rw [e, List.take_succ_eq_append_getElem h]
  simp only [List.map_append, List.map_cons, List.map_nil]
theorem len_rows_flat (l : List Rw) (hl : ∀ r ∈ l, r.out.length ≤ 64) : (l.flatMap rowNums).length ≤ 132 * l.length := by
  induction l with
  | nil => simp
  | cons r l ih =>
    have h1 := ih (fun x hx => hl x (by simp [hx]))
    have h2 := hl r (by simp)
    have h3 := len_leaseNums r.out
    simp [rowNums] at h1 h3 ⊢
    omega
end Go.Proofs.Ytkdjhphakopfeaa.Frame
