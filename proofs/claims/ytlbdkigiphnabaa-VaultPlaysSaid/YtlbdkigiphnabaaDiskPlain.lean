/-
  A disk as data: what is safe, and what is loose; what each act makes of it and tells. Plain functions, no program.
-/
namespace Go.Proofs.Ytlbdkigiphnabaa.Disk

/-- What is safe; what is loose. -/
abbrev Sl := List Int × List Int
def all (s : Sl) : List Int := s.1 ++ s.2
def over (room : Int) (s : Sl) (b : List Int) : Bool := decide ((room : Int) < (s.1.length : Int) + (s.2.length : Int) + (b.length : Int))
def dWrite (room : Int) (s : Sl) (b : List Int) : Sl := if over room s b then s else (s.1, s.2 ++ b)
def eWrite (room : Int) (s : Sl) (b : List Int) : Int := if over room s b then 3 else 0
def dSync (s : Sl) : Sl := (all s, [])
def stay (k : Int) (s : Sl) : Nat := min k.toNat s.2.length
def dCrash (k : Int) (s : Sl) : Sl := (s.1 ++ s.2.take (stay k s), [])
def gone (k : Int) (s : Sl) : Int := (s.2.length : Int) - (stay k s : Int)
def much (room : Int) (b : List Int) : Bool := decide ((room : Int) < (b.length : Int))
def dReplace (room : Int) (s : Sl) (b : List Int) : Sl := if much room b then s else (b, [])
def eReplace (room : Int) (b : List Int) : Int := if much room b then 3 else 0

/-- All of it fits. -/
def Holds (room : Int) (s : Sl) : Prop := (s.1.length : Int) + (s.2.length : Int) ≤ room
theorem holds_write {room : Int} {s : Sl} (b : List Int) (h : Holds room s) : Holds room (dWrite room s b) := by
  unfold dWrite over
  split
  · exact h
  · rename_i hn
    simp only [decide_eq_true_eq] at hn
    simp only [Holds, List.length_append]
    omega
theorem holds_sync {room : Int} {s : Sl} (h : Holds room s) : Holds room (dSync s) := by
  simp only [Holds, dSync, all, List.length_append, List.length_nil] at h ⊢
  omega
theorem stay_le (k : Int) (s : Sl) : stay k s ≤ s.2.length := Nat.min_le_right _ _
theorem holds_crash {room : Int} {s : Sl} (k : Int) (h : Holds room s) : Holds room (dCrash k s) := by
  have := stay_le k s
  simp only [Holds, dCrash, List.length_append, List.length_take, List.length_nil] at h ⊢
  omega
theorem holds_replace {room : Int} {s : Sl} (b : List Int) (h : Holds room s) : Holds room (dReplace room s b) := by
  unfold dReplace much
  split
  · exact h
  · rename_i hn
    simp only [decide_eq_true_eq] at hn
    simp only [Holds, List.length_nil]
    omega

/-- An act: its kind, its bytes, its number. -/
structure Ac where
  kind : Int
  b : List Int
  n : Int
def noAc : Ac := ⟨0, [], 0⟩
/-- Which of the five ways. -/
def way (k : Int) : Nat := (k % 5).toNat
def dStep (room : Int) (s : Sl) (a : Ac) : Sl :=
  match way a.kind with
  | 0 => dWrite room s a.b
  | 1 => dWrite room s a.b
  | 2 => dSync s
  | 3 => dCrash a.n s
  | _ => dReplace room s a.b
theorem holds_step {room : Int} {s : Sl} (a : Ac) (h : Holds room s) : Holds room (dStep room s a) := by
  unfold dStep
  split
  · exact holds_write _ h
  · exact holds_write _ h
  · exact holds_sync h
  · exact holds_crash _ h
  · exact holds_replace _ h

/-- Are acts such as are gone through? -/
def sum (l : List Ac) : Nat := (l.map fun a => a.b.length).sum
def fits (l : List Ac) : Bool := decide (l.length ≤ 60) && decide (sum l ≤ 3000)
theorem take_snoc (l : List Ac) (k : Nat) (hk : k < l.length) : l.take (k + 1) = l.take k ++ [l.getD k noAc] := by
  rw [List.take_add_one]
  simp [List.getD, hk]
theorem sum_take_succ (l : List Ac) (k : Nat) (hk : k < l.length) : sum (l.take (k + 1)) = sum (l.take k) + (l.getD k noAc).b.length := by
  rw [take_snoc l k hk]
  simp [sum]
theorem sum_take_le (l : List Ac) (k : Nat) : sum (l.take k) ≤ sum l := by
  have : sum l = sum (l.take k) + sum (l.drop k) := by unfold sum; rw [← List.sum_append, ← List.map_append, List.take_append_drop]
  omega
theorem one_le (l : List Ac) (k : Nat) (hk : k < l.length) : (l.getD k noAc).b.length ≤ sum l := by
  have h1 := sum_take_succ l k hk
  have h2 := sum_take_le l (k + 1)
  omega
/-- Acts, one by one. -/
def dSteps (room : Int) (s : Sl) (l : List Ac) : Sl := l.foldl (dStep room) s
theorem steps_snoc (room : Int) (s : Sl) (l : List Ac) (k : Nat) (hk : k < l.length) : dSteps room s (l.take (k + 1)) = dStep room (dSteps room s (l.take k)) (l.getD k noAc) := by
  rw [take_snoc l k hk]
  simp [dSteps]
end Go.Proofs.Ytlbdkigiphnabaa.Disk
