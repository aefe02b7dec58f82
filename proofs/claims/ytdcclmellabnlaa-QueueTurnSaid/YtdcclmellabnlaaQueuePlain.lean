/-
  Items as data, and what a queue of them does: put, take, expire, of, keys, sum; what such a queue keeps. Plain functions, no program.
-/
import Derived.Test.YtdcclmellabnlaaLedgerPlain
import Derived.Test.YtdcclmellabnlaaSatPlain
namespace Go.Proofs.Ytdcclmellabnlaa.Queue
open _root_.Go.Proofs.Ytdcclmellabnlaa.Ledger (spot spot_at spot_none spot_cases)
open _root_.Go.Proofs.Ytdcclmellabnlaa.Sat (add)

structure It where
  id : Int
  key : Int
  cost : Int
  cls : Int
  til : Int
def z : It := ⟨0, 0, 0, 0, 0⟩
def Num (x : Int) : Prop := -9223372036854775808 ≤ x ∧ x ≤ 9223372036854775807
def Nums (x : It) : Prop := Num x.id ∧ Num x.key ∧ Num x.cost ∧ Num x.cls ∧ Num x.til
/-- The place of a name's; -1: there is none. -/
def place (l : List It) (i : Int) : Int := spot (fun x => x.id == i) l
def the (l : List It) (i : Int) : It := l.getD (place l i).toNat z
def wrong (x : It) : Prop := x.cost < 1 ∨ x.cls < 0 ∨ 2 < x.cls ∨ x.til < 0
instance (x : It) : Decidable (wrong x) := by unfold wrong; infer_instance
def put (room : Int) (l : List It) (x : It) : List It × Int := if wrong x then (l, 1) else if 0 ≤ place l x.id then (l, 5) else if room ≤ l.length then (l, 3) else (l ++ [x], 0)
def isOf (k c : Int) (x : It) : Bool := x.key == k && x.cls == c
def ofc (l : List It) (k c : Int) : List It := l.filter (isOf k c)
def of (l : List It) (k : Int) : List It := ofc l k 0 ++ ofc l k 1 ++ ofc l k 2
def take (l : List It) (i : Int) : List It × It × Bool := if place l i < 0 then (l, z, false) else (l.eraseIdx (place l i).toNat, the l i, true)
def due (now : Int) (x : It) : Bool := decide (x.til ≤ now)
def expire (l : List It) (now : Int) : List It × List It := (l.filter fun x => !due now x, l.filter (due now))
def kstep (k : Int) (s : List Int × Bool) (a : Int) : List Int × Bool :=
  if s.2 = false ∧ k ≤ a then (if a = k then s.1 ++ [k] else s.1 ++ [k] ++ [a], true) else (if a = k then s.1 else s.1 ++ [a], s.2)
def kfold (k : Int) (l : List Int) : List Int × Bool := l.foldl (kstep k) ([], false)
def kput (k : Int) (l : List Int) : List Int := if (kfold k l).2 = true then (kfold k l).1 else (kfold k l).1 ++ [k]
def keys (l : List It) : List Int := l.foldl (fun s x => kput x.key s) []
def sums (l : List It) : Int := l.foldl (fun s x => add [s, x.cost]) 0
def sum (l : List It) (k : Int) : Int := sums (of l k)

/-- What a queue keeps. -/
structure Good (room : Int) (l : List It) : Prop where
  room : (l.length : Int) ≤ room
  names : l.Pairwise fun a b => a.id ≠ b.id
  each : ∀ x ∈ l, ¬ wrong x ∧ Nums x
theorem good_nil {room : Int} (h : 0 ≤ room) : Good room [] := ⟨by simpa using h, .nil, fun x h => by cases h⟩
theorem place_some {l : List It} {k : Int} (h : 0 ≤ place l k) : (place l k).toNat < l.length ∧ (the l k).id = k ∧ the l k ∈ l := by
  unfold the
  rcases spot_cases (fun x : It => x.id == k) z l with ⟨e, -⟩ | ⟨j, e, hj, hk, -⟩
  · unfold place at h; omega
  · have e' : (place l k).toNat = j := by unfold place; omega
    rw [e']
    refine ⟨hj, by simpa using hk, ?_⟩
    simp [List.getD, hj]
theorem place_none {l : List It} {k : Int} (h : place l k < 0) : ∀ x ∈ l, x.id ≠ k := by
  rcases spot_cases (fun x : It => x.id == k) z l with ⟨-, e⟩ | ⟨j, e, -⟩
  · intro x hx
    obtain ⟨i, hi, rfl⟩ := List.getElem_of_mem hx
    have := e i hi
    simpa [List.getD, hi] using this
  · unfold place at h; omega
theorem place_ge (l : List It) (k : Int) : -1 ≤ place l k ∧ place l k < l.length := by
  unfold place
  rcases spot_cases (fun x : It => x.id == k) z l with ⟨e, -⟩ | ⟨j, e, hj, -⟩ <;> omega
theorem good_put {room : Int} {l : List It} (h : Good room l) {x : It} (hx : Nums x) : Good room (put room l x).1 := by
  unfold put
  split
  · exact h
  · split
    · exact h
    · split
      · exact h
      · rename_i hw hp hr
        refine ⟨by simp; omega, ?_, fun y hy => ?_⟩
        · rw [List.pairwise_append]
          refine ⟨h.names, by simp, fun a ha b hb => ?_⟩
          rw [List.mem_singleton.1 hb]
          exact place_none (by omega) a ha
        · rcases List.mem_append.1 hy with hy | hy
          · exact h.each y hy
          · rw [List.mem_singleton.1 hy]
            exact ⟨hw, hx⟩
theorem good_sub {room : Int} {l m : List It} (h : Good room l) (s : List.Sublist m l) : Good room m :=
  ⟨by have := s.length_le; have := h.room; omega, h.names.sublist s, fun x hx => h.each x (s.subset hx)⟩
theorem good_take {room : Int} {l : List It} (h : Good room l) (i : Int) : Good room (take l i).1 := by
  unfold take
  split
  · exact h
  · exact good_sub h (List.eraseIdx_sublist _ _)
theorem good_expire {room : Int} {l : List It} (h : Good room l) (now : Int) : Good room (expire l now).1 := good_sub h List.filter_sublist
theorem ofc_len (l : List It) (k c : Int) : (ofc l k c).length ≤ l.length := List.length_filter_le _ _
theorem of_len : ∀ (l : List It) (k : Int), (of l k).length ≤ l.length
  | [], _ => by simp [of, ofc]
  | x :: l, k => by
    have ih := of_len l k
    simp only [of, ofc, List.length_append, List.filter_cons] at ih ⊢
    by_cases hk : x.key = k
    · by_cases h0 : x.cls = 0
      · simp [isOf, hk, h0] at ih ⊢; omega
      · by_cases h1 : x.cls = 1
        · simp [isOf, hk, h1] at ih ⊢; omega
        · by_cases h2 : x.cls = 2
          · simp [isOf, hk, h2] at ih ⊢; omega
          · simp [isOf, hk, h0, h1, h2] at ih ⊢; omega
    · simp [isOf, hk] at ih ⊢; omega
theorem kstep_len (k : Int) (s : List Int × Bool) (a : Int) : (kstep k s a).1.length + (if (kstep k s a).2 = true then 0 else 1) ≤ s.1.length + (if s.2 = true then 0 else 1) + 1 := by
  obtain ⟨l, d⟩ := s
  unfold kstep
  cases d <;> simp only <;> repeat' split <;> simp_all
theorem kfold_snoc (k : Int) (l : List Int) (a : Int) : kfold k (l ++ [a]) = kstep k (kfold k l) a := by unfold kfold; rw [List.foldl_append]; rfl
theorem kfold_len (k : Int) (l : List Int) : (kfold k l).1.length + (if (kfold k l).2 = true then 0 else 1) ≤ l.length + 1 := by
  suffices h : ∀ (l : List Int) (s : List Int × Bool), (l.foldl (kstep k) s).1.length + (if (l.foldl (kstep k) s).2 = true then 0 else 1) ≤ s.1.length + (if s.2 = true then 0 else 1) + l.length by
    have := h l ([], false)
    unfold kfold
    simp at this ⊢
    omega
  intro l
  induction l with
  | nil => intro s; exact Nat.le_refl _
  | cons a l ih =>
    intro s
    have h1 := ih (kstep k s a)
    have h2 := kstep_len k s a
    rw [List.foldl_cons, List.length_cons]
    omega
theorem kput_len (k : Int) (l : List Int) : (kput k l).length ≤ l.length + 1 := by
  have := kfold_len k l
  unfold kput
  split
  · rename_i h
    rw [if_pos h] at this
    omega
  · rename_i h
    rw [if_neg h] at this
    simp
    omega
theorem keys_len (l : List It) : (keys l).length ≤ l.length := by
  suffices h : ∀ (l : List It) (s : List Int), (l.foldl (fun s x => kput x.key s) s).length ≤ s.length + l.length by
    have := h l []
    simp only [List.length_nil, Nat.zero_add] at this
    exact this
  intro l
  induction l with
  | nil => intro s; simp
  | cons a l ih =>
    intro s
    have h1 := ih (kput a.key s)
    have h2 := kput_len a.key s
    rw [List.foldl_cons, List.length_cons]
    omega
theorem keys_snoc (l : List It) (x : It) : keys (l ++ [x]) = kput x.key (keys l) := by unfold keys; rw [List.foldl_append]; rfl
theorem sums_snoc (l : List It) (x : It) : sums (l ++ [x]) = add [sums l, x.cost] := by unfold sums; rw [List.foldl_append]; rfl
end Go.Proofs.Ytdcclmellabnlaa.Queue
