/-
  Leases as data, and what a wallet of them does: find, put, left, spend, close, drop; what such a wallet keeps. Plain functions, no program.
-/
import Derived.Test.YtlipepbemofihaaLedgerPlain
namespace Go.Proofs.Ytlipepbemofihaa.Lease
open _root_.Go.Proofs.Ytlipepbemofihaa.Ledger (spot spot_at spot_none spot_cases)

structure Lz where
  key : Int
  gen : Int
  amount : Int
  spent : Int
  til : Int
def z : Lz := ⟨0, 0, 0, 0, 0⟩
def Num (x : Int) : Prop := -9223372036854775808 ≤ x ∧ x ≤ 9223372036854775807
def Nums (x : Lz) : Prop := Num x.key ∧ Num x.gen ∧ Num x.amount ∧ Num x.spent ∧ Num x.til
/-- The place of a key's; -1: there is none. -/
def place (l : List Lz) (k : Int) : Int := spot (fun x => x.key == k) l
def the (l : List Lz) (k : Int) : Lz := l.getD (place l k).toNat z
def wrong (x : Lz) : Prop := x.gen < 1 ∨ x.amount < 1 ∨ x.spent ≠ 0 ∨ x.til < 0
instance (x : Lz) : Decidable (wrong x) := by unfold wrong; infer_instance
def ins (x : Lz) : List Lz → List Lz
  | [] => [x]
  | y :: l => if x.key < y.key then x :: y :: l else y :: ins x l
def put (l : List Lz) (x : Lz) : List Lz × Int := if wrong x then (l, 1) else if 0 ≤ place l x.key then (l, 5) else (ins x l, 0)
def left (l : List Lz) (k now : Int) : Int := if place l k < 0 ∨ (the l k).til ≤ now then 0 else (the l k).amount - (the l k).spent
def more (x : Lz) (c : Int) : Lz := ⟨x.key, x.gen, x.amount, x.spent + c, x.til⟩
def spend (l : List Lz) (k c now : Int) : List Lz × Int × Bool := if c < 1 ∨ left l k now < c then (l, 0, false) else (l.set (place l k).toNat (more (the l k) c), (the l k).gen, true)
def close (l : List Lz) (k g : Int) : List Lz × Int := if place l k < 0 then (l, -1) else (l.eraseIdx (place l k).toNat, if (the l k).gen = g then (the l k).spent else -1)
def elder (g : Int) (x : Lz) : Bool := decide (x.gen < g)
def drop (l : List Lz) (g : Int) : List Lz × Int := (l.filter fun x => !elder g x, (l.countP (elder g) : Int))

/-- What a wallet keeps. -/
structure Good (l : List Lz) : Prop where
  rise : l.Pairwise fun a b => a.key < b.key
  each : ∀ x ∈ l, 0 ≤ x.spent ∧ x.spent ≤ x.amount ∧ Nums x

theorem good_nil : Good [] := ⟨.nil, fun x h => by cases h⟩
theorem place_some {l : List Lz} {k : Int} (h : 0 ≤ place l k) : (place l k).toNat < l.length ∧ (the l k).key = k ∧ the l k ∈ l := by
  unfold the
  rcases spot_cases (fun x : Lz => x.key == k) z l with ⟨e, -⟩ | ⟨j, e, hj, hk, -⟩
  · unfold place at h; omega
  · have e' : (place l k).toNat = j := by unfold place; omega
    rw [e']
    refine ⟨hj, by simpa using hk, ?_⟩
    simp [List.getD, hj]
theorem place_none {l : List Lz} {k : Int} (h : place l k < 0) : ∀ x ∈ l, x.key ≠ k := by
  rcases spot_cases (fun x : Lz => x.key == k) z l with ⟨-, e⟩ | ⟨j, e, -⟩
  · intro x hx
    obtain ⟨i, hi, rfl⟩ := List.getElem_of_mem hx
    have := e i hi
    simpa [List.getD, hi] using this
  · unfold place at h; omega
theorem mem_ins {x y : Lz} : ∀ {l : List Lz}, y ∈ ins x l → y = x ∨ y ∈ l
  | [], h => by simpa [ins] using h
  | a :: l, h => by
    unfold ins at h
    split at h
    · simpa using h
    · rcases List.mem_cons.1 h with h | h
      · exact .inr (by simp [h])
      · rcases mem_ins h with h | h
        · exact .inl h
        · exact .inr (by simp [h])
theorem rise_ins {x : Lz} : ∀ {l : List Lz}, (l.Pairwise fun a b => a.key < b.key) → (∀ y ∈ l, y.key ≠ x.key) → (ins x l).Pairwise fun a b => a.key < b.key
  | [], _, _ => by simp [ins]
  | a :: l, h, hn => by
    have h' := List.pairwise_cons.1 h
    unfold ins
    split
    · rename_i hlt
      refine List.pairwise_cons.2 ⟨fun y hy => ?_, h⟩
      rcases List.mem_cons.1 hy with rfl | hy
      · exact hlt
      · exact Int.lt_trans hlt (h'.1 y hy)
    · rename_i hlt
      have hne := hn a (by simp)
      refine List.pairwise_cons.2 ⟨fun y hy => ?_, rise_ins h'.2 fun y hy => hn y (by simp [hy])⟩
      rcases mem_ins hy with rfl | hy
      · omega
      · exact h'.1 y hy
theorem len_ins (x : Lz) : ∀ l : List Lz, (ins x l).length = l.length + 1
  | [] => rfl
  | a :: l => by
    unfold ins
    split
    · rfl
    · simp [len_ins x l]
theorem good_put {l : List Lz} (h : Good l) {x : Lz} (hx : Nums x) : Good (put l x).1 := by
  unfold put
  split
  · exact h
  · split
    · exact h
    · rename_i hw hp
      unfold wrong at hw
      refine ⟨rise_ins h.rise (place_none (by omega)), fun y hy => ?_⟩
      rcases mem_ins hy with rfl | hy
      · exact ⟨by omega, by omega, hx⟩
      · exact h.each y hy
theorem len_put (l : List Lz) (x : Lz) : (put l x).1.length ≤ l.length + 1 := by
  unfold put
  split
  · simp
  · split
    · simp
    · simp [len_ins]
theorem left_le {l : List Lz} (h : Good l) (k now : Int) : 0 ≤ left l k now ∧ Num (left l k now) := by
  unfold left
  split
  · exact ⟨by omega, by unfold Num; omega⟩
  · rename_i hn
    obtain ⟨-, -, hm⟩ := place_some (l := l) (k := k) (by omega)
    obtain ⟨h0, h1, h2⟩ := h.each _ hm
    unfold Nums Num at *
    omega
theorem left_some {l : List Lz} {k c now : Int} (h : ¬ (c < 1 ∨ left l k now < c)) : 0 ≤ place l k ∧ now < (the l k).til ∧ c ≤ (the l k).amount - (the l k).spent ∧ 1 ≤ c := by
  unfold left at h
  split at h
  · omega
  · omega
theorem good_spend {l : List Lz} (h : Good l) (k c now : Int) : Good (spend l k c now).1 := by
  unfold spend
  split
  · exact h
  · rename_i hn
    obtain ⟨hp, -, h1, h2⟩ := left_some hn
    obtain ⟨hj, hk, hm⟩ := place_some hp
    have hg := h.each _ hm
    have hx : the l k = l[(place l k).toNat] := by unfold the; simp [List.getD, hj]
    refine ⟨?_, fun y hy => ?_⟩
    · have hr := h.rise
      rw [List.pairwise_iff_getElem] at hr ⊢
      intro i j hi hj' hij
      rw [List.length_set] at hi hj'
      have := hr i j hi hj' hij
      simp only [List.getElem_set]
      have hkey : (more (the l k) c).key = l[(place l k).toNat].key := by rw [← hx]; rfl
      by_cases e1 : (place l k).toNat = i
      · subst e1
        rw [if_pos rfl, if_neg (by omega), hkey]
        exact this
      · rw [if_neg e1]
        by_cases e2 : (place l k).toNat = j
        · subst e2
          rw [if_pos rfl, hkey]
          exact this
        · rw [if_neg e2]
          exact this
    · rcases List.mem_or_eq_of_mem_set hy with hy | rfl
      · exact h.each y hy
      · obtain ⟨g0, g1, g2⟩ := hg
        unfold Nums Num at *
        refine ⟨?_, ?_, ?_, ?_, ?_, ?_, ?_⟩ <;> simp only [more] <;> omega
theorem len_spend (l : List Lz) (k c now : Int) : (spend l k c now).1.length = l.length := by
  unfold spend
  split <;> simp
theorem good_close {l : List Lz} (h : Good l) (k g : Int) : Good (close l k g).1 := by
  unfold close
  split
  · exact h
  · exact ⟨h.rise.sublist (List.eraseIdx_sublist _ _), fun x hx => h.each x ((List.eraseIdx_sublist _ _).subset hx)⟩
theorem len_close (l : List Lz) (k g : Int) : (close l k g).1.length ≤ l.length := by
  unfold close
  split
  · simp
  · exact (List.eraseIdx_sublist _ _).length_le
theorem good_drop {l : List Lz} (h : Good l) (g : Int) : Good (drop l g).1 :=
  ⟨h.rise.sublist List.filter_sublist, fun x hx => h.each x (List.mem_filter.1 hx).1⟩
theorem len_drop (l : List Lz) (g : Int) : (drop l g).1.length ≤ l.length := List.length_filter_le _ _
end Go.Proofs.Ytlipepbemofihaa.Lease
