/-
  The m-th greatest of some numbers: fewer than m are more, at least m are that or more, and no other number is so; plain facts, no program is named. Condition: m is from 1 to as many as there are.
-/
import Derived.Test.YtkdjhphakopfeaaRingNthDef
namespace Go.Proofs.Ytkdjhphakopfeaa.Ring

def more (zs : List Int) (y : Int) : Nat := zs.countP (fun z => decide (y < z))
def same (zs : List Int) (y : Int) : Nat := zs.countP (fun z => decide (z = y))
def least (zs : List Int) (y : Int) : Nat := zs.countP (fun z => decide (y ≤ z))

theorem least_eq (zs : List Int) (y : Int) : least zs y = more zs y + same zs y := by
  unfold least more same
  induction zs with
  | nil => rfl
  | cons z zs ih =>
    simp only [List.countP_cons, ih, decide_eq_true_eq]
    by_cases h1 : y < z
    · rw [if_pos (by omega), if_pos h1, if_neg (by omega)]; omega
    · by_cases h2 : z = y
      · rw [if_pos (by omega), if_neg h1, if_pos h2]; omega
      · rw [if_neg (by omega), if_neg h1, if_neg h2]; omega
theorem least_le_more (zs : List Int) {y v : Int} (h : y < v) : least zs v ≤ more zs y :=
  List.countP_mono_left (fun z _ hz => by simp at hz ⊢; omega)

def Good (zs : List Int) (m y : Int) : Prop := (more zs y : Int) < m ∧ m ≤ (least zs y : Int)
theorem good_one {zs : List Int} {m y v : Int} (h : Good zs m y) (k : Good zs m v) : y = v := by
  rcases Int.lt_trichotomy y v with c | c | c
  · have := least_le_more zs c; have := h.1; have := k.2; omega
  · exact c
  · have := least_le_more zs c; have := k.1; have := h.2; omega

theorem nth_good (zs : List Int) (m : Int) (h1 : 1 ≤ m) (h2 : m ≤ (zs.length : Int)) : Good zs m (nth zs m) ∧ nth zs m ∈ zs := by
  have hp : (srt zs).Perm zs := List.mergeSort_perm zs _
  have hl : (srt zs).length = zs.length := hp.length_eq
  have hs : (srt zs).Pairwise (fun a b => decide (a ≤ b) = true) := List.pairwise_mergeSort (by intro a b c; simp; omega) (by intro a b; simp; omega) zs
  have hs' := List.pairwise_iff_getElem.1 hs
  have hi : zs.length - m.toNat < (srt zs).length := by omega
  have hn : nth zs m = (srt zs)[zs.length - m.toNat] := by
    unfold nth; rw [if_pos ⟨h1, h2⟩]; simp [hi]
  have hmem : nth zs m ∈ zs := by rw [hn]; exact hp.subset (List.getElem_mem hi)
  refine ⟨?_, hmem⟩
  rw [hn]
  obtain ⟨p, hpd⟩ : ∃ p, p = zs.length - m.toNat := ⟨_, rfl⟩
  simp only [← hpd] at hi ⊢
  obtain ⟨v, hv⟩ : ∃ v, v = (srt zs)[p] := ⟨_, rfl⟩
  rw [← hv]
  have up : ∀ j (hj : j < (srt zs).length), p ≤ j → v ≤ (srt zs)[j] := fun j hj hpj => by
    rcases Nat.lt_or_ge p j with c | c
    · have := hs' p j hi hj c; rw [hv]; simpa using this
    · have : p = j := by omega
      subst this; rw [hv]; exact Int.le_refl _
  have dn : ∀ j (hj : j < (srt zs).length), j ≤ p → (srt zs)[j] ≤ v := fun j hj hpj => by
    rcases Nat.lt_or_ge j p with c | c
    · have := hs' j p hj hi c; rw [hv]; simpa using this
    · have : j = p := by omega
      subst this; rw [hv]; exact Int.le_refl _
  constructor
  · have e : more zs v = more (srt zs) v := (hp.countP_eq _).symm
    rw [e]; unfold more
    rw [← List.take_append_drop (p + 1) (srt zs), List.countP_append]
    have z : ((srt zs).take (p + 1)).countP (fun z => decide (v < z)) = 0 := by
      rw [List.countP_eq_zero]
      intro a ha
      obtain ⟨j, hj, rfl⟩ := List.mem_take_iff_getElem.1 ha
      have := dn j (by omega) (by omega)
      simp; omega
    have l : ((srt zs).drop (p + 1)).countP (fun z => decide (v < z)) ≤ ((srt zs).drop (p + 1)).length := List.countP_le_length
    rw [z]; rw [List.length_drop] at l; omega
  · have e : least zs v = least (srt zs) v := (hp.countP_eq _).symm
    rw [e]; unfold least
    rw [← List.take_append_drop p (srt zs), List.countP_append]
    have z : ((srt zs).drop p).countP (fun z => decide (v ≤ z)) = ((srt zs).drop p).length := by
      rw [List.countP_eq_length]
      intro a ha
      obtain ⟨j, hj, rfl⟩ := List.mem_drop_iff_getElem.1 ha
      have := up (j + p) (by omega) (by omega)
      simpa [Nat.add_comm] using this
    rw [z, List.length_drop]; omega

theorem more_take (zs : List Int) (y : Int) (k : Nat) (h : k < zs.length) : more (zs.take (k + 1)) y = more (zs.take k) y + (if y < zs.getD k 0 then 1 else 0) := by
  unfold more; rw [List.take_succ_eq_append_getElem h, List.countP_append]; simp [h, List.countP_cons]
theorem same_take (zs : List Int) (y : Int) (k : Nat) (h : k < zs.length) : same (zs.take (k + 1)) y = same (zs.take k) y + (if zs.getD k 0 = y then 1 else 0) := by
  unfold same; rw [List.take_succ_eq_append_getElem h, List.countP_append]; simp [h, List.countP_cons]
theorem least_take (zs : List Int) (y : Int) (k : Nat) (h : k < zs.length) : least (zs.take (k + 1)) y = least (zs.take k) y + (if y ≤ zs.getD k 0 then 1 else 0) := by
  unfold least; rw [List.take_succ_eq_append_getElem h, List.countP_append]; simp [h, List.countP_cons]
theorem more_hi (zs : List Int) (y : Int) (k : Nat) : more (zs.take k) y ≤ zs.length := Nat.le_trans List.countP_le_length (by simp; omega)
theorem same_hi (zs : List Int) (y : Int) (k : Nat) : same (zs.take k) y ≤ zs.length := Nat.le_trans List.countP_le_length (by simp; omega)
theorem least_hi (zs : List Int) (y : Int) (k : Nat) : least (zs.take k) y ≤ zs.length := Nat.le_trans List.countP_le_length (by simp; omega)
end Go.Proofs.Ytkdjhphakopfeaa.Ring
