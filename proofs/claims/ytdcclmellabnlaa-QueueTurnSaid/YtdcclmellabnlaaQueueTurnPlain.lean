/-
  In turn: what taking the first one of a key, again and again, does to the items; their order, their places. Plain functions, no program.
-/
import Derived.Test.YtdcclmellabnlaaQpLeave
namespace Go.Proofs.Ytdcclmellabnlaa.Queue

def other (k : Int) (x : It) : Bool := !(x.key == k)
theorem uniq {l : List It} (h : l.Pairwise fun a b => a.id ≠ b.id) : ∀ {a b : It}, a ∈ l → b ∈ l → a.id = b.id → a = b := by
  induction l with
  | nil => intro a b ha; cases ha
  | cons x t ih =>
    intro a b ha hb e
    obtain ⟨h1, h2⟩ := List.pairwise_cons.1 h
    rcases List.mem_cons.1 ha with rfl | ha'
    · rcases List.mem_cons.1 hb with rfl | hb'
      · rfl
      · exact absurd e (h1 b hb')
    · rcases List.mem_cons.1 hb with rfl | hb'
      · exact absurd e.symm (h1 a ha')
      · exact ih h2 ha' hb' e
theorem mem_ofc {l : List It} {k c : Int} {x : It} : x ∈ ofc l k c ↔ x ∈ l ∧ x.key = k ∧ x.cls = c := by
  simp [ofc, isOf]
theorem mem_of {l : List It} {k : Int} {x : It} (h : x ∈ of l k) : x ∈ l ∧ x.key = k := by
  simp only [of, List.mem_append, mem_ofc] at h
  rcases h with (h | h) | h <;> exact ⟨h.1, h.2.1⟩
theorem of_mem {room : Int} {l : List It} (hg : Good room l) {k : Int} {x : It} (hx : x ∈ l) (hk : x.key = k) : x ∈ of l k := by
  have hw := (hg.each x hx).1
  have hc : x.cls = 0 ∨ x.cls = 1 ∨ x.cls = 2 := by unfold wrong at hw; omega
  simp only [of, List.mem_append, mem_ofc]
  rcases hc with h | h | h <;> simp [hx, hk, h]
theorem filter_comm (p q : It → Bool) (l : List It) : (l.filter p).filter q = (l.filter q).filter p := by
  rw [List.filter_filter, List.filter_filter]
  exact List.filter_congr fun x _ => Bool.and_comm _ _
theorem of_filter (p : It → Bool) (l : List It) (k : Int) : of (l.filter p) k = (of l k).filter p := by
  simp only [of, ofc, List.filter_append]
  rw [filter_comm p, filter_comm p, filter_comm p]
theorem take_mem {l : List It} (hn : l.Pairwise fun a b => a.id ≠ b.id) {x : It} (hx : x ∈ l) : take l x.id = (l.filter (fun y => !isId x.id y), x, true) ∧ (l.filter fun y => !isId x.id y).length + 1 = l.length := by
  have hp : 0 ≤ place l x.id := by
    apply Int.not_lt.1
    intro h
    exact place_none h x hx rfl
  obtain ⟨h1, h2, h3⟩ := place_some hp
  have e := (take_filter (id := x.id) hn).1
  unfold take at e ⊢
  rw [if_neg (by omega)] at e ⊢
  simp only at e
  refine ⟨by rw [e, uniq hn h3 hx h2], ?_⟩
  rw [← e, List.length_eraseIdx, if_pos h1]
  omega
/-- The first one of a key is taken. -/
theorem turn_one {room : Int} {l t : List It} (hg : Good room l) {k : Int} {x : It} (h : of l k = x :: t) :
    x.key = k ∧ x ∈ l ∧ take l x.id = (l.filter (fun y => !isId x.id y), x, true) ∧ of (l.filter fun y => !isId x.id y) k = t ∧ (l.filter fun y => !isId x.id y).filter (other k) = l.filter (other k) ∧ (l.filter fun y => !isId x.id y).length + 1 = l.length ∧ Good room (l.filter fun y => !isId x.id y) := by
  obtain ⟨hx, hk⟩ := mem_of (l := l) (k := k) (x := x) (by rw [h]; exact List.mem_cons_self)
  obtain ⟨h1, h2⟩ := take_mem hg.names hx
  refine ⟨hk, hx, h1, ?_, ?_, h2, good_sub hg List.filter_sublist⟩
  · have hn : (of l k).Pairwise fun a b => a.id ≠ b.id := by
      have hs : ∀ c, (ofc l k c).Pairwise fun a b => a.id ≠ b.id := fun c => hg.names.sublist List.filter_sublist
      have hd : ∀ c d, c ≠ d → ∀ a ∈ ofc l k c, ∀ b ∈ ofc l k d, a.id ≠ b.id := fun c d hcd a ha b hb e => by
        rw [mem_ofc] at ha hb
        have := uniq hg.names ha.1 hb.1 e
        rw [this] at ha
        exact hcd (ha.2.2.symm.trans hb.2.2)
      unfold of
      rw [List.pairwise_append, List.pairwise_append]
      refine ⟨⟨hs 0, hs 1, hd 0 1 (by decide)⟩, hs 2, fun a ha b hb => ?_⟩
      rcases List.mem_append.1 ha with ha | ha
      · exact hd 0 2 (by decide) a ha b hb
      · exact hd 1 2 (by decide) a ha b hb
    rw [of_filter, h]
    rw [h] at hn
    obtain ⟨n1, -⟩ := List.pairwise_cons.1 hn
    rw [List.filter_cons]
    simp only [isId, beq_self_eq_true, Bool.not_true, Bool.false_eq_true, if_false]
    exact List.filter_eq_self.2 fun y hy => by
      have := n1 y hy
      simp only [Bool.not_eq_true', beq_eq_false_iff_ne]
      exact fun e => this e.symm
  · rw [filter_comm]
    exact List.filter_eq_self.2 fun y hy => by
      obtain ⟨hy1, hy2⟩ := List.mem_filter.1 hy
      simp only [isId, Bool.not_eq_true', beq_eq_false_iff_ne]
      intro e
      rw [uniq hg.names hy1 hx e] at hy2
      simp [other, hk] at hy2
/-- Where none of the key is left, all are others'. -/
theorem of_none {room : Int} {l : List It} (hg : Good room l) {k : Int} (h : of l k = []) : l.filter (other k) = l :=
  List.filter_eq_self.2 fun y hy => by
    simp only [other, Bool.not_eq_true', beq_eq_false_iff_ne]
    intro e
    have := of_mem hg hy e
    rw [h] at this
    cases this
theorem place_nonneg {l : List It} {x : It} (hx : x ∈ l) : 0 ≤ place l x.id := by
  apply Int.not_lt.1
  intro h
  exact place_none h x hx rfl
theorem place_lt {l : List It} (hn : l.Pairwise fun a b => a.id ≠ b.id) : l.Pairwise fun a b => place l a.id < place l b.id := by
  induction l with
  | nil => exact .nil
  | cons x t ih =>
    obtain ⟨h1, h2⟩ := List.pairwise_cons.1 hn
    have hp : ∀ y ∈ t, place (x :: t) y.id = place t y.id + 1 := fun y hy => by
      rw [place_cons, if_neg (h1 y hy)]
      have := place_nonneg hy
      split <;> omega
    refine List.pairwise_cons.2 ⟨fun y hy => ?_, ?_⟩
    · have := place_nonneg hy
      rw [hp y hy, place_cons, if_pos rfl]
      omega
    · exact (ih h2).imp_of_mem fun {a b} ha hb h => by
        rw [hp a ha, hp b hb]
        omega
/-- By classes, and within a class as they came. -/
theorem of_sorted {room : Int} {l : List It} (hg : Good room l) (k : Int) : (of l k).Pairwise fun a b => a.cls < b.cls ∨ a.cls = b.cls ∧ place l a.id < place l b.id := by
  have hs : ∀ c, (ofc l k c).Pairwise fun a b => a.cls < b.cls ∨ a.cls = b.cls ∧ place l a.id < place l b.id := fun c =>
    ((place_lt hg.names).sublist (l₁ := ofc l k c) List.filter_sublist).imp_of_mem fun {a b} ha hb h => .inr ⟨by rw [(mem_ofc.1 ha).2.2, (mem_ofc.1 hb).2.2], h⟩
  have hd : ∀ c d : Int, c < d → ∀ a ∈ ofc l k c, ∀ b ∈ ofc l k d, a.cls < b.cls ∨ a.cls = b.cls ∧ place l a.id < place l b.id := fun c d hcd a ha b hb =>
    .inl (by rw [(mem_ofc.1 ha).2.2, (mem_ofc.1 hb).2.2]; exact hcd)
  unfold of
  rw [List.pairwise_append, List.pairwise_append]
  refine ⟨⟨hs 0, hs 1, hd 0 1 (by decide)⟩, hs 2, fun a ha b hb => ?_⟩
  rcases List.mem_append.1 ha with ha | ha
  · exact hd 0 2 (by decide) a ha b hb
  · exact hd 1 2 (by decide) a ha b hb
theorem sorted_at {room : Int} {l : List It} (hg : Good room l) (k : Int) {i : Nat} (hi : i + 1 < (of l k).length) :
    ((of l k).getD i z).cls < ((of l k).getD (i + 1) z).cls ∨ ((of l k).getD i z).cls = ((of l k).getD (i + 1) z).cls ∧ place l ((of l k).getD i z).id < place l ((of l k).getD (i + 1) z).id := by
  have h := List.pairwise_iff_getElem.1 (of_sorted hg k) i (i + 1) (by omega) hi (by omega)
  have e1 : (of l k).getD i z = (of l k)[i] := by simp [List.getD, show i < (of l k).length by omega]
  have e2 : (of l k).getD (i + 1) z = (of l k)[i + 1] := by simp [List.getD, hi]
  rw [e1, e2]
  exact h
theorem others_at (k : Int) : ∀ (l : List It) (j : Nat), j < l.length → other k (l.getD j z) = true →
    ((l.take j).filter (other k)).length < (l.filter (other k)).length ∧ (l.filter (other k)).getD ((l.take j).filter (other k)).length z = l.getD j z
  | [], j, h, _ => by simp at h
  | x :: l, 0, _, h => by
    have h' : other k x = true := by simpa using h
    simp [h']
  | x :: l, j + 1, hj, h => by
    have ih := others_at k l j (by simpa using hj) (by simpa [List.getD] using h)
    by_cases hx : other k x = true
    · simp only [List.take_succ_cons, List.filter_cons, hx, if_true, List.length_cons, List.getD_cons_succ]
      exact ⟨by omega, ih.2⟩
    · simp only [List.take_succ_cons, List.filter_cons, hx, Bool.false_eq_true, if_false, List.getD_cons_succ]
      exact ih
theorem others_take (k : Int) {l : List It} {j : Nat} (hj : j < l.length) : ((l.take (j + 1)).filter (other k)).length = ((l.take j).filter (other k)).length + (if other k (l.getD j z) = true then 1 else 0) := by
  rw [Kit.take_snoc z hj, List.filter_append, List.length_append]
  simp only [List.filter_cons, List.filter_nil]
  split <;> simp
theorem head_drop (l : List It) {j : Nat} (hj : j ≤ l.length) : head (l.drop j) = (l.getD j z, decide (j < l.length)) := by
  by_cases h : j < l.length
  · rw [List.drop_eq_getElem_cons h]
    simp [head, List.getD, h]
  · have : j = l.length := by omega
    subst this
    simp [head, List.getD]
end Go.Proofs.Ytdcclmellabnlaa.Queue
