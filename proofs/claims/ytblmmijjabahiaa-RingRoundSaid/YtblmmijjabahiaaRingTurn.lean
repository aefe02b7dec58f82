/-
  Once round: from a node of a set on, next by next each other one comes once, and then that one; plain facts, no program is named. Conditions: a ring from 1 to 64, a set of its nodes.
-/
import Derived.Test.YtblmmijjabahiaaRingPlain
namespace Go.Proofs.Ytblmmijjabahiaa.Ring

theorem md (a n : Int) (h0 : 0 ≤ a) (h1 : a < 2 * n) : (a < n ∧ a % n = a) ∨ (n ≤ a ∧ a % n = a - n) := by
  by_cases h : a < n
  · exact .inl ⟨h, Int.emod_eq_of_lt h0 h⟩
  · refine .inr ⟨by omega, ?_⟩
    have e : a = (a - n) + n * 1 := by omega
    rw [e, Int.add_mul_emod_self_left, Int.emod_eq_of_lt (by omega) (by omega)]
    omega

theorem next_spec (x n k : Int) (h1 : 1 ≤ n) (h2 : n ≤ 64) (k0 : 0 ≤ k) (k1 : k < n) (t0 : Int) (t1 : 1 ≤ t0) (t2 : t0 ≤ n) (ht : has x ((k + t0) % n) = true) :
    ∃ t, 1 ≤ t ∧ t ≤ t0 ∧ next x n k = (k + t) % n ∧ has x ((k + t) % n) = true ∧ ∀ s, 1 ≤ s → s < t → has x ((k + s) % n) = false := by
  have ho : (okRing n && (decide (0 ≤ k) && decide (k < n))) = true := by unfold okRing; simp [h1, h2, k0, k1]
  unfold next behind
  rw [ho, if_pos rfl, List.find?_map]
  cases hf : (List.range (n.toNat - 1)).find? ((fun j => has x j) ∘ fun q : Nat => (k + ((q : Int) + 1)) % n) with
  | some q =>
    obtain ⟨hp, hm, hl⟩ := List.find?_range_eq_some.1 hf
    have hq := List.mem_range.1 hm
    refine ⟨(q : Int) + 1, by omega, ?_, rfl, hp, fun s s1 s2 => ?_⟩
    · apply Decidable.byContradiction
      intro hc
      have := hl (t0.toNat - 1) (by omega)
      simp only [Function.comp] at this
      rw [show (((t0.toNat - 1 : Nat) : Int) + 1) = t0 by omega, ht] at this
      cases this
    · have := hl (s.toNat - 1) (by omega)
      simp only [Function.comp] at this
      rw [show (((s.toNat - 1 : Nat) : Int) + 1) = s by omega] at this
      simpa using this
  | none =>
    have hl := List.find?_range_eq_none.1 hf
    have hs : ∀ s : Int, 1 ≤ s → s < n → has x ((k + s) % n) = false := fun s s1 s2 => by
      have := hl (s.toNat - 1) (by omega)
      simp only [Function.comp] at this
      rw [show (((s.toNat - 1 : Nat) : Int) + 1) = s by omega] at this
      simpa using this
    have e : t0 = n := by
      apply Decidable.byContradiction
      intro hc
      rw [hs t0 t1 (by omega)] at ht; cases ht
    subst e
    have ek : k = (k + t0) % t0 := by rcases md (k + t0) t0 (by omega) (by omega) with h | h <;> omega
    exact ⟨t0, t1, Int.le_refl _, by simpa using ek, ht, fun s s1 s2 => hs s s1 s2⟩

/-- How far a node is, from behind i on; i itself is last. -/
def far (n i e : Int) : Int := if i < e then e - i else e - i + n

/-- What is seen when one has gone o far. -/
structure Seen (x n i o k seen : Int) : Prop where
  lo : 0 ≤ o
  hi : o ≤ n
  at_ : (k = i + o ∧ i + o < n) ∨ (k = i + o - n ∧ n ≤ i + o)
  s0 : 0 ≤ seen
  s1 : seen < 18446744073709551616
  is : ∀ e : Nat, e < 64 → has seen (e : Int) = (has x (e : Int) && decide (far n i (e : Int) ≤ o))

theorem seen_start (x n i : Int) (h1 : 1 ≤ n) (i1 : i < n) (hs : ∀ e : Nat, has x (e : Int) = true → (e : Int) < n) : Seen x n i 0 i 0 :=
  ⟨Int.le_refl _, by omega, .inl ⟨by omega, by omega⟩, Int.le_refl _, by decide, fun e he => by
    rw [has_zero]
    rcases Bool.eq_false_or_eq_true (has x (e : Int)) with h | h
    · have := hs e h
      have hf : ¬ far n i (e : Int) ≤ 0 := by unfold far; split <;> omega
      rw [decide_eq_false hf]; simp
    · rw [h]; rfl⟩

theorem seen_step {x n i o k seen : Int} (h : Seen x n i o k seen) (h1 : 1 ≤ n) (h2 : n ≤ 64) (i0 : 0 ≤ i) (i1 : i < n) (x0 : 0 ≤ x) (x1 : x < 18446744073709551616)
    (hs : ∀ e : Nat, has x (e : Int) = true → (e : Int) < n) (hc : count seen < count x) :
    0 ≤ next x n k ∧ next x n k < 64 ∧ has seen (next x n k) = false ∧ has x (next x n k) = true ∧ ∃ o', Seen x n i o' (next x n k) (put seen (next x n k)) := by
  have hk : 0 ≤ k ∧ k < n := by have := h.at_; have := h.lo; have := h.hi; omega
  obtain ⟨e0, he0, hx0, hn0⟩ : ∃ e : Nat, e < 64 ∧ has x (e : Int) = true ∧ has seen (e : Int) = false := by
    apply Classical.byContradiction
    intro hno
    have : seen = x := set_ext h.s0 h.s1 x0 x1 (fun e he => by
      have hi := h.is e he
      rcases Bool.eq_false_or_eq_true (has x (e : Int)) with hx | hx
      · rcases Bool.eq_false_or_eq_true (has seen (e : Int)) with hv | hv
        · rw [hv, hx]
        · exact absurd ⟨e, he, hx, hv⟩ hno
      · rw [hi, hx]; rfl)
    rw [this] at hc; omega
  have hen := hs e0 hx0
  have hfar : o < far n i (e0 : Int) := by
    have hi := h.is e0 he0
    rw [hn0, hx0] at hi
    have : ¬ far n i (e0 : Int) ≤ o := by simpa using hi.symm
    omega
  have lo := h.lo; have hio := h.hi; have hat := h.at_
  have at0 : ∀ e : Int, 0 ≤ e → e < n → o < far n i e → 1 ≤ far n i e - o ∧ far n i e - o ≤ n ∧ (k + (far n i e - o)) % n = e := fun e e1 e2 hf => by
    have hb : far n i e ≤ n := by unfold far; split <;> omega
    refine ⟨by omega, by omega, ?_⟩
    have m := md (k + (far n i e - o)) n (by omega) (by omega)
    unfold far at m hf hb ⊢
    split at m <;> rename_i hie <;> simp only [hie, if_true, if_false] at m hf hb ⊢ <;> omega
  obtain ⟨a1, a2, a3⟩ := at0 (e0 : Int) (by omega) hen hfar
  obtain ⟨t, t1, t2, hnx, htx, hmin⟩ := next_spec x n k h1 h2 hk.1 hk.2 _ a1 a2 (by rw [a3]; exact hx0)
  rw [hnx]
  obtain ⟨y, hy⟩ : ∃ y, y = (k + t) % n := ⟨_, rfl⟩
  rw [← hy] at htx ⊢
  have hb0 : far n i (e0 : Int) ≤ n := by unfold far; split <;> omega
  have hot : o + t ≤ n := by omega
  have hym : ((k + t < n ∧ y = k + t) ∨ (n ≤ k + t ∧ y = k + t - n)) := by rw [hy]; exact md (k + t) n (by omega) (by omega)
  have y0 : 0 ≤ y := by omega
  have y1 : y < n := by omega
  have hfy : far n i y = o + t := by unfold far; split <;> omega
  have hey : y = ((y.toNat : Nat) : Int) := by omega
  have hsy : has seen y = false := by
    rw [hey, h.is y.toNat (by omega), ← hey, hfy, decide_eq_false (by omega)]; simp
  refine ⟨y0, by omega, hsy, htx, o + t, ⟨by omega, hot, by omega, put_lo _ _, put_hi _ _ h.s1, fun e he => ?_⟩⟩
  rw [has_put, h.is e he]
  by_cases hye : y = (e : Int)
  · rw [← hye, htx, hfy]
    have hj : 0 ≤ y ∧ y < 64 := ⟨y0, by omega⟩
    simp [hj]
  · rcases Bool.eq_false_or_eq_true (has x (e : Int)) with hx | hx
    · have hen' := hs e hx
      have hd : decide (far n i (e : Int) ≤ o) = decide (far n i (e : Int) ≤ o + t) := by
        rw [decide_eq_decide]
        refine ⟨fun q => by omega, fun q => ?_⟩
        apply Decidable.byContradiction
        intro hc'
        obtain ⟨b1, b2, b3⟩ := at0 (e : Int) (by omega) hen' (by omega)
        by_cases hlt : far n i (e : Int) - o < t
        · have := hmin _ b1 hlt
          rw [b3, hx] at this; cases this
        · have ee : far n i (e : Int) - o = t := by omega
          rw [ee, ← hy] at b3
          exact hye b3
      rw [hx, hd]; simp [hye]
    · rw [hx]; simp [hye]

theorem seen_count {x n i o k seen : Int} (h : Seen x n i o k seen) : count seen ≤ count x := by
  unfold count
  have l := List.countP_mono_left (l := List.range 64) (p := fun i => seen.toNat.testBit i) (q := fun i => x.toNat.testBit i) (fun e he hs => by
    have he' := List.mem_range.1 he
    have k := h.is e he'
    rw [has_nat seen e he', has_nat x e he', hs] at k
    simp at k; exact k.1)
  omega

theorem seen_end {x n i o k seen : Int} (h : Seen x n i o k seen) (i0 : 0 ≤ i) (i1 : i < n) (h2 : n ≤ 64) (x0 : 0 ≤ x) (x1 : x < 18446744073709551616) (hi : has x i = true) (hc : count seen = count x) :
    k = i ∧ seen = x := by
  have e := count_eq (x := seen) (y := x) (fun e he hs => by
    rw [h.is e he] at hs; simp at hs; exact hs.1) hc
  have es : seen = x := set_ext h.s0 h.s1 x0 x1 e
  refine ⟨?_, es⟩
  have k1 := h.is i.toNat (by omega)
  rw [show ((i.toNat : Nat) : Int) = i by omega, es, hi] at k1
  have : far n i i ≤ o := by simpa using k1.symm
  have hf : far n i i = n := by unfold far; rw [if_neg (by omega)]; omega
  have := h.at_; have := h.hi
  omega
end Go.Proofs.Ytblmmijjabahiaa.Ring
