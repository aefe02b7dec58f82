/-
  Each move of a hall of elections makes what is to hold behind it. Plain, no program.
-/
import Derived.Test.YthehbphpchmdiaaElectHall
namespace Go.Proofs.Ythehbphpchmdiaa.Elect
open _root_.Go.Proofs.Ythehbphpchmdiaa.Ring (has put put_lo put_hi has_put okRing maj)

theorem wins_same (e : El) : (wins e).n = e.n ∧ (wins e).node = e.node ∧ (wins e).promised = e.promised ∧ (wins e).bits = e.bits ∧ ((wins e).ballot = e.ballot ∧ majority e = false ∨ (wins e).ballot = 0 ∧ majority e = true) := by
  unfold wins
  cases h : majority e
  · exact ⟨rfl, rfl, rfl, rfl, .inl ⟨rfl, rfl⟩⟩
  · exact ⟨rfl, rfl, rfl, rfl, .inr ⟨rfl, rfl⟩⟩
theorem p_self (H : Hl) (i : Nat) (e : El) : P' H i e i = e.promised := by unfold P'; rw [if_pos rfl]
/-- A move that makes nothing. -/
theorem res_none {H : Hl} (h : Inv H) {i : Nat} (hi : i < H.n) : Res H i (H.el i) noRs := by
  have hp : ∀ k, P' H i (H.el i) k = (H.el k).promised := fun k => by
    unfold P'
    split
    · rename_i e
      rw [e]
    · rfl
  refine ⟨h.good i hi, Int.le_refl _, fun hb => ?_, fun hs => (by cases hs), fun b hb hm => ((h.won b hb).2 i hi hm).2, fun hs => (by cases hs)⟩
  obtain ⟨h1, h2, h3⟩ := h.stand i hi hb
  exact ⟨h1, h2, fun k hk hh => by rw [hp]; exact h3 k hk hh⟩
/-- It starts anew. -/
theorem res_new {H : Hl} (h : Inv H) {i : Nat} (hi : i < H.n) : Res H i (start (H.n : Int) (i : Int) (H.el i).promised (H.el i).round) noRs ∧ okNew (H.n : Int) (i : Int) (H.el i).promised (H.el i).round = true := by
  obtain ⟨hg, g1, g2⟩ := h.good i hi
  have hn := h.n
  have hok : okNew (H.n : Int) (i : Int) (H.el i).promised (H.el i).round = true := okNew_iff.2 ⟨by omega, by omega, hg.promised, hg.round⟩
  refine ⟨⟨⟨good_start hok, rfl, rfl⟩, Int.le_refl _, fun hb => absurd rfl hb, fun hs => (by cases hs), fun b hb hm e0 => ?_, fun hs => (by cases hs)⟩, hok⟩
  have e1 : (0 : Int) = b := e0
  have := (h.won b hb).1
  omega
/-- It stands. -/
theorem res_stand {H : Hl} (h : Inv H) {i : Nat} (hi : i < H.n) : Res H i (stand (H.el i)).1 (stand (H.el i)).2.1 := by
  obtain ⟨hg, g1, g2⟩ := h.good i hi
  have hn := h.n
  unfold stand
  split
  · rename_i h0
    obtain ⟨b0, b1, b2, b3, b5, b6⟩ := next_bounds h0
    have hgs := hg.stands h0
    generalize (Conf.next (H.el i).n (H.el i).promised (H.el i).node).1 = b at *
    rw [g1] at b3 b5
    obtain ⟨w1, w2, w3, w4, w5⟩ := wins_same (stands (H.el i) b)
    have p3 : (wins (stands (H.el i) b)).promised = b := w3
    have hbits : ∀ k : Nat, k < H.n → has (put 0 (H.el i).node) (k : Int) = true → b ≤ P' H i (wins (stands (H.el i) b)) k := fun k hk hh => by
      rw [g2] at hh
      obtain rfl := has_one (by omega) hh
      rw [p_self, p3]
      exact Int.le_refl _
    have hnb : ∀ w ∈ H.won, w % (H.n : Int) = (i : Int) → b ≠ w := fun w hw hm e => by
      have := ((h.won w hw).2 i hi hm).1
      omega
    refine ⟨⟨hgs.wins, by rw [w1]; exact g1, by rw [w2]; exact g2⟩, by rw [p3]; omega, fun hb => ?_, fun _ => ⟨⟨by show 1 ≤ b; omega, b1⟩, put0 _, hbits⟩, fun w hw hm => ?_, fun hw => ?_⟩
    · rcases w5 with ⟨w5, -⟩ | ⟨w5, -⟩
      · have w6 : (wins (stands (H.el i) b)).ballot = b := w5
        rw [w6, p3, w4]
        exact ⟨rfl, by rw [b5, g2], hbits⟩
      · exact absurd w5 hb
    · rcases w5 with ⟨w5, -⟩ | ⟨w5, -⟩
      · rw [w5]; exact hnb w hw hm
      · rw [w5]
        have := (h.won w hw).1
        omega
    · have hmj : majority (stands (H.el i) b) = true := hw
      rcases w5 with ⟨-, w5⟩ | ⟨w5, -⟩
      · rw [hmj] at w5; cases w5
      · refine ⟨by show 1 ≤ b; omega, by show b % _ = _; rw [b5, g2], fun hm => ?_, by rw [p3]; exact Int.le_refl _, by rw [w5]; show (0 : Int) ≠ b; omega, ?_, hbits⟩
        · exact hnb b hm (by rw [b5, g2]) rfl
        · unfold majority at hmj
          have hm2 : (H.el i).n < 2 * (cnt (put 0 (H.el i).node) (H.el i).n.toNat : Int) := of_decide_eq_true hmj
          rw [g1] at hm2
          simpa using hm2
  · exact res_none h hi
/-- A frame that was told comes. -/
theorem res_take {H : Hl} (h : Inv H) {i : Nat} (hi : i < H.n) {f : Rs} (hf : f ∈ H.frames) : Res H i (take (H.el i) f.gen f.bits).1 (take (H.el i) f.gen f.bits).2 := by
  obtain ⟨hg, g1, g2⟩ := h.good i hi
  have hn := h.n
  obtain ⟨⟨f1, f2⟩, f3, f4⟩ := h.frames f hf
  have hgt := hg.take f.gen f3
  unfold take at hgt ⊢
  split at hgt
  · rename_i h1
    rw [if_pos h1]
    exact res_none h hi
  · rename_i h1
    rw [if_neg h1]
    split at hgt
    · rename_i h2
      rw [if_pos h2]
      refine ⟨⟨hgt, g1, g2⟩, by show (H.el i).promised ≤ f.gen; omega, fun hb => absurd rfl hb, fun _ => ⟨⟨f1, f2⟩, putS f3 _, fun k hk hh => ?_⟩, fun b hb hm e0 => ?_, fun hs => (by cases hs)⟩
      · rw [g2] at hh
        rcases has_put' hh with hh | hh
        · exact Int.le_trans (f4 k hk hh) (P'_rises (by show (H.el i).promised ≤ f.gen; omega) k)
        · subst hh
          rw [p_self]
          exact Int.le_refl _
      · have e1 : (0 : Int) = b := e0
        have := (h.won b hb).1
        omega
    · rename_i h2
      rw [if_neg h2]
      split at hgt
      · rename_i h3
        rw [if_pos h3]
        exact res_none h hi
      · rename_i h3
        rw [if_neg h3]
        have h4 : (H.el i).ballot = f.gen := Decidable.not_not.1 h3
        obtain ⟨s1, s2, s3⟩ := h.stand i hi (by omega)
        obtain ⟨w1, w2, w3, w4, w5⟩ := wins_same (adds (H.el i) f.bits)
        have p3 : (wins (adds (H.el i) f.bits)).promised = (H.el i).promised := w3
        have hbits : ∀ k : Nat, k < H.n → has (orB (H.el i).bits f.bits) (k : Int) = true → f.gen ≤ P' H i (wins (adds (H.el i) f.bits)) k := fun k hk hh => by
          refine Int.le_trans ?_ (P'_rises (by rw [p3]; exact Int.le_refl _) k)
          rw [has_or hg.bits f3 k (by omega)] at hh
          rcases Bool.or_eq_true_iff.1 hh with hh | hh
          · rw [← h4]; exact s3 k hk hh
          · exact f4 k hk hh
        refine ⟨⟨hgt, by rw [w1]; exact g1, by rw [w2]; exact g2⟩, by rw [p3]; exact Int.le_refl _, fun hb => ?_, fun hs => (by cases hs), fun b hb hm => ?_, fun hw => ?_⟩
        · rcases w5 with ⟨w5, -⟩ | ⟨w5, -⟩
          · have w6 : (wins (adds (H.el i) f.bits)).ballot = (H.el i).ballot := w5
            rw [w6, p3, w4]
            exact ⟨s1, s2, fun k hk hh => by rw [h4]; exact hbits k hk hh⟩
          · exact absurd w5 hb
        · rcases w5 with ⟨w5, -⟩ | ⟨w5, -⟩
          · rw [w5]; exact ((h.won b hb).2 i hi hm).2
          · rw [w5]
            have := (h.won b hb).1
            omega
        · have hmj : majority (adds (H.el i) f.bits) = true := hw
          rcases w5 with ⟨-, w5⟩ | ⟨w5, -⟩
          · rw [hmj] at w5; cases w5
          · refine ⟨f1, by rw [← h4]; exact s2, fun hm => ?_, by rw [p3, ← h4, s1]; exact Int.le_refl _, by rw [w5]; show (0 : Int) ≠ f.gen; omega, ?_, hbits⟩
            · exact ((h.won f.gen hm).2 i hi (by rw [← h4]; exact s2)).2 h4
            · unfold majority at hmj
              have hm2 : (H.el i).n < 2 * (cnt (orB (H.el i).bits f.bits) (H.el i).n.toNat : Int) := of_decide_eq_true hmj
              rw [g1] at hm2
              simpa using hm2
end Go.Proofs.Ythehbphpchmdiaa.Elect
