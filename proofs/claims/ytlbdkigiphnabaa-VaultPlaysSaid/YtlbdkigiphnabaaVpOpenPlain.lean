/-
  What the program's Open reads, plain: four numbers of a record, and whether the reader failed; what is known of the states behind so many records.
-/
import Derived.Test.YtlbdkigiphnabaaVaultOpensWay
import Derived.Test.YtlbdkigiphnabaaCodecReads
namespace Go.Proofs.Ytlbdkigiphnabaa.Vault
open _root_.Go.Proofs.Ytlbdkigiphnabaa.Codec (pUpto pBits num IsBytes St tell)

theorem pup_failed : pUpto 1099511627776 ([], true) = (0, [], true) := by decide
theorem pup_no (b : List Int) (f : Bool) (h : 8 ≤ b.length) (hn : 1099511627776 < num (b.take 8)) : pUpto 1099511627776 (b, f) = (0, [], true) := by
  have h8 : ¬ b.length < 8 := by omega
  have ho : Codec.over 1099511627776 (num (b.take 8)) = true := by simp [Codec.over]; omega
  simp [pUpto, pBits, h8, ho]
theorem pup_yes (b : List Int) (f : Bool) (h : 8 ≤ b.length) (hn : num (b.take 8) ≤ 1099511627776) : pUpto 1099511627776 (b, f) = (num (b.take 8), b.drop 8, f) := by
  have h8 : ¬ b.length < 8 := by omega
  have ho : Codec.over 1099511627776 (num (b.take 8)) = false := by simp [Codec.over]; omega
  simp [pUpto, pBits, h8, ho]

/-- Four numbers, one behind the other. -/
def pFour (s : St) : Sv × St := (⟨(pUpto 1099511627776 s).1, (pUpto 1099511627776 (pUpto 1099511627776 s).2).1, (pUpto 1099511627776 (pUpto 1099511627776 (pUpto 1099511627776 s).2).2).1, (pUpto 1099511627776 (pUpto 1099511627776 (pUpto 1099511627776 (pUpto 1099511627776 s).2).2).2).1⟩,
  (pUpto 1099511627776 (pUpto 1099511627776 (pUpto 1099511627776 (pUpto 1099511627776 s).2).2).2).2)
theorem pfour_failed : pFour ([], true) = (zero, [], true) := by simp only [pFour, pup_failed]; rfl
theorem num8 (c : List Int) (hy : IsBytes c) (h : 8 ≤ c.length) : 0 ≤ num (c.take 8) := (Codec.num_take c hy 8 h).1
theorem pfour_some (c : List Int) (hy : IsBytes c) (h : 32 ≤ c.length) : (right (four c) = false ∧ (pFour (c, false)).2 = ([], true)) ∨ (right (four c) = true ∧ pFour (c, false) = (four c, c.drop 32, false)) := by
  have hbad : ∀ y, 1099511627776 < y → may y = false := fun y hy => by simp [may]; omega
  have l8 : (c.drop 8).length = c.length - 8 := by simp
  have l16 : (c.drop 16).length = c.length - 16 := by simp
  have l24 : (c.drop 24).length = c.length - 24 := by simp
  have d16 : (c.drop 8).drop 8 = c.drop 16 := by rw [List.drop_drop]
  have d24 : (c.drop 16).drop 8 = c.drop 24 := by rw [List.drop_drop]
  have d32 : (c.drop 24).drop 8 = c.drop 32 := by rw [List.drop_drop]
  have n1 := num8 c hy (by omega)
  have n2 := num8 _ (hy.drop 8) (by omega)
  have n3 := num8 _ (hy.drop 16) (by omega)
  have n4 := num8 _ (hy.drop 24) (by omega)
  unfold pFour
  by_cases h1 : 1099511627776 < num (c.take 8)
  · rw [pup_no c false (by omega) h1]
    simp only [pup_failed]
    exact .inl ⟨by simp [right, four, hbad _ h1], by first | trivial | rfl⟩
  · rw [pup_yes c false (by omega) (by omega)]
    by_cases h2 : 1099511627776 < num ((c.drop 8).take 8)
    · simp only
      rw [pup_no _ false (by omega) h2]
      simp only [pup_failed]
      exact .inl ⟨by simp [right, four, hbad _ h2], by first | trivial | rfl⟩
    · simp only
      rw [pup_yes _ false (by omega) (by omega)]
      simp only [d16]
      by_cases h3 : 1099511627776 < num ((c.drop 16).take 8)
      · rw [pup_no _ false (by omega) h3]
        simp only [pup_failed]
        exact .inl ⟨by simp [right, four, hbad _ h3], by first | trivial | rfl⟩
      · rw [pup_yes _ false (by omega) (by omega)]
        simp only [d24]
        by_cases h4 : 1099511627776 < num ((c.drop 24).take 8)
        · rw [pup_no _ false (by omega) h4]
          exact .inl ⟨by simp [right, four, hbad _ h4], by first | trivial | rfl⟩
        · rw [pup_yes _ false (by omega) (by omega)]
          simp only [d32]
          exact .inr ⟨right_iff.2 ⟨⟨n1, by simp only [four]; omega⟩, ⟨n2, by simp only [four]; omega⟩, ⟨n3, by simp only [four]; omega⟩, ⟨n4, by simp only [four]; omega⟩⟩, rfl⟩

/-- What is known behind k of q records: where the reader stands, which state was read last. -/
def Known (D : List Int) (q k : Nat) (st : St) (a : Sv) : Prop :=
  (∃ l, st = (D.drop (32 * k), false) ∧ states D = parse (q - k) (D.drop (32 * k)) l ∧ a = last l) ∨ (st = ([], true) ∧ states D = none)
theorem known_start (D : List Int) (q : Nat) (hq : D.length / 32 = q) : Known D q 0 (D, false) zero := .inl ⟨[], rfl, by unfold states; rw [hq]; rfl, rfl⟩
theorem Known.ok {D : List Int} {q k : Nat} {st : St} {a : Sv} (h : Known D q k st a) (hy : IsBytes D) : IsBytes st.1 := by
  rcases h with ⟨l, rfl, _⟩ | ⟨rfl, _⟩
  · exact hy.drop _
  · intro x hx; cases hx
theorem Known.round {D : List Int} {q k : Nat} {st : St} {a : Sv} (h : Known D q k st a) (hy : IsBytes D) (hq : D.length / 32 = q) (hk : k < q) : (rises a (pFour st).1 = false ∧ states D = none) ∨ (rises a (pFour st).1 = true ∧ Known D q (k + 1) (pFour st).2 (pFour st).1) := by
  rcases h with ⟨l, rfl, h1, rfl⟩ | ⟨rfl, h1⟩
  · have hc : 32 ≤ (D.drop (32 * k)).length := by rw [List.length_drop]; omega
    have hp : parse (q - k) (D.drop (32 * k)) l = if right (four (D.drop (32 * k))) = true ∧ rises (last l) (four (D.drop (32 * k))) = true then parse (q - (k + 1)) ((D.drop (32 * k)).drop 32) (l ++ [four (D.drop (32 * k))]) else none := by
      rw [show q - k = (q - (k + 1)) + 1 by omega]
      rfl
    have hd : (D.drop (32 * k)).drop 32 = D.drop (32 * (k + 1)) := by rw [List.drop_drop]; congr 1
    rcases pfour_some _ (hy.drop _) hc with ⟨r1, r2⟩ | ⟨r1, r2⟩
    · have hn : states D = none := by rw [h1, hp, if_neg (by simp [r1])]
      cases hr : rises (last l) (pFour (D.drop (32 * k), false)).1 with
      | false => exact .inl ⟨rfl, hn⟩
      | true => exact .inr ⟨rfl, .inr ⟨r2, hn⟩⟩
    · rw [r2]
      cases hr : rises (last l) (four (D.drop (32 * k))) with
      | false => exact .inl ⟨rfl, by rw [h1, hp, if_neg (by simp [hr])]⟩
      | true => exact .inr ⟨rfl, .inl ⟨l ++ [four (D.drop (32 * k))], by rw [hd], by rw [h1, hp, if_pos ⟨r1, hr⟩, hd], by rw [last_snoc]⟩⟩
  · cases hr : rises a (pFour ([], true)).1 with
    | false => exact .inl ⟨rfl, h1⟩
    | true => exact .inr ⟨rfl, .inr ⟨by rw [pfour_failed], h1⟩⟩
theorem Known.done {D : List Int} {q : Nat} {st : St} {a : Sv} (h : Known D q q st a) (hl : D.length = 32 * q) : (tell st = 2 ∧ states D = none) ∨ (tell st = 0 ∧ ∃ l, states D = some l ∧ a = last l) := by
  rcases h with ⟨l, rfl, h1, rfl⟩ | ⟨rfl, h1⟩
  · refine .inr ⟨?_, l, by rw [h1, Nat.sub_self]; rfl, rfl⟩
    rw [List.drop_eq_nil_of_le (by omega)]
    rfl
  · exact .inl ⟨rfl, h1⟩

theorem four_take (b : List Int) (n : Nat) (hn : 32 ≤ n) : four (b.take n) = four b := by
  unfold four
  have t : ∀ k, k + 8 ≤ n → ((b.take n).drop k).take 8 = (b.drop k).take 8 := by
    intro k hk
    rw [List.drop_take, List.take_take, Nat.min_eq_left (by omega)]
  have t0 := t 0 (by omega)
  rw [t 8 (by omega), t 16 (by omega), t 24 (by omega)]
  simp only [List.drop_zero] at t0
  rw [t0]
theorem parse_take : ∀ (n : Nat) (b : List Int) (l : List Sv), parse n (b.take (32 * n)) l = parse n b l
  | 0, _, _ => rfl
  | n + 1, b, l => by
    have hd : (b.take (32 * (n + 1))).drop 32 = (b.drop 32).take (32 * n) := by rw [List.drop_take]; congr 1
    rw [parse, parse, four_take b _ (by omega), hd, parse_take n]
/-- What is behind the last whole record tells nothing. -/
theorem states_whole (b : List Int) (q : Nat) (hq : b.length / 32 = q) : states (b.take (32 * q)) = states b := by
  have hl : (b.take (32 * q)).length / 32 = q := by rw [List.length_take]; omega
  unfold states
  rw [hl, hq, parse_take]
end Go.Proofs.Ytlbdkigiphnabaa.Vault
