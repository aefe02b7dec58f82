/-
  Frames out of bytes, plain, the program's way: a frame that may be comes back from its bytes, whatever stands behind them; what is read without a fault had just these bytes; a part of a frame's bytes, from the beginning, is none's.
-/
import Derived.Test.YtnogfhjeckkckaaFrmBack
import Derived.Test.YtnogfhjeckkckaaFrmWrite
namespace Go.Proofs.Ytnogfhjeckkckaa.Frame
open Codec

theorem num_eight' (x : Int) (l : List Int) (f : Bool) (h : good x = true) : rdNum pWay (eight x ++ l, f) = (x, l, f) := by
  simp only [good, decide_eq_true_eq] at h
  exact pUpto_eight most x l f h.1 h.2 h.2
theorem upto_eight (m x : Int) (l : List Int) (f : Bool) (h : good x = true) (hm : x ≤ m) : pWay.upto m (eight x ++ l, f) = (x, l, f) := by
  simp only [good, decide_eq_true_eq] at h
  exact pUpto_eight m x l f h.1 h.2 hm
theorem puts_cons (x : Int) (l : List Int) : puts (x :: l) = eight x ++ puts l := by simp [puts]
theorem goods_cons {x : Int} {l : List Int} (h : goods (x :: l) = true) : good x = true ∧ goods l = true := by
  simpa [goods] using h
theorem drop_at {α : Type} (l : List α) (d : α) (n : Nat) (h : n < l.length) : l.drop n = l.getD n d :: l.drop (n + 1) := by
  rw [List.drop_eq_getElem_cons h]
  simp [List.getD, h]
theorem take_at {α : Type} (l : List α) (d : α) (n : Nat) (h : n < l.length) : l.take (n + 1) = l.take n ++ [l.getD n d] := by
  rw [List.take_succ_eq_append_getElem h]
  simp [List.getD, h]

theorem back_leases (out : List (Int × Int)) (hg : goods (leaseNums out) = true) (t : List Int) (f : Bool) : ∀ n, n ≤ out.length → rdLeases pWay n (puts (leaseNums out) ++ t, f) = (out.take n, puts (leaseNums (out.drop n)) ++ t, f)
  | 0, _ => by simp [rdLeases]
  | n + 1, h => by
    have ih := back_leases out hg t f n (by omega)
    have hgd := goods_lease out hg n (by omega)
    obtain ⟨g1, g2⟩ := goods_cons hgd
    obtain ⟨g2, _⟩ := goods_cons g2
    have e : leaseNums (out.drop n) = (out.getD n (0, 0)).1 :: (out.getD n (0, 0)).2 :: leaseNums (out.drop (n + 1)) := by
      rw [drop_at out (0, 0) n (by omega)]; simp [leaseNums]
    simp only [rdLeases]
    rw [ih]
    simp only
    rw [e, puts_cons, puts_cons, List.append_assoc, List.append_assoc, num_eight' _ _ _ g1]
    simp only
    rw [num_eight' _ _ _ g2, take_at out (0, 0) n (by omega)]
theorem back_row (r : Rw) (hg : goods (rowNums r) = true) (hn : r.out.length ≤ 64) (t : List Int) (f : Bool) : rdRow pWay (puts (rowNums r) ++ t, f) = (r, t, f) := by
  obtain ⟨k, a, m, out⟩ := r
  simp only at hn
  obtain ⟨hg1, hg2⟩ := goods_of_append (show goods ([k, a, m, (out.length : Int)] ++ leaseNums out) = true from hg)
  obtain ⟨g1, h1⟩ := goods_cons hg1
  obtain ⟨g2, h2⟩ := goods_cons h1
  obtain ⟨g3, h3⟩ := goods_cons h2
  obtain ⟨g4, _⟩ := goods_cons h3
  have e : puts (rowNums ⟨k, a, m, out⟩) ++ t = eight k ++ (eight a ++ (eight m ++ (eight (out.length : Int) ++ (puts (leaseNums out) ++ t)))) := by
    show puts ([k, a, m, (out.length : Int)] ++ leaseNums out) ++ t = _
    rw [puts_append]; simp [puts]
  unfold rdRow
  simp only
  rw [e, num_eight' _ _ _ g1]
  simp only
  rw [num_eight' _ _ _ g2]
  simp only
  rw [num_eight' _ _ _ g3]
  simp only
  rw [upto_eight 64 _ _ _ g4 (by omega)]
  simp only [Int.toNat_natCast]
  rw [back_leases out hg2 t f out.length (Nat.le_refl _)]
  simp [leaseNums, puts]
theorem back_rows (l : List Rw) (hg : goods (l.flatMap rowNums) = true) (hn : ∀ r ∈ l, r.out.length ≤ 64) (t : List Int) (f : Bool) : ∀ n, n ≤ l.length → rdRows pWay n (puts (l.flatMap rowNums) ++ t, f) = (l.take n, puts ((l.drop n).flatMap rowNums) ++ t, f)
  | 0, _ => by simp [rdRows]
  | n + 1, h => by
    have ih := back_rows l hg hn t f n (by omega)
    have hgd := goods_row_at l hg n (by omega)
    have hnd := hn (l.getD n noRow) (by simp [List.getD, show n < l.length by omega])
    have e : (l.drop n).flatMap rowNums = rowNums (l.getD n noRow) ++ (l.drop (n + 1)).flatMap rowNums := by
      rw [drop_at l noRow n (by omega)]; simp
    simp only [rdRows]
    rw [ih]
    simp only
    rw [e, puts_append, List.append_assoc, back_row _ hgd hnd, take_at l noRow n (by omega)]
theorem back_ints (l : List Int) (hg : goods (l.map (· + 1)) = true) (t : List Int) (f : Bool) : ∀ n, n ≤ l.length → rdInts pWay n (puts (l.map (· + 1)) ++ t, f) = (l.take n, puts ((l.drop n).map (· + 1)) ++ t, f)
  | 0, _ => by simp [rdInts]
  | n + 1, h => by
    have ih := back_ints l hg t f n (by omega)
    obtain ⟨g1, _⟩ := goods_cons (goods_at l hg n (by omega))
    have e : (l.drop n).map (· + 1) = (l.getD n 0 + 1) :: (l.drop (n + 1)).map (· + 1) := by
      rw [drop_at l 0 n (by omega)]; simp
    simp only [rdInts]
    rw [ih]
    simp only
    rw [e, puts_cons, List.append_assoc, num_eight' _ _ _ g1, take_at l 0 n (by omega)]
    simp
theorem back_token (t : Tk) (h : tokenOk t = true) (l : List Int) (f : Bool) : rdToken pWay (puts (tokenNums t) ++ l, f) = (t, l, f) := by
  obtain ⟨hg, hns, hnr, hno, _, _⟩ := token_gives t h
  obtain ⟨gen, hop, st, start, rows⟩ := t
  simp only at hns hnr hno
  obtain ⟨hgA, hg4⟩ := goods_of_append (show goods ([gen, hop, (st.length : Int)] ++ st.map (· + 1) ++ [start, (rows.length : Int)] ++ rows.flatMap rowNums) = true from hg)
  obtain ⟨hgB, hg3⟩ := goods_of_append hgA
  obtain ⟨hg1, hg2⟩ := goods_of_append hgB
  obtain ⟨g1, h1⟩ := goods_cons hg1
  obtain ⟨g2, h2⟩ := goods_cons h1
  obtain ⟨g3, _⟩ := goods_cons h2
  obtain ⟨g4, h4⟩ := goods_cons hg3
  obtain ⟨g5, _⟩ := goods_cons h4
  have e : puts (tokenNums ⟨gen, hop, st, start, rows⟩) ++ l = eight gen ++ (eight hop ++ (eight (st.length : Int) ++ (puts (st.map (· + 1)) ++ (eight start ++ (eight (rows.length : Int) ++ (puts (rows.flatMap rowNums) ++ l)))))) := by
    show puts ([gen, hop, (st.length : Int)] ++ st.map (· + 1) ++ [start, (rows.length : Int)] ++ rows.flatMap rowNums) ++ l = _
    rw [puts_append, puts_append, puts_append, puts_cons, puts_cons, puts_cons, puts_nil, puts_cons, puts_cons, puts_nil]
    simp only [List.append_assoc, List.append_nil]
  have e5 := back_ints st hg2 (eight start ++ (eight (rows.length : Int) ++ (puts (rows.flatMap rowNums) ++ l))) f st.length (Nat.le_refl _)
  rw [List.take_length, List.drop_length] at e5
  simp only [List.map_nil, puts_nil, List.nil_append] at e5
  have e6 := back_rows rows hg4 hno l f rows.length (Nat.le_refl _)
  rw [List.take_length, List.drop_length] at e6
  simp only [List.flatMap_nil, puts_nil, List.nil_append] at e6
  unfold rdToken
  simp only
  rw [e, num_eight' _ _ _ g1]
  simp only
  rw [num_eight' _ _ _ g2]
  simp only
  rw [upto_eight 64 _ _ _ g3 (by omega)]
  simp only [Int.toNat_natCast]
  rw [e5]
  simp only
  rw [num_eight' _ _ _ g4]
  simp only
  rw [upto_eight 16 _ _ _ g5 (by omega)]
  simp only [Int.toNat_natCast]
  rw [e6]
theorem none_is (t : Tk) (h : tokenNone t = true) : t = noTk := by
  obtain ⟨g, o, st, s, rows⟩ := t
  simp only [tokenNone, Bool.and_eq_true, beq_iff_eq] at h
  obtain ⟨⟨⟨⟨rfl, rfl⟩, h1⟩, rfl⟩, h2⟩ := h
  rw [List.eq_nil_of_length_eq_zero h1, List.eq_nil_of_length_eq_zero h2]
  rfl
/-- A frame that may be comes back from its bytes. -/
theorem back_frame (f : Fr) (h : frameOk f = true) (hb0 : 0 ≤ f.bits) (hb1 : f.bits < 18446744073709551616) (l : List Int) (k : Bool) : rdFrame pWay (frameBytes f ++ l, k) = (f, l, k) := by
  obtain ⟨kind, src, dst, gen, hop, bits, t⟩ := f
  simp only [frameOk, Bool.and_eq_true] at h
  simp only at hb0 hb1
  obtain ⟨⟨h1, h2⟩, hk⟩ := h
  have g1 := good_in h1 (by omega) (by omega)
  have g2 := good_in h2 (by omega) (by omega)
  unfold rdFrame
  simp only
  by_cases k0 : kind = 0
  · subst k0
    simp only [if_true, Bool.and_eq_true, beq_iff_eq] at hk
    obtain ⟨⟨⟨ht, rfl⟩, rfl⟩, rfl⟩ := hk
    have e : frameBytes ⟨0, src, dst, 0, 0, 0, t⟩ ++ l = eight 0 ++ (eight src ++ (eight dst ++ (puts (tokenNums t) ++ l))) := by
      simp [frameBytes, frameNums, puts_cons]
    rw [e, num_eight' _ _ _ (by decide)]
    simp only
    rw [num_eight' _ _ _ g1]
    simp only
    rw [num_eight' _ _ _ g2]
    simp only [if_true]
    rw [back_token t ht]
  · rw [if_neg k0] at hk
    by_cases k1 : kind = 1
    · subst k1
      simp only [if_true, Bool.and_eq_true, beq_iff_eq] at hk
      obtain ⟨⟨⟨ht, hg⟩, hh⟩, rfl⟩ := hk
      have e : frameBytes ⟨1, src, dst, gen, hop, 0, t⟩ ++ l = eight 1 ++ (eight src ++ (eight dst ++ (eight gen ++ (eight hop ++ l)))) := by
        simp [frameBytes, frameNums, puts_cons, puts_nil]
      rw [e, num_eight' _ _ _ (by decide)]
      simp only
      rw [num_eight' _ _ _ g1]
      simp only
      rw [num_eight' _ _ _ g2]
      simp only
      rw [if_neg (by omega), num_eight' _ _ _ (good_in hg (by omega) (by omega))]
      simp only [if_true]
      rw [num_eight' _ _ _ (good_in hh (by omega) (by omega)), none_is t ht]
    · rw [if_neg k1] at hk
      by_cases k2 : kind = 2
      · subst k2
        simp only [if_true, Bool.and_eq_true, beq_iff_eq] at hk
        obtain ⟨⟨ht, hg⟩, rfl⟩ := hk
        have e : frameBytes ⟨2, src, dst, gen, 0, bits, t⟩ ++ l = eight 2 ++ (eight src ++ (eight dst ++ (eight gen ++ (eight bits ++ l)))) := by
          simp [frameBytes, frameNums, puts_cons, puts_nil]
        have eb : pWay.bits (eight bits ++ l, k) = (bits, l, k) := pBits_eight bits l k hb0 hb1
        rw [e, num_eight' _ _ _ (by decide)]
        simp only
        rw [num_eight' _ _ _ g1]
        simp only
        rw [num_eight' _ _ _ g2]
        simp only
        rw [if_neg (by omega), if_neg (by omega), num_eight' _ _ _ (good_in hg (by omega) (by omega))]
        simp only [if_true]
        rw [eb, none_is t ht]
      · rw [if_neg k2] at hk
        by_cases k3 : kind = 3
        · subst k3
          simp only [if_true, Bool.and_eq_true, beq_iff_eq] at hk
          obtain ⟨⟨⟨ht, rfl⟩, rfl⟩, rfl⟩ := hk
          have e : frameBytes ⟨3, src, dst, 0, 0, 0, t⟩ ++ l = eight 3 ++ (eight src ++ (eight dst ++ l)) := by
            simp [frameBytes, frameNums, puts_cons, puts_nil]
          rw [e, num_eight' _ _ _ (by decide)]
          simp only
          rw [num_eight' _ _ _ g1]
          simp only
          rw [num_eight' _ _ _ g2]
          simp only
          rw [if_neg (by omega), if_neg (by omega), if_neg (by omega), none_is t ht]
        · rw [if_neg k3] at hk
          cases hk

/-! What was read had just these bytes. -/
theorem eight_num (bs : List Int) (h : IsBytes bs) (hl : bs.length = 8) : eight (num bs) = bs := by
  match bs, hl with
  | [a, b, c, d, e, f, g, i], _ =>
    have ha := h a (by simp)
    have hb := h b (by simp)
    have hc := h c (by simp)
    have hd := h d (by simp)
    have he := h e (by simp)
    have hf := h f (by simp)
    have hg := h g (by simp)
    have hi := h i (by simp)
    have hn : num [a, b, c, d, e, f, g, i] = ((((((a * 256 + b) * 256 + c) * 256 + d) * 256 + e) * 256 + f) * 256 + g) * 256 + i := by simp [num]
    rw [hn]
    simp only [eight, some8, show List.range 8 = [0, 1, 2, 3, 4, 5, 6, 7] by decide, List.map_cons, List.map_nil, byteAt, List.cons.injEq, and_true]
    refine ⟨?_, ?_, ?_, ?_, ?_, ?_, ?_, ?_⟩ <;> simp <;> omega

/-- From s on these numbers were read, and s1 is left. -/
def Took (s : St) (ns : List Int) (s1 : St) : Prop := IsBytes s.1 → s1.2 = false → s.2 = false ∧ s.1 = puts ns ++ s1.1 ∧ IsBytes s1.1
theorem IsBytes.of_append {a b : List Int} (h : IsBytes (a ++ b)) : IsBytes b := fun x hx => h x (List.mem_append_right a hx)
theorem pbits_took {s : St} (h : IsBytes s.1) (h1 : (pBits s).2.2 = false) : s.2 = false ∧ s.1 = eight (pBits s).1 ++ (pBits s).2.1 ∧ IsBytes (pBits s).2.1 := by
  unfold pBits at h1 ⊢
  by_cases hl : s.1.length < 8
  · rw [if_pos hl] at h1
    cases h1
  · rw [if_neg hl] at h1 ⊢
    refine ⟨h1, ?_, h.drop 8⟩
    simp only
    rw [eight_num _ (h.take 8) (by simp; omega), List.take_append_drop]
theorem upto_took (m : Int) (s : St) : Took s [(pWay.upto m s).1] (pWay.upto m s).2 := by
  intro h h1
  show s.2 = false ∧ s.1 = puts [(pUpto m s).1] ++ (pUpto m s).2.1 ∧ IsBytes (pUpto m s).2.1
  have h1' : (pUpto m s).2.2 = false := h1
  unfold pUpto at h1' ⊢
  by_cases ho : over m (pBits s).1 = true
  · rw [if_pos ho] at h1'
    cases h1'
  · rw [if_neg ho] at h1' ⊢
    obtain ⟨e1, e2, e3⟩ := pbits_took h h1'
    refine ⟨e1, ?_, e3⟩
    simp only [puts_cons, puts_nil, List.append_nil]
    exact e2
theorem Took.trans {s s1 s2 : St} {a b : List Int} (h : Took s a s1) (k : Took s1 b s2) (hm : s2.2 = false → s1.2 = false ∧ True) : Took s (a ++ b) s2 := by
  intro hb h2
  have h1 := (hm h2).1
  obtain ⟨e1, e2, e3⟩ := h hb h1
  obtain ⟨_, e5, e6⟩ := k e3 h2
  exact ⟨e1, by rw [e2, e5, puts_append, List.append_assoc], e6⟩
theorem Took.nil (s : St) : Took s [] s := fun h h1 => ⟨h1, by simp [puts], h⟩
/-- A fault stays. -/
theorem upto_flag (m : Int) (s : St) (h : (pWay.upto m s).2.2 = false) : s.2 = false := by
  have h' : (pUpto m s).2.2 = false := h
  unfold pUpto pBits at h'
  by_cases hl : s.1.length < 8
  · rw [if_pos hl] at h'
    split at h' <;> cases h'
  · rw [if_neg hl] at h'
    split at h'
    · cases h'
    · exact h'
theorem num_took (s : St) : Took s [(rdNum pWay s).1] (rdNum pWay s).2 := upto_took most s
theorem num_flag (s : St) (h : (rdNum pWay s).2.2 = false) : s.2 = false := upto_flag most s h
theorem leases_flag : ∀ (n : Nat) (s : St), (rdLeases pWay n s).2.2 = false → s.2 = false
  | 0, _, h => h
  | n + 1, s, h => leases_flag n s (num_flag _ (num_flag _ h))
theorem leases_took : ∀ (n : Nat) (s : St), Took s (leaseNums (rdLeases pWay n s).1) (rdLeases pWay n s).2
  | 0, s => Took.nil s
  | n + 1, s => by
    have h := leases_took n s
    have h1 := h.trans (num_took _) (fun e => ⟨num_flag _ e, trivial⟩)
    have h2 := h1.trans (num_took _) (fun e => ⟨num_flag _ e, trivial⟩)
    have e : leaseNums (rdLeases pWay (n + 1) s).1 = leaseNums (rdLeases pWay n s).1 ++ [(rdNum pWay (rdLeases pWay n s).2).1] ++ [(rdNum pWay (rdNum pWay (rdLeases pWay n s).2).2).1] := by
      simp [rdLeases, leaseNums]
    rw [e]
    exact h2
theorem upto_pos (m : Int) (s : St) (h : IsBytes s.1) : 0 ≤ (pWay.upto m s).1 := by
  show 0 ≤ (pUpto m s).1
  unfold pUpto
  split
  · simp
  · unfold pBits
    split
    · simp
    · exact (num_take s.1 h 8 (by omega)).1
theorem row_flag (s : St) (h : (rdRow pWay s).2.2 = false) : s.2 = false :=
  num_flag _ (num_flag _ (num_flag _ (upto_flag _ _ (leases_flag _ _ h))))
theorem row_took (s : St) : Took s (rowNums (rdRow pWay s).1) (rdRow pWay s).2 := by
  intro hb hf
  have f4 : (pWay.upto 64 (rdNum pWay (rdNum pWay (rdNum pWay s).2).2).2).2.2 = false := leases_flag _ _ hf
  have f3 := upto_flag _ _ f4
  have f2 := num_flag _ f3
  have f1 := num_flag _ f2
  have h3 := ((num_took s).trans (num_took _) (fun e => ⟨num_flag _ e, trivial⟩)).trans (num_took _) (fun e => ⟨num_flag _ e, trivial⟩)
  have hp := upto_pos 64 _ (h3 hb f3).2.2
  have h4 := h3.trans (upto_took 64 _) (fun e => ⟨upto_flag _ _ e, trivial⟩)
  have h5 := h4.trans (leases_took (pWay.upto 64 (rdNum pWay (rdNum pWay (rdNum pWay s).2).2).2).1.toNat _) (fun e => ⟨leases_flag _ _ e, trivial⟩)
  have e : rowNums (rdRow pWay s).1 = [(rdNum pWay s).1] ++ [(rdNum pWay (rdNum pWay s).2).1] ++ [(rdNum pWay (rdNum pWay (rdNum pWay s).2).2).1] ++ [(pWay.upto 64 (rdNum pWay (rdNum pWay (rdNum pWay s).2).2).2).1] ++ leaseNums (rdLeases pWay (pWay.upto 64 (rdNum pWay (rdNum pWay (rdNum pWay s).2).2).2).1.toNat (pWay.upto 64 (rdNum pWay (rdNum pWay (rdNum pWay s).2).2).2).2).1 := by
    unfold rowNums rdRow
    simp only
    rw [len_rdLeases, Int.toNat_of_nonneg hp]
    rfl
  rw [e]
  exact h5 hb hf
theorem rows_flag : ∀ (n : Nat) (s : St), (rdRows pWay n s).2.2 = false → s.2 = false
  | 0, _, h => h
  | n + 1, s, h => rows_flag n s (row_flag _ h)
theorem rows_took : ∀ (n : Nat) (s : St), Took s ((rdRows pWay n s).1.flatMap rowNums) (rdRows pWay n s).2
  | 0, s => Took.nil s
  | n + 1, s => by
    have h1 := (rows_took n s).trans (row_took _) (fun e => ⟨row_flag _ e, trivial⟩)
    have e : (rdRows pWay (n + 1) s).1.flatMap rowNums = (rdRows pWay n s).1.flatMap rowNums ++ rowNums (rdRow pWay (rdRows pWay n s).2).1 := by simp [rdRows]
    rw [e]
    exact h1
theorem ints_flag : ∀ (n : Nat) (s : St), (rdInts pWay n s).2.2 = false → s.2 = false
  | 0, _, h => h
  | n + 1, s, h => ints_flag n s (num_flag _ h)
theorem ints_took : ∀ (n : Nat) (s : St), Took s ((rdInts pWay n s).1.map (· + 1)) (rdInts pWay n s).2
  | 0, s => Took.nil s
  | n + 1, s => by
    have h1 := (ints_took n s).trans (num_took _) (fun e => ⟨num_flag _ e, trivial⟩)
    have e : (rdInts pWay (n + 1) s).1.map (· + 1) = (rdInts pWay n s).1.map (· + 1) ++ [(rdNum pWay (rdInts pWay n s).2).1] := by
      simp [rdInts]
    rw [e]
    exact h1
theorem token_parts (U : Way) (s : St) : ∃ g h n st t m r, g = rdNum U s ∧ h = rdNum U g.2 ∧ n = U.upto 64 h.2 ∧ st = rdInts U n.1.toNat n.2 ∧ t = rdNum U st.2 ∧ m = U.upto 16 t.2 ∧ r = rdRows U m.1.toNat m.2 ∧ rdToken U s = (⟨g.1, h.1, st.1, ⟨t.1, r.1⟩⟩, r.2) :=
  ⟨_, _, _, _, _, _, _, rfl, rfl, rfl, rfl, rfl, rfl, rfl, rfl⟩
theorem token_flag (s : St) (hf : (rdToken pWay s).2.2 = false) : s.2 = false := by
  obtain ⟨g, h, n, st, t, m, r, hg, hh, hn, hst, ht, hm, hr, e⟩ := token_parts pWay s
  rw [e] at hf
  simp only at hf
  have f6 : m.2.2 = false := by rw [hr] at hf; exact rows_flag _ _ hf
  have f5 : t.2.2 = false := by rw [hm] at f6; exact upto_flag _ _ f6
  have f4 : st.2.2 = false := by rw [ht] at f5; exact num_flag _ f5
  have f3 : n.2.2 = false := by rw [hst] at f4; exact ints_flag _ _ f4
  have f2 : h.2.2 = false := by rw [hn] at f3; exact upto_flag _ _ f3
  have f1 : g.2.2 = false := by rw [hh] at f2; exact num_flag _ f2
  rw [hg] at f1
  exact num_flag _ f1
theorem token_took (s : St) : Took s (tokenNums (rdToken pWay s).1) (rdToken pWay s).2 := by
  obtain ⟨g, h, n, st, t, m, r, hg, hh, hn, hst, ht, hm, hr, e⟩ := token_parts pWay s
  rw [e]
  intro hb hf
  simp only at hf ⊢
  have f6 : m.2.2 = false := by rw [hr] at hf; exact rows_flag _ _ hf
  have f5 : t.2.2 = false := by rw [hm] at f6; exact upto_flag _ _ f6
  have f4 : st.2.2 = false := by rw [ht] at f5; exact num_flag _ f5
  have f3 : n.2.2 = false := by rw [hst] at f4; exact ints_flag _ _ f4
  have f2 : h.2.2 = false := by rw [hn] at f3; exact upto_flag _ _ f3
  have h1 : Took s [g.1] g.2 := by rw [hg]; exact num_took s
  have h2 : Took s ([g.1] ++ [h.1]) h.2 := by rw [hh]; exact h1.trans (num_took _) (fun e => ⟨num_flag _ e, trivial⟩)
  have p1 : 0 ≤ n.1 := by rw [hn]; exact upto_pos 64 _ (h2 hb f2).2.2
  have h3 : Took s ([g.1] ++ [h.1] ++ [n.1]) n.2 := by rw [hn]; exact h2.trans (upto_took 64 _) (fun e => ⟨upto_flag _ _ e, trivial⟩)
  have l1 : (st.1.length : Int) = n.1 := by rw [hst, len_rdInts, Int.toNat_of_nonneg p1]
  have h4 : Took s ([g.1] ++ [h.1] ++ [n.1] ++ st.1.map (· + 1)) st.2 := by rw [hst]; exact h3.trans (ints_took _ _) (fun e => ⟨ints_flag _ _ e, trivial⟩)
  have h5 : Took s ([g.1] ++ [h.1] ++ [n.1] ++ st.1.map (· + 1) ++ [t.1]) t.2 := by rw [ht]; exact h4.trans (num_took _) (fun e => ⟨num_flag _ e, trivial⟩)
  have p2 : 0 ≤ m.1 := by rw [hm]; exact upto_pos 16 _ (h5 hb f5).2.2
  have h6 : Took s ([g.1] ++ [h.1] ++ [n.1] ++ st.1.map (· + 1) ++ [t.1] ++ [m.1]) m.2 := by rw [hm]; exact h5.trans (upto_took 16 _) (fun e => ⟨upto_flag _ _ e, trivial⟩)
  have l2 : (r.1.length : Int) = m.1 := by rw [hr, len_rdRows, Int.toNat_of_nonneg p2]
  have h7 : Took s ([g.1] ++ [h.1] ++ [n.1] ++ st.1.map (· + 1) ++ [t.1] ++ [m.1] ++ r.1.flatMap rowNums) r.2 := by rw [hr]; exact h6.trans (rows_took _ _) (fun e => ⟨rows_flag _ _ e, trivial⟩)
  have e2 : tokenNums ⟨g.1, h.1, st.1, ⟨t.1, r.1⟩⟩ = [g.1] ++ [h.1] ++ [n.1] ++ st.1.map (· + 1) ++ [t.1] ++ [m.1] ++ r.1.flatMap rowNums := by
    unfold tokenNums headNums
    simp only
    rw [l1, l2]
    simp
  rw [e2]
  exact h7 hb hf
/-- A frame that may be, read without a fault, had these bytes. -/
theorem frame_took (bs : List Int) (hb : IsBytes bs) (hok : frameOk (rdFrame pWay (bs, false)).1 = true) (hf : (rdFrame pWay (bs, false)).2.2 = false) : bs = frameBytes (rdFrame pWay (bs, false)).1 ++ (rdFrame pWay (bs, false)).2.1 := by
  have h3 := ((num_took (bs, false)).trans (num_took _) (fun e => ⟨num_flag _ e, trivial⟩)).trans (num_took _) (fun e => ⟨num_flag _ e, trivial⟩)
  unfold rdFrame at hok hf ⊢
  simp only at hok hf ⊢
  generalize rdNum pWay (rdNum pWay (rdNum pWay (bs, false)).2).2 = z3 at h3 hok hf ⊢
  generalize (rdNum pWay (rdNum pWay (bs, false)).2).1 = z2 at h3 hok hf ⊢
  generalize (rdNum pWay (bs, false)).1 = z1 at h3 hok hf ⊢
  by_cases k0 : z1 = 0
  · subst k0
    rw [if_pos rfl] at hok hf ⊢
    have h4 := h3.trans (token_took _) (fun e => ⟨token_flag _ e, trivial⟩)
    generalize rdToken pWay z3.2 = tk at h4 hok hf ⊢
    simp only at hf ⊢
    obtain ⟨_, e, _⟩ := h4 hb hf
    have e2 : frameBytes ⟨0, z2, z3.1, 0, 0, 0, tk.1⟩ = puts ([0] ++ [z2] ++ [z3.1] ++ tokenNums tk.1) := by simp [frameBytes, frameNums]
    rw [e2]
    exact e
  · rw [if_neg k0] at hok hf ⊢
    by_cases k1 : z1 = 1
    · subst k1
      rw [if_pos rfl] at hok hf ⊢
      have h4 := h3.trans (num_took _) (fun e => ⟨num_flag _ e, trivial⟩)
      generalize rdNum pWay z3.2 = z4 at h4 hok hf ⊢
      have h5 := h4.trans (num_took _) (fun e => ⟨num_flag _ e, trivial⟩)
      generalize rdNum pWay z4.2 = z5 at h5 hok hf ⊢
      simp only at hf ⊢
      obtain ⟨_, e, _⟩ := h5 hb hf
      have e2 : frameBytes ⟨1, z2, z3.1, z4.1, z5.1, 0, noTk⟩ = puts ([1] ++ [z2] ++ [z3.1] ++ [z4.1] ++ [z5.1]) := by simp [frameBytes, frameNums]
      rw [e2]
      exact e
    · rw [if_neg k1] at hok hf ⊢
      by_cases k2 : z1 = 2
      · subst k2
        rw [if_pos rfl] at hok hf ⊢
        have h4 := h3.trans (num_took _) (fun e => ⟨num_flag _ e, trivial⟩)
        generalize rdNum pWay z3.2 = z4 at h4 hok hf ⊢
        have hpb : pWay.bits z4.2 = pBits z4.2 := rfl
        rw [hpb] at hok hf ⊢
        simp only at hf ⊢
        have hb1 : z4.2.2 = false := by
          unfold pBits at hf
          split at hf
          · cases hf
          · exact hf
        obtain ⟨_, e, hbb⟩ := h4 hb hb1
        obtain ⟨_, e3, _⟩ := pbits_took hbb hf
        generalize pBits z4.2 = z5 at e3 ⊢
        have e2 : frameBytes ⟨2, z2, z3.1, z4.1, 0, z5.1, noTk⟩ = puts ([2] ++ [z2] ++ [z3.1] ++ [z4.1]) ++ eight z5.1 := by simp [frameBytes, frameNums]
        rw [e2, List.append_assoc, ← e3]
        exact e
      · rw [if_neg k2] at hok hf ⊢
        simp only at hf ⊢
        obtain ⟨_, e, _⟩ := h3 hb hf
        by_cases k3 : z1 = 3
        · subst k3
          have e2 : frameBytes ⟨3, z2, z3.1, 0, 0, 0, noTk⟩ = puts ([3] ++ [z2] ++ [z3.1]) := by simp [frameBytes, frameNums]
          rw [e2]
          exact e
        · simp only [frameOk, Bool.and_eq_true] at hok
          rw [if_neg k0, if_neg k1, if_neg k2, if_neg k3] at hok
          cases hok.2
theorem bits_in (bs : List Int) (hb : IsBytes bs) : 0 ≤ (rdFrame pWay (bs, false)).1.bits ∧ (rdFrame pWay (bs, false)).1.bits < 18446744073709551616 := by
  have hk : ∀ (m : Int) (s : St), IsBytes s.1 → IsBytes (pWay.upto m s).2.1 := fun m s h => pUpto_ok m h
  unfold rdFrame
  simp only
  split
  · simp
  · split
    · simp
    · split
      · have h4 := hk most _ (hk most _ (hk most _ (hk most (bs, false) hb)))
        have : 0 ≤ (pBits (rdNum pWay (rdNum pWay (rdNum pWay (rdNum pWay (bs, false)).2).2).2).2).1 ∧ (pBits (rdNum pWay (rdNum pWay (rdNum pWay (rdNum pWay (bs, false)).2).2).2).2).1 < 18446744073709551616 := by
          unfold pBits
          split
          · simp
          · rename_i h8
            have := num_take _ h4 8 (Nat.le_of_not_lt h8)
            have e : (256 : Int) ^ 8 = 18446744073709551616 := by decide
            rw [e] at this
            exact this
        exact this
      · simp
theorem tell_zero {s : St} (h : tell s = 0) : s = ([], false) := by
  obtain ⟨l, f⟩ := s
  unfold tell at h
  cases f with
  | true => simp at h
  | false =>
    cases l with
    | nil => rfl
    | cons x l => simp at h
theorem ok_means {bs : List Int} (h : rdOk pWay bs = true) : (rdFrame pWay (bs, false)).2 = ([], false) ∧ frameOk (rdFrame pWay (bs, false)).1 = true := by
  unfold rdOk at h
  rw [Bool.and_eq_true, beq_iff_eq] at h
  exact ⟨tell_zero h.1, h.2⟩
/-- What is decoded has these bytes. -/
theorem ok_bytes (bs : List Int) (hb : IsBytes bs) (h : rdOk pWay bs = true) : frameBytes (rdFrame pWay (bs, false)).1 = bs := by
  obtain ⟨h1, h2⟩ := ok_means h
  have := frame_took bs hb h2 (by rw [h1])
  rw [h1] at this
  simpa using this.symm
/-- A frame's bytes are its. -/
theorem bytes_ok (f : Fr) (h : frameOk f = true) (hb0 : 0 ≤ f.bits) (hb1 : f.bits < 18446744073709551616) : rdOk pWay (frameBytes f) = true ∧ (rdFrame pWay (frameBytes f, false)).1 = f := by
  have e := back_frame f h hb0 hb1 [] false
  rw [List.append_nil] at e
  unfold rdOk
  rw [e]
  exact ⟨by simp [tell, h], rfl⟩
/-- A part of it is none's. -/
theorem part_none (bs : List Int) (hb : IsBytes bs) (h : rdOk pWay bs = true) (k : Nat) (hk : k < bs.length) : rdOk pWay (bs.take k) = false := by
  cases hp : rdOk pWay (bs.take k) with
  | false => rfl
  | true =>
    have e1 := ok_bytes _ (hb.take k) hp
    have hbits := bits_in _ (hb.take k)
    obtain ⟨_, h2⟩ := ok_means hp
    have e2 := back_frame _ h2 hbits.1 hbits.2 (bs.drop k) false
    rw [e1, List.take_append_drop] at e2
    obtain ⟨h3, _⟩ := ok_means h
    rw [e2] at h3
    simp only [Prod.mk.injEq, and_true] at h3
    have := congrArg List.length h3
    simp at this
    omega
end Go.Proofs.Ytnogfhjeckkckaa.Frame
