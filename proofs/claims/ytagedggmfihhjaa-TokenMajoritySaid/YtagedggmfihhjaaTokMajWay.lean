/-
  TokenMajority returns true, whatever the program's package token is, if its calls do what is asked of them.
-/
import Derived.Test.YtagedggmfihhjaaTokLine
import Derived.Test.YtagedggmfihhjaaRingCount
namespace Go.Proofs.Ytagedggmfihhjaa.Token
open Go.RowKit
open _root_.Go.Proofs.Ytagedggmfihhjaa.Frame (Rw Tb Tk noRow LeasesAt RowAt RowsAt cell_on Asked tokenOk)
open _root_.Go.Proofs.Ytagedggmfihhjaa.Codec (Ints lt_of_heap frozen_of heap_set)
open _root_.Go.Proofs.Ytagedggmfihhjaa.Ring (maj has meet all count)
theorem late_succ (l : List Int) (now span : Int) {j : Nat} (h : j < l.length) : late (l.take (j + 1)) now span = late (l.take j) now span + (if lateAt now span (l.getD j 0) = true then 1 else 0) := by
  unfold late
  rw [List.take_succ_eq_append_getElem h, List.countP_append]
  simp [List.countP_cons, List.getD, h]
theorem oneOf_succ (l : List Int) (now span s : Int) (j : Nat) : oneOf l now span s (j + 1) = (oneOf l now span s j || (lateAt now span (l.getD j 0) && has s j)) := by
  unfold oneOf
  rw [List.range_succ, List.any_append]
  simp
set_option maxRecDepth 100000 in
set_option maxHeartbeats 4000000 in
theorem maj_far (hal : ∀ w, Calls Try.prog 11 #[] w (Asked w true)) (p : Option Addr) (n c : Nat) (now span who : Int) (W : World) (_ : (n : Int) ≤ 9223372036854775807)
    (h : (n : Int) < 1 ∨ 1 ≤ (n : Int) ∧ (64 < (n : Int) ∨ (n : Int) ≤ 64 ∧ (now < 0 ∨ 0 ≤ now ∧ (1099511627776 < now ∨ now ≤ 1099511627776 ∧ (span < 0 ∨ 0 ≤ span ∧ 1099511627776 < span))))) :
    Calls Try.prog 4 #[.slice p n c, .agg #[.int .i64 now, .int .i64 span], .int .u64 who] W (Asked W true) := by
  have M0 := Lib.hid ((Mem.start W).box #[.int .i64 now, .int .i64 span] 23)
  obtain ⟨a0, a1, -⟩ := box2 (M0.out.boxes 0 _ _ _ rfl)
  rcases h with h1 | ⟨h1, h2 | ⟨h2, h3 | ⟨h3, h4 | ⟨h4, h5 | ⟨h5, h6⟩⟩⟩⟩⟩
  all_goals
    go_enter Try.func4, Try.ntmps4
    go_wp2_with (go_at_call 11; (with_reducible refine (hal _).mono ?_); rintro e v9 ⟨rfl, hb⟩; have MT := Lib.hid (M0.out.on hb); clear hb)
    go_ret
    exact ⟨rfl, MT.out.below⟩
set_option maxRecDepth 100000 in
set_option maxHeartbeats 4000000 in
theorem maj_near (P : Way10) (l : List Int) (p : Option Addr) (c : Nat) (now span who : Int) (W : World) (hw0 : 0 ≤ who) (hw1 : who < 18446744073709551616) (hl : Ints W p l)
    (h1 : 1 ≤ (l.length : Int)) (h2 : (l.length : Int) ≤ 64) (h3 : 0 ≤ now) (h4 : now ≤ 1099511627776) (h5 : 0 ≤ span) (h6 : span ≤ 1099511627776) :
    Calls Try.prog 4 #[.slice p l.length c, .agg #[.int .i64 now, .int .i64 span], .int .u64 who] W (Asked W true) := by
  have hal := alive_way P
  have M0 := Lib.hid ((Mem.start W).box #[.int .i64 now, .int .i64 span] 23)
  obtain ⟨a0, a1, -⟩ := box2 (M0.out.boxes 0 _ _ _ rfl)
  have hall := fun u => Ring.all_any (l.length : Int) u
  have hA0 := Ring.all_lo (l.length : Int)
  have hA1 := Ring.all_hi (l.length : Int)
  have hmeet := Ring.and_meet who (all l.length) hw0 hw1 hA0 hA1
  have hS0 := Ring.meet_lo who (all l.length)
  have hS1 := Ring.meet_hi who (all l.length) hA1
  have hone := fun a b => one_late (l := l) (now := now) (span := span) (who := who) (by omega) (by omega) a b
  have hmj := fun u => Ring.maj_any (l.length : Int) u (by omega)
  have hvl := fun hx => valid_late (l := l) (now := now) (span := span) (by omega) h3 h4 h5 h6 hx
  have hval := fun u q k (h : Ints u p l) => P.valid ⟨0, 0, l, ⟨0, []⟩⟩ p c q k now span u (by simp only; omega) (by unfold Num; omega) (by unfold Num; omega) h
  have hcnt := fun u => Ring.count_any (meet who (all l.length)) u hS0 hS1
  have hhas := fun (i : Int) u => Ring.has_any (meet who (all l.length)) i u hS0 hS1
  have hone0 : oneOf l now span (meet who (all l.length)) 0 = false := rfl
  have hones := oneOf_succ l now span (meet who (all l.length))
  have hlates := fun j h => late_succ l now span (j := j) h
  simp only [tokVal, List.length_nil] at hval
  generalize meet who (all (l.length : Int)) = s at *
  generalize all (l.length : Int) = al at *
  generalize maj (l.length : Int) = mj at *
  generalize count s = ct at *
  generalize valid l now span = vd at *
  have HS := Lib.hid (And.intro hone (And.intro hvl (And.intro hones (And.intro hlates hone0))))
  have HL := Lib.hid (hl.below ((Below.refl _ W).alloc (Nat.le_refl _) (.cells #[.int .i64 now, .int .i64 span] 23)))
  clear hone hvl hones hlates hone0 hl P
  go_enter Try.func4, Try.ntmps4
  go_wp2_with (go_at_call 12; (with_reducible refine (hall _).mono ?_); rintro e u1 ⟨rfl, rfl⟩)
  generalize W.alloc (.cells #[.int .i64 now, .int .i64 span] 23) = W1 at *
  go_loopw [10, 11, 13] (fun lt on i wr => ∃ j : Nat, j ≤ l.length ∧ i = .int .i64 (j : Int) ∧ (∃ t : Nat, Hid (t = late (l.take j) now span) ∧ t ≤ j ∧ lt = .int .i64 (t : Int)) ∧ (∃ o : Bool, Hid (o = oneOf l now span s j) ∧ on = .bool o) ∧ Hid (∀ q, q < j → -1 ≤ l.getD q 0 ∧ l.getD q 0 ≤ 1099511627776) ∧ Below W1.heap.size W1 wr) (fun _ _ i _ => l.length - (intOf i).toNat)
  case atStart => exact ⟨0, by omega, rfl, ⟨0, rfl, by omega, rfl⟩, ⟨false, rfl, rfl⟩, (by intro q hq; omega), Below.refl _ _⟩
  case round =>
    obtain ⟨j, hj, rfl, ⟨t, ht, htj, rfl⟩, ⟨o, ho, rfl⟩, hok, hbw⟩ := hrel
    by_cases hlt : j < l.length
    · obtain ⟨b, of, rfl, c1⟩ := ints_cell HL.out hlt
      have c1 := cell_on c1 hbw
      have hlt' : (j : Int) < (l.length : Int) := by omega
      have HX := Lib.hid (show (-1 ≤ l.getD j 0 ∧ l.getD j 0 ≤ 1099511627776) → ∀ q, q < j + 1 → -1 ≤ l.getD q 0 ∧ l.getD q 0 ≤ 1099511627776 from fun h q hq => by
        rcases Nat.lt_succ_iff_lt_or_eq.1 hq with h1 | h1
        · exact hok.out q h1
        · rw [h1]; exact h)
      have HT := Lib.hid (show late (l.take (j + 1)) now span = t + (if lateAt now span (l.getD j 0) = true then 1 else 0) by rw [ht.out]; exact HS.out.2.2.2.1 j hlt)
      have HO := Lib.hid (show oneOf l now span s (j + 1) = (o || (lateAt now span (l.getD j 0) && has s j)) by rw [ho.out]; exact HS.out.2.2.1 j)
      have hh := hhas (j : Int)
      generalize has s (j : Int) = hs at *
      generalize l.getD j 0 = x at c1 HX HT HO
      have hx : x < -1 ∨ -1 ≤ x ∧ (1099511627776 < x ∨ x ≤ 1099511627776 ∧ (x < 0 ∨ 0 ≤ x ∧ (x < now - span ∨ now - span ≤ x ∧ (o = true ∨ o = false)))) := by
        cases o <;> simp <;> omega
      clear ht ho hok hhas
      rcases hx with hx | ⟨hx, hx2 | ⟨hx2, hx3 | ⟨hx3, hx4 | ⟨hx4, rfl | rfl⟩⟩⟩⟩
      · go_wp2_with (go_at_call 11; (with_reducible refine (hal _).mono ?_); rintro e v9 ⟨rfl, hb⟩; have MT := Lib.hid ((M0.out.on hbw).on hb); clear hb)
        go_ret
        exact ⟨rfl, MT.out.below⟩
      · go_wp2_with (go_at_call 11; (with_reducible refine (hal _).mono ?_); rintro e v9 ⟨rfl, hb⟩; have MT := Lib.hid ((M0.out.on hbw).on hb); clear hb)
        go_ret
        exact ⟨rfl, MT.out.below⟩
      · have e : lateAt now span x = false := by unfold lateAt; rw [decide_eq_false (by omega)]; rfl
        have HX2 := Lib.hid (HX.out ⟨hx, hx2⟩)
        have HT2 := Lib.hid (show t = late (l.take (j + 1)) now span by rw [HT.out, e]; rfl)
        have HO2 := Lib.hid (show o = oneOf l now span s (j + 1) by rw [HO.out, e]; simp)
        clear e HX HT HO
        go_wp2
        go_roundw
        case rel => exact ⟨j + 1, by omega, by go_num, ⟨t, HT2.out, by omega, rfl⟩, ⟨o, HO2.out, rfl⟩, HX2.out, hbw⟩
        case measure => simp [intOf]; omega
      · have e : lateAt now span x = false := by unfold lateAt; rw [decide_eq_false (show ¬ now - span ≤ x by omega), Bool.and_false]
        have HX2 := Lib.hid (HX.out ⟨hx, hx2⟩)
        have HT2 := Lib.hid (show t = late (l.take (j + 1)) now span by rw [HT.out, e]; rfl)
        have HO2 := Lib.hid (show o = oneOf l now span s (j + 1) by rw [HO.out, e]; simp)
        clear e HX HT HO
        go_wp2
        go_roundw
        case rel => exact ⟨j + 1, by omega, by go_num, ⟨t, HT2.out, by omega, rfl⟩, ⟨o, HO2.out, rfl⟩, HX2.out, hbw⟩
        case measure => simp [intOf]; omega
      · have e : lateAt now span x = true := by unfold lateAt; rw [decide_eq_true hx3, decide_eq_true hx4]; rfl
        have HX2 := Lib.hid (HX.out ⟨hx, hx2⟩)
        have HT2 := Lib.hid (show t + 1 = late (l.take (j + 1)) now span by rw [HT.out, e]; rfl)
        have HO2 := Lib.hid (show true = oneOf l now span s (j + 1) by rw [HO.out, e]; simp)
        clear e HX HT HO
        go_wp2
        go_roundw
        case rel => exact ⟨j + 1, by omega, by go_num, ⟨t + 1, HT2.out, by omega, by go_num⟩, ⟨true, HO2.out, rfl⟩, HX2.out, hbw⟩
        case measure => simp [intOf]; omega
      · have e : lateAt now span x = true := by unfold lateAt; rw [decide_eq_true hx3, decide_eq_true hx4]; rfl
        have HX2 := Lib.hid (HX.out ⟨hx, hx2⟩)
        have HT2 := Lib.hid (show t + 1 = late (l.take (j + 1)) now span by rw [HT.out, e]; rfl)
        have HO2 := Lib.hid (show hs = oneOf l now span s (j + 1) by rw [HO.out, e]; simp)
        clear e HX HT HO
        go_wp2_with (go_at_call 13; (with_reducible refine (hh _).mono ?_); rintro e v1 ⟨rfl, rfl⟩)
        go_roundw
        case rel => exact ⟨j + 1, by omega, by go_num, ⟨t + 1, HT2.out, by omega, by go_num⟩, ⟨hs, HO2.out, rfl⟩, HX2.out, hbw⟩
        case measure => simp [intOf]; omega
    · obtain rfl : j = l.length := by omega
      have hv := HS.out.2.1 (fun x hx => by
        obtain ⟨q, hq, rfl⟩ := List.mem_iff_getElem.1 hx
        have := hok.out q hq
        simpa [List.getD, hq] using this)
      have ht2 : t = late l now span := by have h := ht.out; rwa [List.take_length] at h
      have hon := HS.out.1
      have ho2 := ho.out
      rw [← ht2] at hv hon
      rw [← ho2] at hon
      have hc : vd = false ∧ (t : Int) < mj ∨ vd = true ∧ mj ≤ (t : Int) ∧ (ct < mj ∨ mj ≤ ct ∧ o = true) := by
        by_cases h : mj ≤ (t : Int)
        · refine .inr ⟨by rw [hv]; exact decide_eq_true h, h, ?_⟩
          by_cases h' : mj ≤ ct
          · exact .inr ⟨h', hon h h'⟩
          · exact .inl (by omega)
        · exact .inl ⟨by rw [hv]; exact decide_eq_false h, by omega⟩
      clear hv hon ho2 ht2 ht ho hok HS hhas hall hmeet hj hlt
      rcases hc with ⟨rfl, hc⟩ | ⟨rfl, hc, hc2 | ⟨hc2, rfl⟩⟩
      all_goals
        go_wp2_with (first
          | (go_at_call 14; (with_reducible refine (hval _ _ _ (HL.out.below hbw)).mono ?_); rintro e v1 ⟨rfl, hb⟩; have M1 := Lib.hid ((M0.out.on hbw).on hb); clear hb)
          | (go_at_call 15; (with_reducible refine (hmj _).mono ?_); rintro e v2 ⟨rfl, rfl⟩)
          | (go_at_call 16; (with_reducible refine (hcnt _).mono ?_); rintro e v3 ⟨rfl, rfl⟩)
          | (go_at_call 11; (with_reducible refine (hal _).mono ?_); rintro e v9 ⟨rfl, hb⟩; have MT := Lib.hid (M1.out.on hb); clear hb))
        go_ret
        exact ⟨rfl, MT.out.below⟩
theorem majority_way (P : Way10) (l : List Int) (p : Option Addr) (c : Nat) (now span who : Int) (W : World) (hw0 : 0 ≤ who) (hw1 : who < 18446744073709551616) (hl : Ints W p l) (hn : (l.length : Int) ≤ 9223372036854775807) :
    Calls Try.prog 4 #[.slice p l.length c, .agg #[.int .i64 now, .int .i64 span], .int .u64 who] W (Asked W true) := by
  by_cases h1 : 1 ≤ (l.length : Int)
  · by_cases h2 : (l.length : Int) ≤ 64
    · by_cases h3 : 0 ≤ now
      · by_cases h4 : now ≤ 1099511627776
        · by_cases h5 : 0 ≤ span
          · by_cases h6 : span ≤ 1099511627776
            · exact maj_near P l p c now span who W hw0 hw1 hl h1 h2 h3 h4 h5 h6
            · exact maj_far (alive_way P) p l.length c now span who W hn (by omega)
          · exact maj_far (alive_way P) p l.length c now span who W hn (by omega)
        · exact maj_far (alive_way P) p l.length c now span who W hn (by omega)
      · exact maj_far (alive_way P) p l.length c now span who W hn (by omega)
    · exact maj_far (alive_way P) p l.length c now span who W hn (by omega)
  · exact maj_far (alive_way P) p l.length c now span who W hn (by omega)
end Go.Proofs.Ytagedggmfihhjaa.Token
