/-
  The program's Total, lent, others, isNode, of any row of up to 1000 leases: what the plain functions give; what lay when the call began lies on.
-/
import Derived.Test.YtcnnepmhdccipaaLgWords
import Derived.Test.YtcnnepmhdccipaaMgC
namespace Go.Proofs.Ytcnnepmhdccipaa.Ledger
open Go.RowKit
open _root_.Go.Proofs.Ytcnnepmhdccipaa.Frame (Rw Tb noRow LeasesAt cell_on)
open _root_.Go.Proofs.Ytcnnepmhdccipaa.Codec (own_below own_lower lt_of_heap frozen_of heap_set)
open _root_.Go.Proofs.Ytcnnepmhdccipaa.Sat (fit add sub mul fit_lo fit_hi fit_self fit_fit fit_any sub_any mul_any add2 add_lo add_hi)

theorem add_snoc (l : List Int) (x : Int) : add (l ++ [x]) = add [add l, x] := by
  have h0 := add_lo l
  have h1 := add_hi l
  have hs : Sat.sum (l ++ [x]) = Sat.sum l + fit x := by
    have := Sat.sum_take (l ++ [x]) l.length (by simp)
    rw [List.take_of_length_le (by simp), List.take_left'] at this
    · rw [this]; simp [List.getD]
    · rfl
  have hl := Sat.sum_lo l
  have hx := fit_lo x
  unfold add at h0 h1 ⊢
  rw [Sat.sum_two, hs]
  generalize Sat.sum l = S at *
  have ht : Sat.top = 4611686018427387904 := rfl
  rw [ht] at h0 h1 ⊢
  rw [fit_self h0 h1]
  by_cases hS : 4611686018427387904 < S
  · rw [if_pos hS]
    split <;> split <;> omega
  · rw [if_neg hS]
theorem add_just (x : Int) : add [x] = fit x := by
  have h0 := fit_lo x
  have h1 := fit_hi x
  unfold add
  have : Sat.sum [x] = fit x := by simp [Sat.sum]
  rw [this, if_neg (by unfold Sat.top; omega)]

set_option maxRecDepth 100000 in
set_option maxHeartbeats 1000000 in
theorem ptotal_any (r : Rw) (p : Option Addr) (c : Nat) (w : World) (h : LeasesAt w p r.out) (hl : r.out.length ≤ 1000) :
    Calls Try.prog 19 #[rowVal r p c] w fun e w' => e = .returned (.int .i64 (total r)) ∧ Below w.heap.size w w' := by
  have HT := Lib.hid (soFar_all r)
  have HS : ∀ j, Hid (j < r.out.length → add (soFar r (j + 1)) = add [add (soFar r j), (r.out.getD j (0, 0)).2]) := fun j hj => by rw [soFar_succ r j hj, add_snoc]
  have h00 : add (soFar r 0) = fit r.avail := by rw [← add_just]; simp [soFar]
  generalize total r = T at HT ⊢
  generalize hF : (fun j => add (soFar r j)) = F
  have hFj : ∀ j, add (soFar r j) = F j := fun j => by rw [← hF]
  simp only [hFj] at HT HS h00
  clear hF hFj
  obtain ⟨key, avail, mark, out⟩ := r
  simp only [rowVal] at *
  have M0 := Lib.hid (((Mem.start w).addLeases h).box #[.int .i64 key, .int .i64 avail, .int .i64 mark, .slice p out.length (c + out.length)] 38)
  obtain ⟨r0, r1, r2, r3, -⟩ := box4 (M0.out.boxes 0 _ _ _ rfl)
  have hfit := fit_any avail
  rw [← h00] at hfit
  clear h
  go_enter Try.func19, Try.ntmps19
  go_wp2_with (go_at_call 47; (with_reducible refine (hfit _).mono ?_); rintro e w' ⟨rfl, rfl⟩)
  go_loopw [3, 12] (fun s i wr => ∃ j : Nat, j ≤ out.length ∧ i = .int .i64 (j : Int) ∧ s = .int .i64 (F j) ∧ Below (w.alloc (.cells #[.int .i64 key, .int .i64 avail, .int .i64 mark, .slice p out.length (c + out.length)] 38)).heap.size (w.alloc (.cells #[.int .i64 key, .int .i64 avail, .int .i64 mark, .slice p out.length (c + out.length)] 38)) wr) (fun _ i _ => out.length - (intOf i).toNat)
  case atStart => exact ⟨0, by omega, rfl, by rw [h00], Below.refl _ _⟩
  case round =>
    obtain ⟨j, hj, rfl, rfl, hbw⟩ := hrel
    have M1 := Lib.hid (M0.out.on hbw)
    by_cases hlt : j < out.length
    · obtain ⟨b, o, rfl, x0, x1⟩ := leases_some (M1.out.leases 0 _ _ rfl) hlt
      have hlt' : (j : Int) < (out.length : Int) := by omega
      have hs := (HS j).out hlt
      generalize out.getD j (0, 0) = y at *
      obtain ⟨y1, y2⟩ := y
      simp only at x0 x1 hs
      have M2 := Lib.hid (M1.out.box #[.int .i64 y1, .int .i64 y2] 78)
      have hadd := add2 (F j) y2
      rw [← hs] at hadd
      have HBW := Lib.hid hbw
      clear HS HT hs r0 r1 r2 r3 hfit hbw h00
      go_wp2_with (go_at_call 41; (with_reducible refine (hadd _ _ (by simp)).mono ?_); rintro e u ⟨rfl, rfl⟩)
      go_roundw
      case rel => exact ⟨j + 1, by omega, by go_num, rfl, (HBW.out.alloc HBW.out.size _).alloc (Nat.le_trans HBW.out.size (by simp)) _⟩
      case measure => simp only [intOf]; omega
    · obtain rfl : j = out.length := by omega
      have hT := HT.out
      clear HS HT
      go_wp2
      go_ret
      exact ⟨by rw [hT]; rfl, M1.out.below⟩

/-- What a node has out, and whether. -/
def lentStep (node : Int) (s : Int × Bool) (y : Int × Int) : Int × Bool := if y.1 = node then (add [s.1, y.2], true) else s
def lentOf (node : Int) (l : List (Int × Int)) : Int × Bool := l.foldl (lentStep node) (0, false)
theorem lentOf_take (node : Int) (l : List (Int × Int)) (j : Nat) (h : j < l.length) : lentOf node (l.take (j + 1)) = lentStep node (lentOf node (l.take j)) (l.getD j (0, 0)) := by
  have e : l.getD j (0, 0) = l[j] := by simp [List.getD, h]
  rw [e, lentOf, List.take_succ_eq_append_getElem h, List.foldl_append]
  rfl
theorem lent_off (node : Int) : ∀ (l : List (Int × Int)) (s : Int × Bool), (∀ y ∈ l, y.1 ≠ node) → l.foldl (lentStep node) s = s
  | [], _, _ => rfl
  | y :: l, s, h => by
    have e : lentStep node s y = s := if_neg (h y List.mem_cons_self)
    rw [List.foldl_cons, e]
    exact lent_off node l s fun z hz => h z (List.mem_cons_of_mem _ hz)
/-- Leases that rise: one at most. -/
theorem up_apart {l : List (Int × Int)} (hu : UpL l) {j : Nat} (hj : j < l.length) {node : Int} (hk : l[j].1 = node) : (∀ y ∈ l.take j, y.1 ≠ node) ∧ ∀ y ∈ l.drop (j + 1), y.1 ≠ node := by
  have up := List.pairwise_iff_getElem.1 hu
  refine ⟨fun y hy => ?_, fun y hy => ?_⟩
  · obtain ⟨q, hq, rfl⟩ := List.mem_iff_getElem.1 hy
    simp only [List.length_take] at hq
    rw [List.getElem_take]
    have := up q j (by omega) hj (by omega)
    omega
  · obtain ⟨q, hq, rfl⟩ := List.mem_iff_getElem.1 hy
    simp only [List.length_drop] at hq
    rw [List.getElem_drop]
    have := up j (j + 1 + q) hj (by omega) (by omega)
    omega
theorem split_at {α : Type} (l : List α) (j : Nat) (hj : j < l.length) : l = l.take j ++ l[j] :: l.drop (j + 1) := by
  rw [← List.drop_eq_getElem_cons hj, List.take_append_drop]
theorem lent_out {l : List (Int × Int)} (hu : UpL l) (node : Int) (hA : ∀ y ∈ l, 1 ≤ y.2 ∧ y.2 ≤ 2147483648) : (outAt l node < 0 ∧ lentOf node l = (0, false)) ∨ (0 ≤ outAt l node ∧ lentOf node l = ((l.getD (outAt l node).toNat (0, 0)).2, true)) := by
  rcases spot_cases (fun x : Int × Int => x.1 == node) (0, 0) l with ⟨h1, h2⟩ | ⟨j, h1, h2, h3, -⟩
  · refine .inl ⟨by unfold outAt; omega, lent_off node l _ fun y hy => ?_⟩
    obtain ⟨i, hi, rfl⟩ := List.mem_iff_getElem.1 hy
    have := h2 i hi
    simpa [List.getD, hi] using this
  · have e : (outAt l node).toNat = j := by unfold outAt; omega
    have hk : l[j].1 = node := by simpa [List.getD, h2] using h3
    obtain ⟨a1, a2⟩ := up_apart hu h2 hk
    refine .inr ⟨by unfold outAt; omega, ?_⟩
    have ha := hA _ (List.getElem_mem h2)
    rw [e]
    have eg : l.getD j (0, 0) = l[j] := by simp [List.getD, h2]
    have e0 : lentOf node l = lentStep node (0, false) l[j] := by
      unfold lentOf
      conv => lhs; rw [split_at l j h2]
      rw [List.foldl_append, lent_off node _ _ a1, List.foldl_cons, lent_off node _ _ a2]
    rw [e0, eg, lentStep, if_pos hk]
    have e1 : add [0, l[j].2] = l[j].2 := by
      unfold add
      rw [Sat.sum_two, fit_self (x := 0) (by omega) (by omega), fit_self (x := l[j].2) (by omega) (by omega)]
      rw [if_neg (show ¬ Sat.top < 0 + l[j].2 by unfold Sat.top; omega)]
      omega
    simp only [e1]

set_option maxRecDepth 100000 in
set_option maxHeartbeats 1000000 in
theorem lent_any (r : Rw) (p : Option Addr) (c : Nat) (node : Int) (w : World) (h : LeasesAt w p r.out) (hl : r.out.length ≤ 1000) :
    Calls Try.prog 43 #[rowVal r p c, .int .i64 node] w fun e w' => e = .returned (.tuple #[.int .i64 (lentOf node r.out).1, .bool (lentOf node r.out).2]) ∧ Below w.heap.size w w' := by
  have HS : ∀ j, Hid (j < r.out.length → lentOf node (r.out.take (j + 1)) = lentStep node (lentOf node (r.out.take j)) (r.out.getD j (0, 0))) := fun j hj => lentOf_take node r.out j hj
  have HT : Hid (∀ j, j = r.out.length → lentOf node r.out = lentOf node (r.out.take j)) := by rintro j rfl; rw [List.take_length]
  have h00 : lentOf node (r.out.take 0) = (0, false) := by simp [lentOf]
  generalize lentOf node r.out = T at HT ⊢
  generalize hF : (fun j => lentOf node (r.out.take j)) = F
  have hFj : ∀ j, lentOf node (r.out.take j) = F j := fun j => by rw [← hF]
  simp only [hFj] at HT HS h00
  clear hF hFj
  obtain ⟨key, avail, mark, out⟩ := r
  simp only [rowVal] at *
  have M0 := Lib.hid (((Mem.start w).addLeases h).box #[.int .i64 key, .int .i64 avail, .int .i64 mark, .slice p out.length (c + out.length)] 38)
  obtain ⟨r0, r1, r2, r3, -⟩ := box4 (M0.out.boxes 0 _ _ _ rfl)
  clear h
  go_enter Try.func43, Try.ntmps43
  go_wp2
  go_loopw [6, 7, 13] (fun s b i wr => ∃ j : Nat, j ≤ out.length ∧ i = .int .i64 (j : Int) ∧ s = .int .i64 (F j).1 ∧ b = .bool (F j).2 ∧ Below (w.alloc (.cells #[.int .i64 key, .int .i64 avail, .int .i64 mark, .slice p out.length (c + out.length)] 38)).heap.size (w.alloc (.cells #[.int .i64 key, .int .i64 avail, .int .i64 mark, .slice p out.length (c + out.length)] 38)) wr) (fun _ _ i _ => out.length - (intOf i).toNat)
  case atStart => exact ⟨0, by omega, rfl, by rw [h00], by rw [h00], Below.refl _ _⟩
  case round =>
    obtain ⟨j, hj, rfl, rfl, rfl, hbw⟩ := hrel
    have M1 := Lib.hid (M0.out.on hbw)
    by_cases hlt : j < out.length
    · obtain ⟨b, o, rfl, x0, x1⟩ := leases_some (M1.out.leases 0 _ _ rfl) hlt
      have hlt' : (j : Int) < (out.length : Int) := by omega
      have hs := (HS j).out hlt
      generalize out.getD j (0, 0) = y at *
      obtain ⟨y1, y2⟩ := y
      simp only at x0 x1 hs
      have M2 := Lib.hid (M1.out.box #[.int .i64 y1, .int .i64 y2] 78)
      generalize F j = f at *
      generalize hS2 : F (j + 1) = f2 at *
      have H2 := Lib.hid hS2
      obtain ⟨s, q⟩ := f
      simp only [lentStep] at hs
      have HBW := Lib.hid hbw
      clear HS HT r0 r1 r2 r3 hbw h00 hS2
      by_cases hk : y1 = node
      · rw [if_pos hk] at hs
        have hadd := add2 s y2
        have SE := Lib.hid hs
        clear hs
        go_wp2_with (go_at_call 41; (with_reducible refine (hadd _ _ (by simp)).mono ?_); rintro e u ⟨rfl, rfl⟩)
        go_roundw
        case rel => exact ⟨j + 1, by omega, by go_num, by rw [H2.out, SE.out], by rw [H2.out, SE.out], (HBW.out.alloc HBW.out.size _).alloc (Nat.le_trans HBW.out.size (by simp)) _⟩
        case measure => simp only [intOf]; omega
      · rw [if_neg hk] at hs
        have SE := Lib.hid hs
        clear hs
        go_wp2
        go_roundw
        case rel => exact ⟨j + 1, by omega, by go_num, by rw [H2.out, SE.out], by rw [H2.out, SE.out], HBW.out.alloc HBW.out.size _⟩
        case measure => simp only [intOf]; omega
    · obtain rfl : j = out.length := by omega
      have hT := HT.out _ rfl
      clear HS HT
      generalize F out.length = f at *
      obtain ⟨s, q⟩ := f
      subst hT
      go_wp2
      refine bodyPost_ret (v := .tuple #[.int .i64 s, .bool q]) (by simp [results, Try.results43, go_sem]) rfl ⟨rfl, M1.out.below⟩
/-- The leases of the others. -/
theorem others_out {l : List (Int × Int)} (hu : UpL l) (node : Int) (h : 0 ≤ outAt l node) : l.filter (fun y => y.1 != node) = butAt l (outAt l node).toNat := by
  rcases spot_cases (fun x : Int × Int => x.1 == node) (0, 0) l with ⟨h1, -⟩ | ⟨j, h1, h2, h3, -⟩
  · unfold outAt at h; omega
  · have e : (outAt l node).toNat = j := by unfold outAt; omega
    have hk : l[j].1 = node := by simpa [List.getD, h2] using h3
    obtain ⟨a1, a2⟩ := up_apart hu h2 hk
    rw [e, butAt, List.eraseIdx_eq_take_drop_succ]
    conv => lhs; rw [split_at l j h2]
    rw [List.filter_append, List.filter_cons_of_neg (by simp [hk]), List.filter_eq_self.2 (fun y hy => by simpa using a1 y hy), List.filter_eq_self.2 (fun y hy => by simpa using a2 y hy)]
theorem filter_take (f : Int × Int → Bool) (l : List (Int × Int)) (j : Nat) (h : j < l.length) : (l.take (j + 1)).filter f = (l.take j).filter f ++ (if f (l.getD j (0, 0)) = true then [l.getD j (0, 0)] else []) := by
  have e : l.getD j (0, 0) = l[j] := by simp [List.getD, h]
  rw [e, List.take_succ_eq_append_getElem h, List.filter_append]
  by_cases h2 : f l[j] = true
  · rw [if_pos h2]; simp [h2]
  · rw [if_neg h2]; simp [h2]
theorem isnode_any (i : Int) (w : World) : Calls Try.prog 59 #[.int .i64 i] w fun e w' => e = .returned (.bool (decide (0 ≤ i ∧ i ≤ 63))) ∧ w' = w := by
  by_cases h : 0 ≤ i
  all_goals
    go_enter Try.func59, Try.ntmps59
    go_wp2
    go_ret
    exact ⟨congrArg (fun b => Ending.returned (.bool b)) (by rw [Bool.eq_iff_iff]; simp; omega), rfl⟩

/-- Leases that a call owns lie in its own blocks. -/
theorem OwnL.far {B : Nat} {w : World} {v : Value} {l : List (Int × Int)} (h : OwnL B w v l) : ∃ p c, v = .slice p l.length (c + l.length) ∧ LeasesAt w p l ∧ LeasesIn (fun b => B ≤ b) w p l := by
  obtain ⟨p, c, hv, hl⟩ := h.leases
  refine ⟨p, c, hv, hl, ?_⟩
  rcases hl with hl | ⟨b, o, e, hc⟩
  · exact .inl hl
  · refine .inr ⟨b, o, e, ?_, hc⟩
    subst hv e
    rcases h.2 with ⟨h0, -⟩ | ⟨g, cap, cur, h0, h1, -⟩
    · simp at h0
    · simp only [Value.slice.injEq, Option.some.injEq, Addr.mk.injEq] at h0
      rw [h0.1.1]
      exact h1
set_option maxRecDepth 100000 in
set_option maxHeartbeats 1000000 in
theorem others_any (l : List (Int × Int)) (p : Option Addr) (c : Nat) (node : Int) (w : World) (h : LeasesAt w p l) (hl : l.length ≤ 1000) :
    Calls Try.prog 61 #[.slice p l.length c, .int .i64 node] w fun e w' => ∃ p' c', e = .returned (.slice p' (l.filter fun y => y.1 != node).length (c' + (l.filter fun y => y.1 != node).length)) ∧ LeasesAt w' p' (l.filter fun y => y.1 != node) ∧ LeasesIn (fun b => w.heap.size ≤ b) w' p' (l.filter fun y => y.1 != node) ∧ Below w.heap.size w w' := by
  have HS : ∀ j, Hid (j < l.length → (l.take (j + 1)).filter (fun y => y.1 != node) = (l.take j).filter (fun y => y.1 != node) ++ (if (l.getD j (0, 0)).1 != node then [l.getD j (0, 0)] else [])) := fun j hj => filter_take (fun y => y.1 != node) l j hj
  have HT : Hid (∀ j, j = l.length → l.filter (fun y => y.1 != node) = (l.take j).filter (fun y => y.1 != node)) := by rintro j rfl; rw [List.take_length]
  have HN : ∀ j, Hid (((l.take j).filter (fun y => y.1 != node)).length ≤ l.length) := fun j => by
    have h1 := List.length_filter_le (fun y : Int × Int => y.1 != node) (l.take j)
    have h2 : (l.take j).length ≤ l.length := by simp; omega
    exact Nat.le_trans h1 h2
  have h00 : (l.take 0).filter (fun y => y.1 != node) = [] := by simp
  generalize l.filter (fun y => y.1 != node) = T at HT ⊢
  generalize hF : (fun j => (l.take j).filter (fun y => y.1 != node)) = F
  have hFj : ∀ j, (l.take j).filter (fun y => y.1 != node) = F j := fun j => by rw [← hF]
  simp only [hFj] at HT HS HN h00
  clear hF hFj
  have M0 := Lib.hid ((Mem.start w).addLeases h)
  clear h
  go_enter Try.func61, Try.ntmps61
  go_wp2
  go_loopw [5, 10] (fun v i wr => ∃ j : Nat, j ≤ l.length ∧ i = .int .i64 (j : Int) ∧ Hid (OwnL w.heap.size wr v (F j)) ∧ Below w.heap.size w wr) (fun _ i _ => l.length - (intOf i).toNat)
  case atStart => exact ⟨0, by omega, rfl, (by rw [h00]; exact own_none _ _), Below.refl _ _⟩
  case round =>
    obtain ⟨j, hj, rfl, hown, hbw⟩ := hrel
    have M1 := Lib.hid (M0.out.on hbw)
    by_cases hlt : j < l.length
    · obtain ⟨b, o, rfl, x0, x1⟩ := leases_some (M1.out.leases 0 _ _ rfl) hlt
      have hlt' : (j : Int) < (l.length : Int) := by omega
      have hs := (HS j).out hlt
      have hlen := (HN j).out
      generalize l.getD j (0, 0) = y at *
      obtain ⟨y1, y2⟩ := y
      simp only at x0 x1 hs
      have M2 := Lib.hid (M1.out.box #[.int .i64 y1, .int .i64 y2] 78)
      generalize F j = f at *
      generalize hS2 : F (j + 1) = f2 at *
      have H2 := Lib.hid hS2
      obtain ⟨pv, cv, rfl⟩ := hown.out.shape
      generalize hnl : f.length = nl at *
      have HNL := Lib.hid hnl
      have HOW := Lib.hid hown.out
      have HBW := Lib.hid hbw
      clear HS HT HN hbw h00 hS2 hown hnl
      by_cases hk : y1 = node
      · rw [if_neg (by simp [hk]), List.append_nil] at hs
        have SE := Lib.hid hs
        clear hs
        go_wp2
        go_roundw
        case rel => exact ⟨j + 1, by omega, by go_num, by rw [H2.out, SE.out]; exact Lib.hid (HOW.out.on ((Below.refl _ _).alloc (Nat.le_refl _) _)), HBW.out.alloc HBW.out.size _⟩
        case measure => simp only [intOf]; omega
      · rw [if_pos (by simpa using hk)] at hs
        have SE := Lib.hid hs
        clear hs
        go_wp2_with (at_builtin; refine push_lease rfl (.tmp 18) (.tmp 20) rfl w wr (.slice pv nl cv) rfl f nl HNL.out HOW.out HBW.out ((Below.refl _ _).alloc (Nat.le_refl _) _) (wr.heap.size + 1) y1 y2 rfl (by have h := heap_alloc_new (wr.alloc (.cells #[.int .i64 y1, .int .i64 y2] 78)) (.cells #[.int .i64 y1, .int .i64 y2] 78); rwa [size_alloc] at h) (by omega) ?_; intro p4 c4 w4 R4 B4; clear x0 x1)
        go_roundw
        case rel => exact ⟨j + 1, by omega, by go_num, by rw [H2.out, SE.out]; exact R4, B4⟩
        case measure => simp only [intOf]; omega
    · obtain rfl : j = l.length := by omega
      have hT := HT.out _ rfl
      rw [← hT] at hown
      obtain ⟨pv, cv, rfl, h1, h2⟩ := hown.out.far
      have H12 := Lib.hid (And.intro h1 h2)
      have HBW := Lib.hid hbw
      clear HS HT HN hT h1 h2 hown hbw
      go_wp2
      go_ret
      exact ⟨pv, cv, rfl, H12.out.1, H12.out.2, HBW.out⟩
end Go.Proofs.Ytcnnepmhdccipaa.Ledger
