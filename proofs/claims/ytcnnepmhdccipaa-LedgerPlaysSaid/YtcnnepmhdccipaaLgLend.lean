/-
  The program's lend, of any leases of up to 1000 that rise by nodes, none of them the node's: the leases ahead, the lease, and the leases behind, in a new block.
-/
import Derived.Test.YtcnnepmhdccipaaLgWords
namespace Go.Proofs.Ytcnnepmhdccipaa.Ledger
open Go.RowKit
open _root_.Go.Proofs.Ytcnnepmhdccipaa.Frame (Rw Tb noRow LeasesAt cell_on)

/-- Where the first lease of a node that isn't lower stands; behind the last one: none. -/
def lo (l : List (Int × Int)) (node : Int) : Nat := if spot (fun y : Int × Int => decide (node ≤ y.1)) l < 0 then l.length else (spot (fun y : Int × Int => decide (node ≤ y.1)) l).toNat
theorem lo_at {l : List (Int × Int)} {node : Int} {j : Nat} (hj : j < l.length) (h : ∀ i, i < j → (l.getD i (0, 0)).1 < node) (h1 : ¬ (l.getD j (0, 0)).1 < node) : lo l node = j := by
  have e : spot (fun y : Int × Int => decide (node ≤ y.1)) l = (j : Int) := spot_at _ (0, 0) l j hj (fun i hi => by have := h i hi; simpa using this) (decide_eq_true (by omega))
  unfold lo
  rw [e, if_neg (by omega), Int.toNat_natCast]
theorem lo_none {l : List (Int × Int)} {node : Int} (h : ∀ i, i < l.length → (l.getD i (0, 0)).1 < node) : lo l node = l.length := by
  have e : spot (fun y : Int × Int => decide (node ≤ y.1)) l = -1 := spot_none _ (0, 0) l fun i hi => by have := h i hi; simpa using this
  unfold lo
  rw [e, if_pos (by omega)]
theorem infoL' : (Try.prog.info? 78).map (·.size) = some 2 := by kernel_rfl
set_option maxRecDepth 100000 in
set_option maxHeartbeats 1000000 in
theorem lend_core (l : List (Int × Int)) (p : Option Addr) (n c i : Nat) (node am : Int) (w : World) (CA CB : List Value) (hl : l.length = n) (hn : n ≤ 1000) (h : LeasesAt w p l) (hi : lo l node = i) (hin : i ≤ n)
    (hA : Lay w p CA) (lA : CA.length = i * 2) (oA : ∀ v ∈ CA, v.oneCell' = true) (hB : CB = [] ∨ ∃ b o, p = some ⟨b, o, none⟩ ∧ w.rangeAt b (o + i * 2) CB) (lB : CB.length = (n - i) * 2) (oB : ∀ v ∈ CB, v.oneCell' = true) :
    Calls Try.prog 60 #[.slice p n (c + n), .agg #[.int .i64 node, .int .i64 am]] w fun e w' => ∃ g, e = .returned (.slice (some ⟨g, 0, none⟩) (n + 1) (n + 1)) ∧ w.heap.size ≤ g ∧ w'.rangeAt g 0 (CA ++ ([.int .i64 node, .int .i64 am] ++ CB)) ∧ Below w.heap.size w w' := by
  obtain ⟨i0, hi0, hz0, hz1, hz2⟩ := info_parts infoL
  have M0 := Lib.hid ((Mem.start w).box #[.int .i64 node, .int .i64 am] 78)
  obtain ⟨r0, r1, -⟩ := box2 (M0.out.boxes 0 _ _ _ rfl)
  have S1 := fun u => cut_head Try.prog 36 78 2 Try.underlying36 infoL' p n (c + n) i (by omega) u
  obtain ⟨q3, S3, Q3⟩ := cut_tail Try.prog 36 78 2 Try.underlying36 infoL' p n (c + n) i (i : Int) rfl (by omega) (by omega)
  have tri : Hid (∀ j : Nat, j ≤ n → (∀ i, i < j → (l.getD i (0, 0)).1 < node) → (∃ b o y, (j : Int) < (n : Int) ∧ p = some ⟨b, o, none⟩ ∧ w.cell? ⟨b, o + j * 2, none⟩ = some (.int .i64 y) ∧ y < node ∧ Hid (∀ i, i < j + 1 → (l.getD i (0, 0)).1 < node)) ∨
      (∃ b o y, (j : Int) < (n : Int) ∧ p = some ⟨b, o, none⟩ ∧ w.cell? ⟨b, o + j * 2, none⟩ = some (.int .i64 y) ∧ ¬ y < node ∧ Hid (i = j)) ∨ (j = n ∧ Hid (i = j))) := by
    intro j hj hne
    subst hl hi
    by_cases hlt : j < l.length
    · obtain ⟨b, o, rfl, k0, -⟩ := leases_some h hlt
      by_cases hk : (l.getD j (0, 0)).1 < node
      · refine .inl ⟨b, o, _, by omega, rfl, k0, hk, fun i hi => ?_⟩
        by_cases e : i < j
        · exact hne i e
        · rw [show i = j by omega]; exact hk
      · exact .inr (.inl ⟨b, o, _, by omega, rfl, k0, hk, lo_at hlt hne hk⟩)
    · have e : j = l.length := by omega
      exact .inr (.inr ⟨e, by subst e; exact lo_none hne⟩)
  have hn1 : CA.length = Nat.min i (n + 1) * 2 := by rw [lA]; congr 1; exact (Nat.min_eq_left (by omega)).symm
  have hn2 : CB.length = Nat.min (n - i) (n + 1 - (i + 1)) * 2 := by rw [lB]; congr 1; exact (Nat.min_eq_left (by omega)).symm
  have HA2 := Lib.hid (fun u (hb : Below w.heap.size w u) => hA.on hb)
  have HB2 : Hid (∀ u, Below w.heap.size w u → Lay u q3 CB) := fun u hb => by
    rcases hB with hB | ⟨b, o, rfl, hB⟩
    · exact .inl hB
    · rcases Q3 with h | rfl
      · exact .inl (List.eq_nil_of_length_eq_zero (by omega))
      · exact .inr ⟨b, o + i * 2, by simp [Addr.add_mid], range_on hB hb⟩
  have HDP : Hid (∀ g q2, (n + 1 - (i + 1) = 0 ∨ q2 = (some (⟨g, 0, none⟩ : Addr)).map (·.add ((i + 1) * 2))) → CB = [] ∨ q2 = some ⟨g, (i + 1) * 2, none⟩) := fun g q2 h => by
    rcases h with h | rfl
    · exact .inl (List.eq_nil_of_length_eq_zero (by omega))
    · exact .inr (by simp [Addr.add_mid])
  have HS : Hid (∀ g, ∃ q2, (∀ w, (Instr.slice 36 (.slice (some ⟨g, 0, none⟩) (n + 1) (n + 1)) (some (.int .i64 ((i : Int) + 1))) none none).run Try.prog w = .ok (.slice q2 (n + 1 - (i + 1)) (n + 1 - (i + 1))) w) ∧ (n + 1 - (i + 1) = 0 ∨ q2 = (some (⟨g, 0, none⟩ : Addr)).map (·.add ((i + 1) * 2)))) := fun g =>
    cut_tail Try.prog 36 78 2 Try.underlying36 infoL' (some ⟨g, 0, none⟩) (n + 1) (n + 1) (i + 1) ((i : Int) + 1) (by omega) (by omega) (by omega)
  have hm2 : i * 2 + [Value.int .i64 node, .int .i64 am].length ≤ (n + 1) * 2 := by simp; omega
  have hm3 : (i + 1) * 2 + CB.length ≤ (n + 1) * 2 := by rw [lB]; omega
  have hin' : (i : Int) ≤ (n : Int) := by omega
  clear hB Q3 hA h hl hi
  go_enter Try.func60, Try.ntmps60
  go_wp2
  generalize w.alloc (.cells #[.int .i64 node, .int .i64 am] 78) = W1 at *
  clear r0 r1
  go_loopw [5] (fun v wr => ∃ j : Nat, j ≤ n ∧ v = .int .i64 (j : Int) ∧ Hid (∀ i, i < j → (l.getD i (0, 0)).1 < node) ∧ Below W1.heap.size W1 wr) (fun v _ => n - (intOf v).toNat)
  case atStart => exact ⟨0, by omega, rfl, (fun i hi => by omega), Below.refl _ _⟩
  case round =>
    obtain ⟨j, hj, rfl, hne, hbw⟩ := hrel
    have M1 := Lib.hid (M0.out.on hbw)
    obtain ⟨r0, r1, -⟩ := box2 (M1.out.boxes 0 _ _ _ rfl)
    rcases tri.out j hj hne.out with ⟨b, o, y, hlt, rfl, k0', hk, hN⟩ | ⟨b, o, y, hlt, hp, k0', hk, hR⟩ | ⟨hjn, hR⟩
    · have k0 := cell_on k0' M1.out.below
      have g1 : decide ((j : Int) < (n : Int)) = true := by simp; omega
      have g2 : decide (y < node) = true := by simp; omega
      have HBW := Lib.hid hbw
      clear tri hne k0' HA2 HB2 HDP HS S1 S3 hn1 hn2 hm2 hm3 hbw
      go_wp2
      go_quiet (fail)
      go_wp2
      go_roundw
      case rel => exact ⟨j + 1, by omega, by go_num, hN, HBW.out.trans ((below_drewN _ _).mono HBW.out.size)⟩
      case measure => simp only [intOf]; omega
    case' inr.inl =>
      have k0 := cell_on k0' M1.out.below
      obtain rfl := hR.out
      subst hp
      have g1 : decide ((i : Int) < (n : Int)) = true := by simp; omega
      have g2 : decide (y < node) = false := by simp; omega
      clear k0' tri hne hR hbw
      go_wp2
      go_quiet (fail)
      clear k0
      generalize (some (⟨b, o, none⟩ : Addr)) = p at *
    case' inr.inr =>
      obtain rfl := hR.out
      have g1 : decide (i < n) = false := by simp; omega
      clear tri hne hR hbw hjn
      go_wp2
      go_quiet (fail)
    all_goals
      clear r0 r1
      go_wp2_with (first
        | (at_make; refine wpList_make_range rfl (.tmp 25) (.tmp 25) 36 rfl 78 i0 (.agg #[.int .i64 0, .int .i64 0]) 2 Try.underlying36 hi0 hz0 hz1 .i64 .i64 _ _ (n + 1) rfl rfl (by omega) (by omega) (by rw [hz2]; omega) (by omega) ?_; intro w1 b1 s1 t1; obtain ⟨q2, S2, Q2⟩ := HS.out wr.heap.size; have F1 : Hid (Fill wr wr.heap.size ((n + 1) * 2) [] w1) := Lib.hid (Fill.mk t1 (fun j v hv => by simp at hv) ((below_drewN wr _).trans b1) (Nat.le_refl _)); clear t1 b1 s1)
        | ((with_reducible refine wpList_copy_range (o := ⟨some 31, _, _, _, _, _⟩) rfl (.tmp 27) (.tmp 30) 36 36 rfl 78 2 Try.underlying36 infoL' (some ⟨wr.heap.size, 0, none⟩) p (n + 1) (n + 1) i (c + n) rfl rfl wr.heap.size 0 CA hn1 (HA2.out _ (M1.out.below.trans (F1.out.below.mono M1.out.below.size))) (.inr rfl) (F1.out.sub 0 _ (by omega)) oA ?_); intro w2 e2; have F2 := Lib.hid (F1.out.step e2.out rfl (by omega)); clear F1 e2; obtain ⟨r0, r1, -⟩ := box2 ((M1.out.on F2.out.below).boxes 0 _ _ _ rfl); obtain ⟨z0, y0, f0⟩ := F2.out.cell (o := i * 2) (by omega); obtain ⟨z1, y1, f1⟩ := F2.out.cell (o := i * 2 + 1) (by omega)))
      have F3 := F2.out.step (u' := (w2.setCell ⟨wr.heap.size, i * 2, none⟩ (.int .i64 node)).setCell ⟨wr.heap.size, i * 2 + 1, none⟩ (.int .i64 am)) (cs := [.int .i64 node, .int .i64 am]) rfl lA hm2
      generalize (w2.setCell ⟨wr.heap.size, i * 2, none⟩ (.int .i64 node)).setCell ⟨wr.heap.size, i * 2 + 1, none⟩ (.int .i64 am) = w3 at *
      have hl3 := HB2.out w3 (M1.out.below.trans (F3.below.mono M1.out.below.size))
      have hd3 := HDP.out _ _ Q2
      have ht3 := F3.sub ((i + 1) * 2) CB.length hm3
      have HF3 := Lib.hid F3
      clear F3 F2 y0 y1 f0 f1 r0 r1 HB2 HDP Q2 HS S1 HA2 hn1
      have e1 : IntKind.i64.wrap ((i : Int) + 1) = (i : Int) + 1 := IntWalk.i64_in _ (by omega)
      go_region_law (refine step_copy_range rfl (.tmp 39) (.tmp 42) 36 36 rfl 78 2 Try.underlying36 infoL' q2 q3 (n + 1 - (i + 1)) (n + 1 - (i + 1)) (n - i) (c + n - i) (by simp [Act.eval, Act.put]) (by simp [Act.eval, Act.put]) wr.heap.size ((i + 1) * 2) CB hn2 (lay_heap rfl hl3) hd3 (there_heap rfl ht3) oB ?_; intro w4 e4)
      all_goals
        have F4 := Lib.hid ((HF3.out.same (Below.refl _ _).drew).step e4.out (by simp [lA]; omega) hm3)
        clear e4 S2 S3 e1 hl3 hd3 ht3
        go_wp2
        go_ret
        exact ⟨wr.heap.size, rfl, M1.out.below.size, (by have h := F4.out.has; rw [List.append_assoc] at h; exact h), M1.out.below.trans (F4.out.below.mono M1.out.below.size)⟩

theorem lend_any (l : List (Int × Int)) (p : Option Addr) (c : Nat) (node am : Int) (w : World) (hn : l.length ≤ 1000) (h : LeasesAt w p l) (hu : UpL l) (h0 : ∀ y ∈ l, y.1 ≠ node) :
    Calls Try.prog 60 #[.slice p l.length (c + l.length), .agg #[.int .i64 node, .int .i64 am]] w fun e w' => ∃ g n, e = .returned (.slice (some ⟨g, 0, none⟩) n n) ∧ n = (withLease l (node, am)).length ∧ w.heap.size ≤ g ∧ LeasesAt w' (some ⟨g, 0, none⟩) (withLease l (node, am)) ∧ Below w.heap.size w w' := by
  have hm := leases_lay h
  have key : ∀ i, i ≤ l.length → lo l node = i → withLease l (node, am) = l.take i ++ (node, am) :: l.drop i →
      Calls Try.prog 60 #[.slice p l.length (c + l.length), .agg #[.int .i64 node, .int .i64 am]] w fun e w' => ∃ g n, e = .returned (.slice (some ⟨g, 0, none⟩) n n) ∧ n = (withLease l (node, am)).length ∧ w.heap.size ≤ g ∧ LeasesAt w' (some ⟨g, 0, none⟩) (withLease l (node, am)) ∧ Below w.heap.size w w' := by
    intro i hi hlo hs
    have e1 : l = l.take i ++ l.drop i := (List.take_append_drop i l).symm
    have lA : (cellsL (l.take i)).length = i * 2 := by rw [cellsL_len, List.length_take, Nat.min_eq_left (by omega)]
    have lB : (cellsL (l.drop i)).length = (l.length - i) * 2 := by rw [cellsL_len, List.length_drop]
    have hm2 := hm
    rw [e1, cellsL_append] at hm2
    have hB : cellsL (l.drop i) = [] ∨ ∃ b o, p = some ⟨b, o, none⟩ ∧ w.rangeAt b (o + i * 2) (cellsL (l.drop i)) := by
      rcases hm2 with hm2 | ⟨b, o, e, hm2⟩
      · exact .inl (List.append_eq_nil_iff.1 hm2).2
      · refine .inr ⟨b, o, e, ?_⟩
        have := (range_append.1 hm2).2
        rwa [lA] at this
    refine (lend_core l p l.length c i node am w _ _ rfl hn h hlo hi hm2.left lA (cellsL_one _) hB lB (cellsL_one _)).mono ?_
    rintro e w' ⟨g, rfl, hg, hr, hb⟩
    refine ⟨g, _, rfl, by rw [withLease_len], hg, ?_, hb⟩
    rw [hs]
    refine .inr ⟨g, 0, rfl, lay_leases ?_⟩
    have e2 : cellsL (l.take i ++ (node, am) :: l.drop i) = cellsL (l.take i) ++ ([.int .i64 node, .int .i64 am] ++ cellsL (l.drop i)) := by simp [cellsL]
    rw [e2]
    exact hr
  have getD : ∀ j (hj : j < l.length), l.getD j (0, 0) = l[j] := fun j hj => by simp [List.getD, hj]
  have lt : ∀ i j (hij : i < j) (hj : j < l.length), (l[i]'(by omega)).1 < l[j].1 := fun i j hij hj => List.pairwise_iff_getElem.1 hu i j (by omega) hj hij
  have hgl : lo l node ≤ l.length ∧ (∀ i (hi : i < l.length), i < lo l node → l[i].1 < node) ∧ (∀ i (hi : i < l.length), lo l node ≤ i → node < l[i].1) := by
    rcases spot_cases (fun y : Int × Int => decide (node ≤ y.1)) (0, 0) l with ⟨h1, h2⟩ | ⟨j, h1, h2, h3, h4⟩
    · have e : lo l node = l.length := by unfold lo; rw [h1, if_pos (by omega)]
      rw [e]
      refine ⟨Nat.le_refl _, fun i hi _ => ?_, fun i hi h => by omega⟩
      have h5 := h2 i hi
      rw [getD i hi] at h5
      simp only [decide_eq_false_iff_not] at h5
      omega
    · have e : lo l node = j := by unfold lo; rw [h1, if_neg (by omega), Int.toNat_natCast]
      rw [e]
      rw [getD j h2] at h3
      simp only [decide_eq_true_eq] at h3
      refine ⟨by omega, fun i hi hij => ?_, fun i hi hij => ?_⟩
      · have h5 := h4 i hij
        rw [getD i hi] at h5
        simp only [decide_eq_false_iff_not] at h5
        omega
      · have hne := h0 _ (List.getElem_mem h2)
        by_cases e : i = j
        · subst e; omega
        · have := lt j i (by omega) hi
          omega
  obtain ⟨g1, g2, g3⟩ := hgl
  refine key _ g1 rfl ?_
  generalize lo l node = i at *
  have e1 : withLease l (node, am) = withLease (l.take i ++ l.drop i) (node, am) := by rw [List.take_append_drop]
  rw [e1]
  refine withLease_put (fun y hy => ?_) (fun y hy => ?_)
  · obtain ⟨q, hq, rfl⟩ := List.mem_iff_getElem.1 hy
    simp only [List.length_take] at hq
    rw [List.getElem_take]
    exact g2 q (by omega) (by omega)
  · obtain ⟨q, hq, rfl⟩ := List.mem_iff_getElem.1 hy
    simp only [List.length_drop] at hq
    rw [List.getElem_drop]
    exact g3 (i + q) (by omega) (by omega)
end Go.Proofs.Ytcnnepmhdccipaa.Ledger
