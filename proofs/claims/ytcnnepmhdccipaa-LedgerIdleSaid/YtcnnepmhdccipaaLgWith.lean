/-
  The program's with, of any rows of up to 1000: the rows ahead, the row, and the rows behind, in a new block.
-/
import Derived.Test.YtcnnepmhdccipaaLgAt
import Derived.Test.YtcnnepmhdccipaaLgAbove
namespace Go.Proofs.Ytcnnepmhdccipaa.Ledger
open Go.RowKit
open _root_.Go.Proofs.Ytcnnepmhdccipaa.Frame (Rw Tb noRow LeasesAt cell_on)

theorem infoR' : (Try.prog.info? 38).map (·.size) = some 4 := by kernel_rfl
set_option maxRecDepth 100000 in
set_option maxHeartbeats 1000000 in
theorem with_core (p : Option Addr) (n c i k : Nat) (rk ra rm : Int) (pr : Option Addr) (nr cr : Nat) (w : World) (CA CB : List Value) (hn : n ≤ 1000)
    (hcase : (i < n ∧ k = i + 1 ∧ ∀ u, Below w.heap.size w u → Calls Try.prog 37 #[.slice p n (c + n), .int .i64 rk] u fun e u' => e = .returned (.int .i64 (i : Int)) ∧ u' = u) ∨
      (i ≤ n ∧ k = i ∧ (∀ u, Below w.heap.size w u → Calls Try.prog 37 #[.slice p n (c + n), .int .i64 rk] u fun e u' => e = .returned (.int .i64 (n : Int)) ∧ u' = u) ∧ ∀ u, Below w.heap.size w u → Calls Try.prog 68 #[.slice p n (c + n), .int .i64 rk] u fun e u' => e = .returned (.int .i64 (i : Int)) ∧ Below u.heap.size u u'))
    (hA : Lay w p CA) (lA : CA.length = i * 4) (oA : ∀ v ∈ CA, v.oneCell' = true) (hB : CB = [] ∨ ∃ b o, p = some ⟨b, o, none⟩ ∧ w.rangeAt b (o + k * 4) CB) (lB : CB.length = (n - k) * 4) (oB : ∀ v ∈ CB, v.oneCell' = true) :
    Calls Try.prog 58 #[.slice p n (c + n), .agg #[.int .i64 rk, .int .i64 ra, .int .i64 rm, .slice pr nr (cr + nr)]] w fun e w' => ∃ g N, e = .returned (.slice (some ⟨g, 0, none⟩) N N) ∧ N = i + 1 + (n - k) ∧ w.heap.size ≤ g ∧ w'.rangeAt g 0 (CA ++ ([.int .i64 rk, .int .i64 ra, .int .i64 rm, .slice pr nr (cr + nr)] ++ CB)) ∧ Below w.heap.size w w' := by
  obtain ⟨i0, hi, hz0, hz1, hz2⟩ := info_parts infoR
  have M0 := Lib.hid ((Mem.start w).box #[.int .i64 rk, .int .i64 ra, .int .i64 rm, .slice pr nr (cr + nr)] 38)
  obtain ⟨r0, r1, r2, r3, -⟩ := box4 (M0.out.boxes 0 _ _ _ rfl)
  have S1 := fun u => cut_head Try.prog 22 38 4 Try.underlying22 infoR' p n (c + n) i (by omega) u
  rcases hcase with ⟨hin, rfl, hat⟩ | ⟨hin, rfl, hat, hab⟩
  · obtain ⟨q3, S3, Q3⟩ := cut_tail Try.prog 22 38 4 Try.underlying22 infoR' p n (c + n) (i + 1) ((i : Int) + 1) (by omega) (by omega) (by omega)
    have hin' : (i : Int) < (n : Int) := by omega
    have hne : ((i : Int) == (n : Int)) = false := by simp; omega
    have HS : Hid (∀ g, ∃ q2, (∀ w, (Instr.slice 22 (.slice (some ⟨g, 0, none⟩) n n) (some (.int .i64 ((i : Int) + 1))) none none).run Try.prog w = .ok (.slice q2 (n - (i + 1)) (n - (i + 1))) w) ∧ (n - (i + 1) = 0 ∨ q2 = (some (⟨g, 0, none⟩ : Addr)).map (·.add ((i + 1) * 4)))) := fun g =>
      cut_tail Try.prog 22 38 4 Try.underlying22 infoR' (some ⟨g, 0, none⟩) n n (i + 1) ((i : Int) + 1) (by omega) (by omega) (by omega)
    have hn1 : CA.length = Nat.min i n * 4 := by rw [lA]; congr 1; exact (Nat.min_eq_left (by omega)).symm
    have hn2 : CB.length = Nat.min (n - (i + 1)) (n - (i + 1)) * 4 := by rw [lB]; congr 1; exact (Nat.min_self _).symm
    have hA2 := fun u (hb : Below w.heap.size w u) => hA.on hb
    have hB2 : Hid (∀ u, Below w.heap.size w u → Lay u q3 CB) := fun u hb => by
      rcases hB with hB | ⟨b, o, rfl, hB⟩
      · exact .inl hB
      · rcases Q3 with h | rfl
        · exact .inl (List.eq_nil_of_length_eq_zero (by omega))
        · exact .inr ⟨b, o + (i + 1) * 4, by simp [Addr.add_mid], range_on hB hb⟩
    have hdp : Hid (∀ g q2, (n - (i + 1) = 0 ∨ q2 = (some (⟨g, 0, none⟩ : Addr)).map (·.add ((i + 1) * 4))) → CB = [] ∨ q2 = some ⟨g, (i + 1) * 4, none⟩) := fun g q2 h => by
      rcases h with h | rfl
      · exact .inl (List.eq_nil_of_length_eq_zero (by omega))
      · exact .inr (by simp [Addr.add_mid])
    have hm2 : i * 4 + [Value.int .i64 rk, .int .i64 ra, .int .i64 rm, .slice pr nr (cr + nr)].length ≤ n * 4 := by simp; omega
    have hi4 : (Try.prog.info? 38).map (·.size) = some [Value.int .i64 rk, .int .i64 ra, .int .i64 rm, .slice pr nr (cr + nr)].length := infoR'
    have oX : ∀ v ∈ [Value.int .i64 rk, .int .i64 ra, .int .i64 rm, .slice pr nr (cr + nr)], v.oneCell' = true := by
      intro v hv
      simp at hv
      rcases hv with rfl | rfl | rfl | rfl <;> rfl
    clear hB Q3 hA
    go_enter Try.func58, Try.ntmps58
    go_wp2_with (first
      | (go_at_call 37; (with_reducible refine (hat _ M0.out.below).mono ?_); rintro e u ⟨rfl, rfl⟩)
      | (at_make; refine wpList_make_range rfl (.tmp 29) (.tmp 29) 22 rfl 38 i0 (.agg #[.int .i64 0, .int .i64 0, .int .i64 0, .slice none 0 0]) 4 Try.underlying22 hi hz0 hz1 .i64 .i64 _ _ n rfl rfl (by omega) (by omega) (by rw [hz2]; omega) (by omega) ?_; intro w1 b1 s1 t1; obtain ⟨q2, S2, Q2⟩ := HS.out (w.heap.size + 1); have F1 := Lib.hid (Fill.mk (X := []) t1 (fun j v hv => by simp at hv) b1 (Nat.le_refl _)); rw [size_alloc] at F1; clear t1 b1 s1)
      | ((with_reducible refine wpList_copy_range (o := ⟨some 35, _, _, _, _, _⟩) rfl (.tmp 31) (.tmp 34) 22 22 rfl 38 4 Try.underlying22 infoR' (some ⟨w.heap.size + 1, 0, none⟩) p n n i (c + n) rfl rfl (w.heap.size + 1) 0 CA hn1 (hA2 _ (M0.out.below.trans (F1.out.below.mono (by simp)))) (.inr rfl) (F1.out.sub 0 _ (by omega)) oA ?_); intro w2 e2; have F2 := Lib.hid (F1.out.step e2.out rfl (by omega)); clear r0 r1 r2 r3 F1 e2; obtain ⟨r0, r1, r2, r3, -⟩ := box4 ((M0.out.on F2.out.below).boxes 0 _ _ _ rfl); obtain ⟨z0, y0, f0⟩ := F2.out.cell (o := i * 4) (by omega); obtain ⟨z1, y1, f1⟩ := F2.out.cell (o := i * 4 + 1) (by omega); obtain ⟨z2, y2, f2⟩ := F2.out.cell (o := i * 4 + 2) (by omega); obtain ⟨z3, y3, f3⟩ := F2.out.cell (o := i * 4 + 3) (by omega)))
    have F3 := F2.out.step (u' := (((w2.setCell ⟨w.heap.size + 1, i * 4, none⟩ (.int .i64 rk)).setCell ⟨w.heap.size + 1, i * 4 + 1, none⟩ (.int .i64 ra)).setCell ⟨w.heap.size + 1, i * 4 + 2, none⟩ (.int .i64 rm)).setCell ⟨w.heap.size + 1, i * 4 + 3, none⟩ (.slice pr nr (cr + nr))) (cs := [.int .i64 rk, .int .i64 ra, .int .i64 rm, .slice pr nr (cr + nr)]) rfl lA hm2
    generalize (((w2.setCell ⟨w.heap.size + 1, i * 4, none⟩ (.int .i64 rk)).setCell ⟨w.heap.size + 1, i * 4 + 1, none⟩ (.int .i64 ra)).setCell ⟨w.heap.size + 1, i * 4 + 2, none⟩ (.int .i64 rm)).setCell ⟨w.heap.size + 1, i * 4 + 3, none⟩ (.slice pr nr (cr + nr)) = w3 at *
    have hl3 := hB2.out w3 (M0.out.below.trans (F3.below.mono (by simp)))
    have hd3 := hdp.out _ _ Q2
    have hm3 : (i + 1) * 4 + CB.length ≤ n * 4 := by rw [lB]; omega
    have ht3 := F3.sub ((i + 1) * 4) CB.length hm3
    have HF3 := Lib.hid F3
    clear F3 F2 y0 y1 y2 y3 f0 f1 f2 f3 r0 r1 r2 r3 hB2 hdp Q2 HS S1 hA2 hn1
    have e1 : IntKind.i64.wrap ((i : Int) + 1) = (i : Int) + 1 := IntWalk.i64_in _ (by omega)
    go_region_law (refine step_copy_range rfl (.tmp 43) (.tmp 46) 22 22 rfl 38 4 Try.underlying22 infoR' q2 q3 (n - (i + 1)) (n - (i + 1)) (n - (i + 1)) (c + n - (i + 1)) (by simp [Act.eval, Act.put]) (by simp [Act.eval, Act.put]) (w.heap.size + 1) ((i + 1) * 4) CB hn2 (lay_heap rfl hl3) hd3 (there_heap rfl ht3) oB ?_; intro w4 e4)
    all_goals
      have F4 := Lib.hid ((HF3.out.same (Below.refl _ _).drew).step e4.out (by simp [lA]; omega) hm3)
      clear e4 S2 S3 e1 hl3 hd3 ht3
      go_wp2
      go_ret
      exact ⟨w.heap.size + 1, n, rfl, by omega, by omega, (by have h := F4.out.has; rw [List.append_assoc] at h; exact h), M0.out.below.trans (F4.out.below.mono (by simp))⟩
  · obtain ⟨q3, S3, Q3⟩ := cut_tail Try.prog 22 38 4 Try.underlying22 infoR' p n (c + n) k (k : Int) (by omega) (by omega) (by omega)
    have hin' : (k : Int) ≤ (n : Int) := by omega
    have HS : Hid (∀ g, ∃ q2, (∀ w, (Instr.slice 22 (.slice (some ⟨g, 0, none⟩) (n + 1) (n + 1)) (some (.int .i64 ((k : Int) + 1))) none none).run Try.prog w = .ok (.slice q2 (n + 1 - (k + 1)) (n + 1 - (k + 1))) w) ∧ (n + 1 - (k + 1) = 0 ∨ q2 = (some (⟨g, 0, none⟩ : Addr)).map (·.add ((k + 1) * 4)))) := fun g =>
      cut_tail Try.prog 22 38 4 Try.underlying22 infoR' (some ⟨g, 0, none⟩) (n + 1) (n + 1) (k + 1) ((k : Int) + 1) (by omega) (by omega) (by omega)
    have hn1 : CA.length = Nat.min k (n + 1) * 4 := by rw [lA]; congr 1; exact (Nat.min_eq_left (by omega)).symm
    have hn2 : CB.length = Nat.min (n - k) (n + 1 - (k + 1)) * 4 := by rw [lB]; congr 1; exact (Nat.min_eq_left (by omega)).symm
    have hA2 := fun u (hb : Below w.heap.size w u) => hA.on hb
    have hB2 : Hid (∀ u, Below w.heap.size w u → Lay u q3 CB) := fun u hb => by
      rcases hB with hB | ⟨b, o, rfl, hB⟩
      · exact .inl hB
      · rcases Q3 with h | rfl
        · exact .inl (List.eq_nil_of_length_eq_zero (by omega))
        · exact .inr ⟨b, o + k * 4, by simp [Addr.add_mid], range_on hB hb⟩
    have hdp : Hid (∀ g q2, (n + 1 - (k + 1) = 0 ∨ q2 = (some (⟨g, 0, none⟩ : Addr)).map (·.add ((k + 1) * 4))) → CB = [] ∨ q2 = some ⟨g, (k + 1) * 4, none⟩) := fun g q2 h => by
      rcases h with h | rfl
      · exact .inl (List.eq_nil_of_length_eq_zero (by omega))
      · exact .inr (by simp [Addr.add_mid])
    have hm2 : k * 4 + [Value.int .i64 rk, .int .i64 ra, .int .i64 rm, .slice pr nr (cr + nr)].length ≤ (n + 1) * 4 := by simp; omega
    have hi4 : (Try.prog.info? 38).map (·.size) = some [Value.int .i64 rk, .int .i64 ra, .int .i64 rm, .slice pr nr (cr + nr)].length := infoR'
    have oX : ∀ v ∈ [Value.int .i64 rk, .int .i64 ra, .int .i64 rm, .slice pr nr (cr + nr)], v.oneCell' = true := by
      intro v hv
      simp at hv
      rcases hv with rfl | rfl | rfl | rfl <;> rfl
    clear hB Q3 hA
    go_enter Try.func58, Try.ntmps58
    go_wp2_with (first
      | (go_at_call 37; (with_reducible refine (hat _ M0.out.below).mono ?_); rintro e u ⟨rfl, rfl⟩)
      | (go_at_call 68; (with_reducible refine (hab _ M0.out.below).mono ?_); rintro e u1 ⟨rfl, hb1⟩; have M1 := Lib.hid (M0.out.on hb1); obtain ⟨r0, r1, r2, r3, -⟩ := box4 (M1.out.boxes 0 _ _ _ rfl); clear hb1)
      | (at_make; refine wpList_make_range rfl (.tmp 29) (.tmp 29) 22 rfl 38 i0 (.agg #[.int .i64 0, .int .i64 0, .int .i64 0, .slice none 0 0]) 4 Try.underlying22 hi hz0 hz1 .i64 .i64 _ _ (n + 1) rfl rfl (by omega) (by omega) (by rw [hz2]; omega) (by omega) ?_; intro w1 b1 s1 t1; obtain ⟨q2, S2, Q2⟩ := HS.out u1.heap.size; have F1 := Lib.hid (Fill.mk (X := []) t1 (fun j v hv => by simp at hv) b1 (Nat.le_refl _)); clear t1 b1 s1)
      | ((with_reducible refine wpList_copy_range (o := ⟨some 35, _, _, _, _, _⟩) rfl (.tmp 31) (.tmp 34) 22 22 rfl 38 4 Try.underlying22 infoR' (some ⟨u1.heap.size, 0, none⟩) p (n + 1) (n + 1) k (c + n) rfl rfl u1.heap.size 0 CA hn1 (hA2 _ (M1.out.below.trans (F1.out.below.mono M1.out.below.size))) (.inr rfl) (F1.out.sub 0 _ (by omega)) oA ?_); intro w2 e2; have F2 := Lib.hid (F1.out.step e2.out rfl (by omega)); clear r0 r1 r2 r3 F1 e2; obtain ⟨r0, r1, r2, r3, -⟩ := box4 ((M1.out.on F2.out.below).boxes 0 _ _ _ rfl); obtain ⟨z0, y0, f0⟩ := F2.out.cell (o := k * 4) (by omega); obtain ⟨z1, y1, f1⟩ := F2.out.cell (o := k * 4 + 1) (by omega); obtain ⟨z2, y2, f2⟩ := F2.out.cell (o := k * 4 + 2) (by omega); obtain ⟨z3, y3, f3⟩ := F2.out.cell (o := k * 4 + 3) (by omega)))
    have F3 := F2.out.step (u' := (((w2.setCell ⟨u1.heap.size, k * 4, none⟩ (.int .i64 rk)).setCell ⟨u1.heap.size, k * 4 + 1, none⟩ (.int .i64 ra)).setCell ⟨u1.heap.size, k * 4 + 2, none⟩ (.int .i64 rm)).setCell ⟨u1.heap.size, k * 4 + 3, none⟩ (.slice pr nr (cr + nr))) (cs := [.int .i64 rk, .int .i64 ra, .int .i64 rm, .slice pr nr (cr + nr)]) rfl lA hm2
    generalize (((w2.setCell ⟨u1.heap.size, k * 4, none⟩ (.int .i64 rk)).setCell ⟨u1.heap.size, k * 4 + 1, none⟩ (.int .i64 ra)).setCell ⟨u1.heap.size, k * 4 + 2, none⟩ (.int .i64 rm)).setCell ⟨u1.heap.size, k * 4 + 3, none⟩ (.slice pr nr (cr + nr)) = w3 at *
    have hl3 := hB2.out w3 (M1.out.below.trans (F3.below.mono M1.out.below.size))
    have hd3 := hdp.out _ _ Q2
    have hm3 : (k + 1) * 4 + CB.length ≤ (n + 1) * 4 := by rw [lB]; omega
    have ht3 := F3.sub ((k + 1) * 4) CB.length hm3
    have HF3 := Lib.hid F3
    clear F3 F2 y0 y1 y2 y3 f0 f1 f2 f3 r0 r1 r2 r3 hB2 hdp Q2 HS S1 hA2 hn1
    have e1 : IntKind.i64.wrap ((k : Int) + 1) = (k : Int) + 1 := IntWalk.i64_in _ (by omega)
    go_region_law (refine step_copy_range rfl (.tmp 43) (.tmp 46) 22 22 rfl 38 4 Try.underlying22 infoR' q2 q3 (n + 1 - (k + 1)) (n + 1 - (k + 1)) (n - k) (c + n - k) (by simp [Act.eval, Act.put]) (by simp [Act.eval, Act.put]) u1.heap.size ((k + 1) * 4) CB hn2 (lay_heap rfl hl3) hd3 (there_heap rfl ht3) oB ?_; intro w4 e4)
    all_goals
      have F4 := Lib.hid ((HF3.out.same (Below.refl _ _).drew).step e4.out (by simp [lA]; omega) hm3)
      clear e4 S2 S3 e1 hl3 hd3 ht3
      go_wp2
      go_ret
      exact ⟨u1.heap.size, n + 1, rfl, by omega, M1.out.below.size, (by have h := F4.out.has; rw [List.append_assoc] at h; exact h), M1.out.below.trans (F4.out.below.mono M1.out.below.size)⟩

/-- What with makes, of rows with where their leases lie. -/
theorem cellsR_cons (x : Rp) (m : List Rp) : cellsR (x :: m) = [.int .i64 x.1.key, .int .i64 x.1.avail, .int .i64 x.1.mark, .slice x.2.1 x.1.out.length (x.2.2 + x.1.out.length)] ++ cellsR m := by simp [cellsR]
theorem with_any (m : List Rp) (p : Option Addr) (c : Nat) (x : Rp) (w : World) (hn : m.length ≤ 1000) (h : RowsAt w p (m.map (·.1))) (hm : Lay w p (cellsR m)) (hu : Up (m.map (·.1))) :
    Calls Try.prog 58 #[.slice p m.length (c + m.length), .agg #[.int .i64 x.1.key, .int .i64 x.1.avail, .int .i64 x.1.mark, .slice x.2.1 x.1.out.length (x.2.2 + x.1.out.length)]] w fun e w' => ∃ g n M, e = .returned (.slice (some ⟨g, 0, none⟩) n n) ∧ M.length = n ∧ M.map (·.1) = setRows (m.map (·.1)) x.1 ∧ (∀ y ∈ M, y = x ∨ y ∈ m) ∧ w.heap.size ≤ g ∧ w'.rangeAt g 0 (cellsR M) ∧ Below w.heap.size w w' := by
  have hlen : (m.map (·.1)).length = m.length := by simp
  have hat := fun u (hb : Below w.heap.size w u) => pat_any (m.map (·.1)) p (c + m.length) x.1.key u (h.below hb) (by rw [hlen]; exact hn)
  have hab := fun u (hb : Below w.heap.size w u) => above_any (m.map (·.1)) p (c + m.length) x.1.key u (h.below hb) (by rw [hlen]; exact hn)
  rw [hlen] at hat hab
  have key : ∀ (i k : Nat), i ≤ k → k ≤ m.length → (k = i + 1 ∧ i < m.length ∨ k = i) → pat (m.map (·.1)) x.1.key = (if k = i then m.length else i) → (k = i → gt (m.map (·.1)) x.1.key = i) →
      setRows (m.map (·.1)) x.1 = (m.take i ++ x :: m.drop k).map (·.1) →
      Calls Try.prog 58 #[.slice p m.length (c + m.length), .agg #[.int .i64 x.1.key, .int .i64 x.1.avail, .int .i64 x.1.mark, .slice x.2.1 x.1.out.length (x.2.2 + x.1.out.length)]] w fun e w' => ∃ g n M, e = .returned (.slice (some ⟨g, 0, none⟩) n n) ∧ M.length = n ∧ M.map (·.1) = setRows (m.map (·.1)) x.1 ∧ (∀ y ∈ M, y = x ∨ y ∈ m) ∧ w.heap.size ≤ g ∧ w'.rangeAt g 0 (cellsR M) ∧ Below w.heap.size w w' := by
    intro i k hik hk hki hp hg hs
    have e1 : m = m.take i ++ m.drop i := (List.take_append_drop i m).symm
    have e2 : m = m.take k ++ m.drop k := (List.take_append_drop k m).symm
    have lA : (cellsR (m.take i)).length = i * 4 := by rw [cellsR_len, List.length_take, Nat.min_eq_left (by omega)]
    have lK : (cellsR (m.take k)).length = k * 4 := by rw [cellsR_len, List.length_take, Nat.min_eq_left (by omega)]
    have lB : (cellsR (m.drop k)).length = (m.length - k) * 4 := by rw [cellsR_len, List.length_drop]
    have hA : Lay w p (cellsR (m.take i)) := by
      rw [e1, cellsR_append] at hm
      exact hm.left
    have hB : cellsR (m.drop k) = [] ∨ ∃ b o, p = some ⟨b, o, none⟩ ∧ w.rangeAt b (o + k * 4) (cellsR (m.drop k)) := by
      rw [e2, cellsR_append] at hm
      rcases hm with hm | ⟨b, o, e, hm⟩
      · exact .inl (List.append_eq_nil_iff.1 hm).2
      · refine .inr ⟨b, o, e, ?_⟩
        have := (range_append.1 hm).2
        rwa [lK] at this
    refine (with_core p m.length c i k x.1.key x.1.avail x.1.mark x.2.1 x.1.out.length x.2.2 w _ _ hn ?_ hA lA (cellsR_one _) hB lB (cellsR_one _)).mono ?_
    · rcases hki with ⟨hki, hlt⟩ | hki
      · refine .inl ⟨hlt, hki, fun u hb => ?_⟩
        have := hat u hb
        rwa [hp, if_neg (by omega)] at this
      · refine .inr ⟨by omega, hki, fun u hb => ?_, fun u hb => ?_⟩
        · have := hat u hb
          rwa [hp, if_pos hki] at this
        · have := hab u hb
          rwa [hg hki] at this
    · rintro e w' ⟨g, N, rfl, hN, hg, hr, hb⟩
      refine ⟨g, N, m.take i ++ x :: m.drop k, rfl, ?_, hs.symm, ?_, hg, ?_, hb⟩
      · rw [List.length_append, List.length_cons, List.length_take, List.length_drop, Nat.min_eq_left (by omega)]
        omega
      · intro y hy
        rcases List.mem_append.1 hy with hy | hy
        · exact .inr (List.mem_of_mem_take hy)
        · rcases List.mem_cons.1 hy with hy | hy
          · exact .inl hy
          · exact .inr (List.mem_of_mem_drop hy)
      · rw [cellsR_append, cellsR_cons]
        exact hr
  have up := List.pairwise_iff_getElem.1 hu
  have getD : ∀ j (hj : j < m.length), (m.map (·.1)).getD j noRow = m[j].1 := fun j hj => by simp [List.getD, hj]
  have lt : ∀ i j (hij : i < j) (hj : j < m.length), (m[i]'(by omega)).1.key < m[j].1.key := fun i j hij hj => by
    have := up i j (by simp; omega) (by simpa using hj) hij
    simpa using this
  rcases pat_cases (m.map (·.1)) x.1.key with ⟨-, hp, hne⟩ | ⟨j, -, hp, hj, hk⟩
  · have hgl : gt (m.map (·.1)) x.1.key ≤ m.length ∧ (∀ i (hi : i < m.length), i < gt (m.map (·.1)) x.1.key → m[i].1.key < x.1.key) ∧ (∀ i (hi : i < m.length), gt (m.map (·.1)) x.1.key ≤ i → x.1.key < m[i].1.key) := by
      rcases spot_cases (fun r : Rw => decide (x.1.key < r.key)) noRow (m.map (·.1)) with ⟨h1, h2⟩ | ⟨j, h1, h2, h3, h4⟩
      · have e : gt (m.map (·.1)) x.1.key = m.length := by unfold gt; rw [h1, if_pos (by omega), hlen]
        rw [e]
        refine ⟨Nat.le_refl _, fun i hi _ => ?_, fun i hi h => by omega⟩
        have h5 := h2 i (by rw [hlen]; exact hi)
        have h6 := hne i (by rw [hlen]; exact hi)
        rw [getD i hi] at h5 h6
        simp only [decide_eq_false_iff_not] at h5
        omega
      · have e : gt (m.map (·.1)) x.1.key = j := by unfold gt; rw [h1, if_neg (by omega), Int.toNat_natCast]
        rw [hlen] at h2
        rw [e]
        rw [getD j h2] at h3
        simp only [decide_eq_true_eq] at h3
        refine ⟨by omega, fun i hi hij => ?_, fun i hi hij => ?_⟩
        · have h5 := h4 i hij
          have h6 := hne i (by rw [hlen]; exact hi)
          rw [getD i hi] at h5 h6
          simp only [decide_eq_false_iff_not] at h5
          omega
        · by_cases e : i = j
          · subst e; exact h3
          · have := lt j i (by omega) hi
            omega
    generalize hge : gt (m.map (·.1)) x.1.key = i at *
    obtain ⟨g1, g2, g3⟩ := hgl
    refine key i i (Nat.le_refl _) g1 (.inr rfl) (by rw [hp, if_pos rfl, hlen]) (fun _ => rfl) ?_
    have e1 : m.map (·.1) = (m.take i).map (·.1) ++ (m.drop i).map (·.1) := by rw [← List.map_append, List.take_append_drop]
    rw [e1, List.map_append, List.map_cons]
    refine setRows_put (fun y hy => ?_) (fun y hy => ?_)
    · obtain ⟨z, hz, rfl⟩ := List.mem_map.1 hy
      obtain ⟨q, hq, rfl⟩ := List.mem_iff_getElem.1 hz
      simp only [List.length_take] at hq
      rw [List.getElem_take]
      exact g2 q (by omega) (by omega)
    · obtain ⟨z, hz, rfl⟩ := List.mem_map.1 hy
      obtain ⟨q, hq, rfl⟩ := List.mem_iff_getElem.1 hz
      simp only [List.length_drop] at hq
      rw [List.getElem_drop]
      exact g3 (i + q) (by omega) (by omega)
  · rw [hlen] at hj
    rw [getD j hj] at hk
    refine key j (j + 1) (by omega) (by omega) (.inl ⟨rfl, hj⟩) (by rw [hp, if_neg (by omega)]) (fun h => by omega) ?_
    have e1 : m.map (·.1) = (m.take j).map (·.1) ++ m[j].1 :: (m.drop (j + 1)).map (·.1) := by rw [← List.map_cons, ← List.drop_eq_getElem_cons hj, ← List.map_append, List.take_append_drop]
    rw [e1, List.map_append, List.map_cons]
    refine setRows_in (fun y hy => ?_) hk (fun y hy => ?_)
    · obtain ⟨z, hz, rfl⟩ := List.mem_map.1 hy
      obtain ⟨q, hq, rfl⟩ := List.mem_iff_getElem.1 hz
      simp only [List.length_take] at hq
      rw [List.getElem_take]
      have := lt q j (by omega) hj
      omega
    · obtain ⟨z, hz, rfl⟩ := List.mem_map.1 hy
      obtain ⟨q, hq, rfl⟩ := List.mem_iff_getElem.1 hz
      simp only [List.length_drop] at hq
      rw [List.getElem_drop]
      have := lt j (j + 1 + q) (by omega) (by omega)
      omega
end Go.Proofs.Ytcnnepmhdccipaa.Ledger
