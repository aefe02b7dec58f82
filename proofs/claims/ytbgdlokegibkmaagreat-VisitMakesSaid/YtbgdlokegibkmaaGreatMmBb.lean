/-
  The program's with, of any rows of up to 1000: the rows ahead, the row, and the rows behind, in a new block.
  The program's busy, of any rows of up to 1000: those that aren't idle, with where their leases lie.
  The program's with, told by where rows lie; the program's Mint.
  The program's Settle.
  slices.Compact at []int, of numbers that rise: the slice itself; nothing lies otherwise behind it.
-/
import Derived.Test.YtbgdlokegibkmaaGreatMmBa
namespace Go.Proofs.YtbgdlokegibkmaaGreat.Ledger
open Go.RowKit
open _root_.Go.Proofs.YtbgdlokegibkmaaGreat.Frame (Rw Tb noRow LeasesAt cell_on)
theorem infoR' : (Tryz.prog.info? 80).map (·.size) = some 4 := by kernel_rfl
set_option maxRecDepth 100000 in
set_option maxHeartbeats 1000000 in
theorem with_core (p : Option Addr) (n c i k : Nat) (rk ra rm : Int) (pr : Option Addr) (nr cr : Nat) (w : World) (CA CB : List Value) (hn : n ≤ 1000)
    (hcase : (i < n ∧ k = i + 1 ∧ ∀ u, Below w.heap.size w u → Calls Tryz.prog 189 #[.slice p n (c + n), .int .i64 rk] u fun e u' => e = .returned (.int .i64 (i : Int)) ∧ u' = u) ∨
      (i ≤ n ∧ k = i ∧ (∀ u, Below w.heap.size w u → Calls Tryz.prog 189 #[.slice p n (c + n), .int .i64 rk] u fun e u' => e = .returned (.int .i64 (n : Int)) ∧ u' = u) ∧ ∀ u, Below w.heap.size w u → Calls Tryz.prog 193 #[.slice p n (c + n), .int .i64 rk] u fun e u' => e = .returned (.int .i64 (i : Int)) ∧ Below u.heap.size u u'))
    (hA : Lay w p CA) (lA : CA.length = i * 4) (oA : ∀ v ∈ CA, v.oneCell' = true) (hB : CB = [] ∨ ∃ b o, p = some ⟨b, o, none⟩ ∧ w.rangeAt b (o + k * 4) CB) (lB : CB.length = (n - k) * 4) (oB : ∀ v ∈ CB, v.oneCell' = true) :
    Calls Tryz.prog 156 #[.slice p n (c + n), .agg #[.int .i64 rk, .int .i64 ra, .int .i64 rm, .slice pr nr (cr + nr)]] w fun e w' => ∃ g N, e = .returned (.slice (some ⟨g, 0, none⟩) N N) ∧ N = i + 1 + (n - k) ∧ w.heap.size ≤ g ∧ w'.rangeAt g 0 (CA ++ ([.int .i64 rk, .int .i64 ra, .int .i64 rm, .slice pr nr (cr + nr)] ++ CB)) ∧ Below w.heap.size w w' := by
  obtain ⟨i0, hi, hz0, hz1, hz2⟩ := info_parts infoR
  have M0 := Lib.hid ((Mem.start w).box #[.int .i64 rk, .int .i64 ra, .int .i64 rm, .slice pr nr (cr + nr)] 80)
  obtain ⟨r0, r1, r2, r3, -⟩ := box4 (M0.out.boxes 0 _ _ _ rfl)
  have S1 := fun u => cut_head Tryz.prog 26 80 4 Tryz.underlying26 infoR' p n (c + n) i (by omega) u
  rcases hcase with ⟨hin, rfl, hat⟩ | ⟨hin, rfl, hat, hab⟩
  · obtain ⟨q3, S3, Q3⟩ := cut_tail Tryz.prog 26 80 4 Tryz.underlying26 infoR' p n (c + n) (i + 1) ((i : Int) + 1) (by omega) (by omega) (by omega)
    have hin' : (i : Int) < (n : Int) := by omega
    have hne : ((i : Int) == (n : Int)) = false := by simp; omega
    have HS : Hid (∀ g, ∃ q2, (∀ w, (Instr.slice 26 (.slice (some ⟨g, 0, none⟩) n n) (some (.int .i64 ((i : Int) + 1))) none none).run Tryz.prog w = .ok (.slice q2 (n - (i + 1)) (n - (i + 1))) w) ∧ (n - (i + 1) = 0 ∨ q2 = (some (⟨g, 0, none⟩ : Addr)).map (·.add ((i + 1) * 4)))) := fun g =>
      cut_tail Tryz.prog 26 80 4 Tryz.underlying26 infoR' (some ⟨g, 0, none⟩) n n (i + 1) ((i : Int) + 1) (by omega) (by omega) (by omega)
    have hn1 : CA.length = Nat.min i n * 4 := by rw [lA]; congr 1; exact (Nat.min_eq_left (by omega)).symm
    have hn2 : CB.length = Nat.min (n - (i + 1)) (n - (i + 1)) * 4 := by rw [lB]; congr 1; exact (Nat.min_self _).symm
    have hA2 := fun u (hb : Below w.heap.size w u) => hA.on hb
    have hB2 : Hid (∀ u, Below w.heap.size w u → Lay u q3 CB) := fun u hb => by
      rcases hB with hB | ⟨b, o, rfl, hB⟩
      · exact .inl hB
      · rcases Q3 with h | rfl
        · exact .inl (List.eq_nil_of_length_eq_zero (by omega))
        · exact .inr ⟨b, o + (i + 1) * 4, by simp [Addr.add_mid], range_on hB hb⟩
    have hdp : Hid (∀ g q2, (n - (i + 1) = 0 ∨ q2 = (some (⟨g, 0, none⟩ : Addr)).map (·.add ((i + 1) * 4))) → CB = [] ∨ q2 = some ⟨g, (i + 1) * 4, none⟩) := fun g q2 h => by
      rcases h with h | rfl
      · exact .inl (List.eq_nil_of_length_eq_zero (by omega))
      · exact .inr (by simp [Addr.add_mid])
    have hm2 : i * 4 + [Value.int .i64 rk, .int .i64 ra, .int .i64 rm, .slice pr nr (cr + nr)].length ≤ n * 4 := by simp; omega
    have hi4 : (Tryz.prog.info? 80).map (·.size) = some [Value.int .i64 rk, .int .i64 ra, .int .i64 rm, .slice pr nr (cr + nr)].length := infoR'
    have oX : ∀ v ∈ [Value.int .i64 rk, .int .i64 ra, .int .i64 rm, .slice pr nr (cr + nr)], v.oneCell' = true := by
      intro v hv
      simp at hv
      rcases hv with rfl | rfl | rfl | rfl <;> rfl
    clear hB Q3 hA
    go_enter Tryz.func156, Tryz.ntmps156
    go_wp2_with (first
      | (go_at_call 189; (with_reducible refine (hat _ M0.out.below).mono ?_); rintro e u ⟨rfl, rfl⟩)
      | (at_make; refine wpList_make_range rfl (.tmp 29) (.tmp 29) 26 rfl 80 i0 (.agg #[.int .i64 0, .int .i64 0, .int .i64 0, .slice none 0 0]) 4 Tryz.underlying26 hi hz0 hz1 .i64 .i64 _ _ n rfl rfl (by omega) (by omega) (by rw [hz2]; omega) (by omega) ?_; intro w1 b1 s1 t1; obtain ⟨q2, S2, Q2⟩ := HS.out (w.heap.size + 1); have F1 := Lib.hid (Fill.mk (X := []) t1 (fun j v hv => by simp at hv) b1 (Nat.le_refl _)); rw [size_alloc] at F1; clear t1 b1 s1)
      | ((with_reducible refine wpList_copy_range (o := ⟨some 35, _, _, _, _, _⟩) rfl (.tmp 31) (.tmp 34) 26 26 rfl 80 4 Tryz.underlying26 infoR' (some ⟨w.heap.size + 1, 0, none⟩) p n n i (c + n) rfl rfl (w.heap.size + 1) 0 CA hn1 (hA2 _ (M0.out.below.trans (F1.out.below.mono (by simp)))) (.inr rfl) (F1.out.sub 0 _ (by omega)) oA ?_); intro w2 e2; have F2 := Lib.hid (F1.out.step e2.out rfl (by omega)); clear r0 r1 r2 r3 F1 e2; obtain ⟨r0, r1, r2, r3, -⟩ := box4 ((M0.out.on F2.out.below).boxes 0 _ _ _ rfl); obtain ⟨z0, y0, f0⟩ := F2.out.cell (o := i * 4) (by omega); obtain ⟨z1, y1, f1⟩ := F2.out.cell (o := i * 4 + 1) (by omega); obtain ⟨z2, y2, f2⟩ := F2.out.cell (o := i * 4 + 2) (by omega); obtain ⟨z3, y3, f3⟩ := F2.out.cell (o := i * 4 + 3) (by omega)))
    have F3 := F2.out.step (u' := (((w2.setCell ⟨w.heap.size + 1, i * 4, none⟩ (.int .i64 rk)).setCell ⟨w.heap.size + 1, i * 4 + 1, none⟩ (.int .i64 ra)).setCell ⟨w.heap.size + 1, i * 4 + 2, none⟩ (.int .i64 rm)).setCell ⟨w.heap.size + 1, i * 4 + 3, none⟩ (.slice pr nr (cr + nr))) (cs := [.int .i64 rk, .int .i64 ra, .int .i64 rm, .slice pr nr (cr + nr)]) rfl lA hm2
    generalize (((w2.setCell ⟨w.heap.size + 1, i * 4, none⟩ (.int .i64 rk)).setCell ⟨w.heap.size + 1, i * 4 + 1, none⟩ (.int .i64 ra)).setCell ⟨w.heap.size + 1, i * 4 + 2, none⟩ (.int .i64 rm)).setCell ⟨w.heap.size + 1, i * 4 + 3, none⟩ (.slice pr nr (cr + nr)) = w3 at *
    have hl3 := hB2.out w3 (M0.out.below.trans (F3.below.mono (by simp)))
    have hd3 := hdp.out _ _ Q2
    have hm3 : (i + 1) * 4 + CB.length ≤ n * 4 := by rw [lB]; omega
    have ht3 := F3.sub ((i + 1) * 4) CB.length hm3
    have HF3 := Lib.hid F3
    clear F3 F2 y0 y1 y2 y3 f0 f1 f2 f3 r0 r1 r2 r3 hB2 hdp Q2 HS S1 hA2 hn1
    have e1 : IntKind.i64.wrap ((i : Int) + 1) = (i : Int) + 1 := IntWalk.i64_in _ (by omega)
    go_region_law (refine step_copy_range rfl (.tmp 43) (.tmp 46) 26 26 rfl 80 4 Tryz.underlying26 infoR' q2 q3 (n - (i + 1)) (n - (i + 1)) (n - (i + 1)) (c + n - (i + 1)) (by simp [Act.eval, Act.put]) (by simp [Act.eval, Act.put]) (w.heap.size + 1) ((i + 1) * 4) CB hn2 (lay_heap rfl hl3) hd3 (there_heap rfl ht3) oB ?_; intro w4 e4)
    all_goals
      have F4 := Lib.hid ((HF3.out.same (Below.refl _ _).drew).step e4.out (by simp [lA]; omega) hm3)
      clear e4 S2 S3 e1 hl3 hd3 ht3
      go_wp2
      go_ret
      exact ⟨w.heap.size + 1, n, rfl, by omega, by omega, (by have h := F4.out.has; rw [List.append_assoc] at h; exact h), M0.out.below.trans (F4.out.below.mono (by simp))⟩
  · obtain ⟨q3, S3, Q3⟩ := cut_tail Tryz.prog 26 80 4 Tryz.underlying26 infoR' p n (c + n) k (k : Int) (by omega) (by omega) (by omega)
    have hin' : (k : Int) ≤ (n : Int) := by omega
    have HS : Hid (∀ g, ∃ q2, (∀ w, (Instr.slice 26 (.slice (some ⟨g, 0, none⟩) (n + 1) (n + 1)) (some (.int .i64 ((k : Int) + 1))) none none).run Tryz.prog w = .ok (.slice q2 (n + 1 - (k + 1)) (n + 1 - (k + 1))) w) ∧ (n + 1 - (k + 1) = 0 ∨ q2 = (some (⟨g, 0, none⟩ : Addr)).map (·.add ((k + 1) * 4)))) := fun g =>
      cut_tail Tryz.prog 26 80 4 Tryz.underlying26 infoR' (some ⟨g, 0, none⟩) (n + 1) (n + 1) (k + 1) ((k : Int) + 1) (by omega) (by omega) (by omega)
    have hn1 : CA.length = Nat.min k (n + 1) * 4 := by rw [lA]; congr 1; exact (Nat.min_eq_left (by omega)).symm
    have hn2 : CB.length = Nat.min (n - k) (n + 1 - (k + 1)) * 4 := by rw [lB]; congr 1; exact (Nat.min_eq_left (by omega)).symm
    have hA2 := fun u (hb : Below w.heap.size w u) => hA.on hb
    have hB2 : Hid (∀ u, Below w.heap.size w u → Lay u q3 CB) := fun u hb => by
      rcases hB with hB | ⟨b, o, rfl, hB⟩
      · exact .inl hB
      · rcases Q3 with h | rfl
        · exact .inl (List.eq_nil_of_length_eq_zero (by omega))
        · exact .inr ⟨b, o + k * 4, by simp [Addr.add_mid], range_on hB hb⟩
    have hdp : Hid (∀ g q2, (n + 1 - (k + 1) = 0 ∨ q2 = (some (⟨g, 0, none⟩ : Addr)).map (·.add ((k + 1) * 4))) → CB = [] ∨ q2 = some ⟨g, (k + 1) * 4, none⟩) := fun g q2 h => by
      rcases h with h | rfl
      · exact .inl (List.eq_nil_of_length_eq_zero (by omega))
      · exact .inr (by simp [Addr.add_mid])
    have hm2 : k * 4 + [Value.int .i64 rk, .int .i64 ra, .int .i64 rm, .slice pr nr (cr + nr)].length ≤ (n + 1) * 4 := by simp; omega
    have hi4 : (Tryz.prog.info? 80).map (·.size) = some [Value.int .i64 rk, .int .i64 ra, .int .i64 rm, .slice pr nr (cr + nr)].length := infoR'
    have oX : ∀ v ∈ [Value.int .i64 rk, .int .i64 ra, .int .i64 rm, .slice pr nr (cr + nr)], v.oneCell' = true := by
      intro v hv
      simp at hv
      rcases hv with rfl | rfl | rfl | rfl <;> rfl
    clear hB Q3 hA
    go_enter Tryz.func156, Tryz.ntmps156
    go_wp2_with (first
      | (go_at_call 189; (with_reducible refine (hat _ M0.out.below).mono ?_); rintro e u ⟨rfl, rfl⟩)
      | (go_at_call 193; (with_reducible refine (hab _ M0.out.below).mono ?_); rintro e u1 ⟨rfl, hb1⟩; have M1 := Lib.hid (M0.out.on hb1); obtain ⟨r0, r1, r2, r3, -⟩ := box4 (M1.out.boxes 0 _ _ _ rfl); clear hb1)
      | (at_make; refine wpList_make_range rfl (.tmp 29) (.tmp 29) 26 rfl 80 i0 (.agg #[.int .i64 0, .int .i64 0, .int .i64 0, .slice none 0 0]) 4 Tryz.underlying26 hi hz0 hz1 .i64 .i64 _ _ (n + 1) rfl rfl (by omega) (by omega) (by rw [hz2]; omega) (by omega) ?_; intro w1 b1 s1 t1; obtain ⟨q2, S2, Q2⟩ := HS.out u1.heap.size; have F1 := Lib.hid (Fill.mk (X := []) t1 (fun j v hv => by simp at hv) b1 (Nat.le_refl _)); clear t1 b1 s1)
      | ((with_reducible refine wpList_copy_range (o := ⟨some 35, _, _, _, _, _⟩) rfl (.tmp 31) (.tmp 34) 26 26 rfl 80 4 Tryz.underlying26 infoR' (some ⟨u1.heap.size, 0, none⟩) p (n + 1) (n + 1) k (c + n) rfl rfl u1.heap.size 0 CA hn1 (hA2 _ (M1.out.below.trans (F1.out.below.mono M1.out.below.size))) (.inr rfl) (F1.out.sub 0 _ (by omega)) oA ?_); intro w2 e2; have F2 := Lib.hid (F1.out.step e2.out rfl (by omega)); clear r0 r1 r2 r3 F1 e2; obtain ⟨r0, r1, r2, r3, -⟩ := box4 ((M1.out.on F2.out.below).boxes 0 _ _ _ rfl); obtain ⟨z0, y0, f0⟩ := F2.out.cell (o := k * 4) (by omega); obtain ⟨z1, y1, f1⟩ := F2.out.cell (o := k * 4 + 1) (by omega); obtain ⟨z2, y2, f2⟩ := F2.out.cell (o := k * 4 + 2) (by omega); obtain ⟨z3, y3, f3⟩ := F2.out.cell (o := k * 4 + 3) (by omega)))
    have F3 := F2.out.step (u' := (((w2.setCell ⟨u1.heap.size, k * 4, none⟩ (.int .i64 rk)).setCell ⟨u1.heap.size, k * 4 + 1, none⟩ (.int .i64 ra)).setCell ⟨u1.heap.size, k * 4 + 2, none⟩ (.int .i64 rm)).setCell ⟨u1.heap.size, k * 4 + 3, none⟩ (.slice pr nr (cr + nr))) (cs := [.int .i64 rk, .int .i64 ra, .int .i64 rm, .slice pr nr (cr + nr)]) rfl lA hm2
    generalize (((w2.setCell ⟨u1.heap.size, k * 4, none⟩ (.int .i64 rk)).setCell ⟨u1.heap.size, k * 4 + 1, none⟩ (.int .i64 ra)).setCell ⟨u1.heap.size, k * 4 + 2, none⟩ (.int .i64 rm)).setCell ⟨u1.heap.size, k * 4 + 3, none⟩ (.slice pr nr (cr + nr)) = w3 at *
    have hl3 := hB2.out w3 (M1.out.below.trans (F3.below.mono M1.out.below.size))
    have hd3 := hdp.out _ _ Q2
    have hm3 : (k + 1) * 4 + CB.length ≤ (n + 1) * 4 := by rw [lB]; omega
    have ht3 := F3.sub ((k + 1) * 4) CB.length hm3
    have HF3 := Lib.hid F3
    clear F3 F2 y0 y1 y2 y3 f0 f1 f2 f3 r0 r1 r2 r3 hB2 hdp Q2 HS S1 hA2 hn1
    have e1 : IntKind.i64.wrap ((k : Int) + 1) = (k : Int) + 1 := IntWalk.i64_in _ (by omega)
    go_region_law (refine step_copy_range rfl (.tmp 43) (.tmp 46) 26 26 rfl 80 4 Tryz.underlying26 infoR' q2 q3 (n + 1 - (k + 1)) (n + 1 - (k + 1)) (n - k) (c + n - k) (by simp [Act.eval, Act.put]) (by simp [Act.eval, Act.put]) u1.heap.size ((k + 1) * 4) CB hn2 (lay_heap rfl hl3) hd3 (there_heap rfl ht3) oB ?_; intro w4 e4)
    all_goals
      have F4 := Lib.hid ((HF3.out.same (Below.refl _ _).drew).step e4.out (by simp [lA]; omega) hm3)
      clear e4 S2 S3 e1 hl3 hd3 ht3
      go_wp2
      go_ret
      exact ⟨u1.heap.size, n + 1, rfl, by omega, M1.out.below.size, (by have h := F4.out.has; rw [List.append_assoc] at h; exact h), M1.out.below.trans (F4.out.below.mono M1.out.below.size)⟩
/-- What with makes, of rows with where their leases lie. -/
theorem cellsR_cons (x : Rp) (m : List Rp) : cellsR (x :: m) = [.int .i64 x.1.key, .int .i64 x.1.avail, .int .i64 x.1.mark, .slice x.2.1 x.1.out.length (x.2.2 + x.1.out.length)] ++ cellsR m := by simp [cellsR]
theorem with_any (m : List Rp) (p : Option Addr) (c : Nat) (x : Rp) (w : World) (hn : m.length ≤ 1000) (h : RowsAt w p (m.map (·.1))) (hm : Lay w p (cellsR m)) (hu : Up (m.map (·.1))) :
    Calls Tryz.prog 156 #[.slice p m.length (c + m.length), .agg #[.int .i64 x.1.key, .int .i64 x.1.avail, .int .i64 x.1.mark, .slice x.2.1 x.1.out.length (x.2.2 + x.1.out.length)]] w fun e w' => ∃ g n M, e = .returned (.slice (some ⟨g, 0, none⟩) n n) ∧ M.length = n ∧ M.map (·.1) = setRows (m.map (·.1)) x.1 ∧ (∀ y ∈ M, y = x ∨ y ∈ m) ∧ w.heap.size ≤ g ∧ w'.rangeAt g 0 (cellsR M) ∧ Below w.heap.size w w' := by
  have hlen : (m.map (·.1)).length = m.length := by simp
  have hat := fun u (hb : Below w.heap.size w u) => pat_any (m.map (·.1)) p (c + m.length) x.1.key u (h.below hb) (by rw [hlen]; exact hn)
  have hab := fun u (hb : Below w.heap.size w u) => above_any (m.map (·.1)) p (c + m.length) x.1.key u (h.below hb) (by rw [hlen]; exact hn)
  rw [hlen] at hat hab
  have key : ∀ (i k : Nat), i ≤ k → k ≤ m.length → (k = i + 1 ∧ i < m.length ∨ k = i) → pat (m.map (·.1)) x.1.key = (if k = i then m.length else i) → (k = i → gt (m.map (·.1)) x.1.key = i) →
      setRows (m.map (·.1)) x.1 = (m.take i ++ x :: m.drop k).map (·.1) →
      Calls Tryz.prog 156 #[.slice p m.length (c + m.length), .agg #[.int .i64 x.1.key, .int .i64 x.1.avail, .int .i64 x.1.mark, .slice x.2.1 x.1.out.length (x.2.2 + x.1.out.length)]] w fun e w' => ∃ g n M, e = .returned (.slice (some ⟨g, 0, none⟩) n n) ∧ M.length = n ∧ M.map (·.1) = setRows (m.map (·.1)) x.1 ∧ (∀ y ∈ M, y = x ∨ y ∈ m) ∧ w.heap.size ≤ g ∧ w'.rangeAt g 0 (cellsR M) ∧ Below w.heap.size w w' := by
    intro i k hik hk hki hp hg hs
    have e1 : m = m.take i ++ m.drop i := (List.take_append_drop i m).symm
    have e2 : m = m.take k ++ m.drop k := (List.take_append_drop k m).symm
    have lA : (cellsR (m.take i)).length = i * 4 := by rw [cellsR_len, List.length_take, Nat.min_eq_left (by omega)]
    have lK : (cellsR (m.take k)).length = k * 4 := by rw [cellsR_len, List.length_take, Nat.min_eq_left (by omega)]
    have lB : (cellsR (m.drop k)).length = (m.length - k) * 4 := by rw [cellsR_len, List.length_drop]
    have hA : Lay w p (cellsR (m.take i)) := by
      rw [e1, cellsR_append] at hm
      exact hm.left
    have hB : cellsR (m.drop k) = [] ∨ ∃ b o, p = some ⟨b, o, none⟩ ∧ w.rangeAt b (o + k * 4) (cellsR (m.drop k)) := by
      rw [e2, cellsR_append] at hm
      rcases hm with hm | ⟨b, o, e, hm⟩
      · exact .inl (List.append_eq_nil_iff.1 hm).2
      · refine .inr ⟨b, o, e, ?_⟩
        have := (range_append.1 hm).2
        rwa [lK] at this
    refine (with_core p m.length c i k x.1.key x.1.avail x.1.mark x.2.1 x.1.out.length x.2.2 w _ _ hn ?_ hA lA (cellsR_one _) hB lB (cellsR_one _)).mono ?_
    · rcases hki with ⟨hki, hlt⟩ | hki
      · refine .inl ⟨hlt, hki, fun u hb => ?_⟩
        have := hat u hb
        rwa [hp, if_neg (by omega)] at this
      · refine .inr ⟨by omega, hki, fun u hb => ?_, fun u hb => ?_⟩
        · have := hat u hb
          rwa [hp, if_pos hki] at this
        · have := hab u hb
          rwa [hg hki] at this
    · rintro e w' ⟨g, N, rfl, hN, hg, hr, hb⟩
      refine ⟨g, N, m.take i ++ x :: m.drop k, rfl, ?_, hs.symm, ?_, hg, ?_, hb⟩
      · rw [List.length_append, List.length_cons, List.length_take, List.length_drop, Nat.min_eq_left (by omega)]
        omega
      · intro y hy
        rcases List.mem_append.1 hy with hy | hy
        · exact .inr (List.mem_of_mem_take hy)
        · rcases List.mem_cons.1 hy with hy | hy
          · exact .inl hy
          · exact .inr (List.mem_of_mem_drop hy)
      · rw [cellsR_append, cellsR_cons]
        exact hr
  have up := List.pairwise_iff_getElem.1 hu
  have getD : ∀ j (hj : j < m.length), (m.map (·.1)).getD j noRow = m[j].1 := fun j hj => by simp [List.getD, hj]
  have lt : ∀ i j (hij : i < j) (hj : j < m.length), (m[i]'(by omega)).1.key < m[j].1.key := fun i j hij hj => by
    have := up i j (by simp; omega) (by simpa using hj) hij
    simpa using this
  rcases pat_cases (m.map (·.1)) x.1.key with ⟨-, hp, hne⟩ | ⟨j, -, hp, hj, hk⟩
  · have hgl : gt (m.map (·.1)) x.1.key ≤ m.length ∧ (∀ i (hi : i < m.length), i < gt (m.map (·.1)) x.1.key → m[i].1.key < x.1.key) ∧ (∀ i (hi : i < m.length), gt (m.map (·.1)) x.1.key ≤ i → x.1.key < m[i].1.key) := by
      rcases spot_cases (fun r : Rw => decide (x.1.key < r.key)) noRow (m.map (·.1)) with ⟨h1, h2⟩ | ⟨j, h1, h2, h3, h4⟩
      · have e : gt (m.map (·.1)) x.1.key = m.length := by unfold gt; rw [h1, if_pos (by omega), hlen]
        rw [e]
        refine ⟨Nat.le_refl _, fun i hi _ => ?_, fun i hi h => by omega⟩
        have h5 := h2 i (by rw [hlen]; exact hi)
        have h6 := hne i (by rw [hlen]; exact hi)
        rw [getD i hi] at h5 h6
        simp only [decide_eq_false_iff_not] at h5
        omega
      · have e : gt (m.map (·.1)) x.1.key = j := by unfold gt; rw [h1, if_neg (by omega), Int.toNat_natCast]
        rw [hlen] at h2
        rw [e]
        rw [getD j h2] at h3
        simp only [decide_eq_true_eq] at h3
        refine ⟨by omega, fun i hi hij => ?_, fun i hi hij => ?_⟩
        · have h5 := h4 i hij
          have h6 := hne i (by rw [hlen]; exact hi)
          rw [getD i hi] at h5 h6
          simp only [decide_eq_false_iff_not] at h5
          omega
        · by_cases e : i = j
          · subst e; exact h3
          · have := lt j i (by omega) hi
            omega
    generalize hge : gt (m.map (·.1)) x.1.key = i at *
    obtain ⟨g1, g2, g3⟩ := hgl
    refine key i i (Nat.le_refl _) g1 (.inr rfl) (by rw [hp, if_pos rfl, hlen]) (fun _ => rfl) ?_
    have e1 : m.map (·.1) = (m.take i).map (·.1) ++ (m.drop i).map (·.1) := by rw [← List.map_append, List.take_append_drop]
    rw [e1, List.map_append, List.map_cons]
    refine setRows_put (fun y hy => ?_) (fun y hy => ?_)
    · obtain ⟨z, hz, rfl⟩ := List.mem_map.1 hy
      obtain ⟨q, hq, rfl⟩ := List.mem_iff_getElem.1 hz
      simp only [List.length_take] at hq
      rw [List.getElem_take]
      exact g2 q (by omega) (by omega)
    · obtain ⟨z, hz, rfl⟩ := List.mem_map.1 hy
      obtain ⟨q, hq, rfl⟩ := List.mem_iff_getElem.1 hz
      simp only [List.length_drop] at hq
      rw [List.getElem_drop]
      exact g3 (i + q) (by omega) (by omega)
  · rw [hlen] at hj
    rw [getD j hj] at hk
    refine key j (j + 1) (by omega) (by omega) (.inl ⟨rfl, hj⟩) (by rw [hp, if_neg (by omega)]) (fun h => by omega) ?_
    have e1 : m.map (·.1) = (m.take j).map (·.1) ++ m[j].1 :: (m.drop (j + 1)).map (·.1) := by rw [← List.map_cons, ← List.drop_eq_getElem_cons hj, ← List.map_append, List.take_append_drop]
    rw [e1, List.map_append, List.map_cons]
    refine setRows_in (fun y hy => ?_) hk (fun y hy => ?_)
    · obtain ⟨z, hz, rfl⟩ := List.mem_map.1 hy
      obtain ⟨q, hq, rfl⟩ := List.mem_iff_getElem.1 hz
      simp only [List.length_take] at hq
      rw [List.getElem_take]
      have := lt q j (by omega) hj
      omega
    · obtain ⟨z, hz, rfl⟩ := List.mem_map.1 hy
      obtain ⟨q, hq, rfl⟩ := List.mem_iff_getElem.1 hz
      simp only [List.length_drop] at hq
      rw [List.getElem_drop]
      have := lt j (j + 1 + q) (by omega) (by omega)
      omega
end Go.Proofs.YtbgdlokegibkmaaGreat.Ledger

namespace Go.Proofs.YtbgdlokegibkmaaGreat.Ledger
open Go.RowKit
open _root_.Go.Proofs.YtbgdlokegibkmaaGreat.Frame (Rw Tb noRow LeasesAt cell_on)
open _root_.Go.Proofs.YtbgdlokegibkmaaGreat.Codec (own_below own_lower lt_of_heap frozen_of heap_set)
/-- Rows that a call owns, with where their leases lie. -/
def OwnM (B : Nat) (w : World) (v : Value) (M : List Rp) : Prop := w.ownsRow B 80 4 v M.length (cellsR M)
theorem OwnM.none (B : Nat) (w : World) : OwnM B w (.slice Option.none 0 0) [] := World.ownsRow_nil _ _ _ _
theorem OwnM.shape {B : Nat} {w : World} {v : Value} {M : List Rp} (h : OwnM B w v M) : ∃ p c, v = .slice p M.length c := by
  rcases h.2 with ⟨rfl, h0⟩ | ⟨g, cap, cur, rfl, h1, h2, h3⟩
  · exact ⟨Option.none, 0, by rw [h0]⟩
  · exact ⟨_, cap, rfl⟩
theorem OwnM.lay {B : Nat} {w : World} {v : Value} {M : List Rp} (h : OwnM B w v M) : ∃ p c, v = .slice p M.length (c + M.length) ∧ Lay w p (cellsR M) := by
  have ho := h
  rcases h.2 with ⟨rfl, h0⟩ | ⟨g, cap, cur, rfl, h1, h2, h3⟩
  · have : M = [] := List.eq_nil_of_length_eq_zero h0
    subst this
    exact ⟨Option.none, 0, rfl, .inl rfl⟩
  · refine ⟨_, cap - M.length, by rw [Nat.sub_add_cancel h3.1], .inr ⟨g, 0, rfl, fun j v hv => ?_⟩⟩
    have := World.ownsRow.cells (g := g) ho rfl j v hv
    rwa [Addr.add_mid] at this
theorem OwnM.on {B : Nat} {w w' : World} {v : Value} {M : List Rp} (h : OwnM B w v M) (hb : Below w.heap.size w w') : OwnM B w' v M := own_below h hb
theorem push_pair {u : World} {ops : Array Oper} {rest : List Oper} {o : Oper} {a : Act} {Q : Exit → Act → World → Prop} (hgd : o.guard = none) (s y : Operand)
    (ho : o.op = .call { callee := .builtin .append, args := #[s, y], argTypes := #[26, 26] })
    (w0 wr : World) (v : Value) (hs : a.eval s = v) (M : List Rp) (n : Nat) (hn : M.length = n) (hown : OwnM w0.heap.size wr v M) (hbw : Below w0.heap.size w0 wr) (hu : Below wr.heap.size wr u)
    (g : Nat) (x : Rp) (nx : Nat) (hnx : x.1.out.length = nx) (hy : a.eval y = .slice (some ⟨g, 0, Option.none⟩) 1 1)
    (hg : (u.alloc (.cells #[.int .i64 x.1.key, .int .i64 x.1.avail, .int .i64 x.1.mark, .slice x.2.1 nx (x.2.2 + nx)] 80)).heap[g]? = some (.cells #[.int .i64 x.1.key, .int .i64 x.1.avail, .int .i64 x.1.mark, .slice x.2.1 nx (x.2.2 + nx)] 80 (0, 0))) (hlen : n ≤ 100000)
    (h : ∀ p c w', Hid (OwnM w0.heap.size w' (.slice p (n + 1) c) (M ++ [x])) → Below w0.heap.size w0 w' → wpList Tryz.prog ops Q rest (a.put o.dst (.slice p (n + 1) c)) w') : wpList Tryz.prog ops Q (o :: rest) a (u.alloc (.cells #[.int .i64 x.1.key, .int .i64 x.1.avail, .int .i64 x.1.mark, .slice x.2.1 nx (x.2.2 + nx)] 80)) := by
  subst hn hnx
  obtain ⟨i0, hi, hz0, hz1, hz2⟩ := info_parts infoR
  have hua : Below wr.heap.size wr (u.alloc (.cells #[.int .i64 x.1.key, .int .i64 x.1.avail, .int .i64 x.1.mark, .slice x.2.1 x.1.out.length (x.2.2 + x.1.out.length)] 80)) := hu.alloc hu.size _
  refine wpList_append_own _ hgd s y 26 ho w0.heap.size 80 i0 (.agg #[.int .i64 0, .int .i64 0, .int .i64 0, .slice Option.none 0 0]) 4 48 Tryz.underlying26 hi hz0 hz1 hz2 rfl (by decide) v M.length (cellsR M) hs (own_below hown hua) ⟨g, 0, Option.none⟩ 1 1 [.int .i64 x.1.key, .int .i64 x.1.avail, .int .i64 x.1.mark, .slice x.2.1 x.1.out.length (x.2.2 + x.1.out.length)] hy rfl (World.news_of_block hg) ?_ (by unfold maxLen; omega) (by omega) (Nat.le_trans hbw.size hua.size) ?_
  · intro z hz
    simp at hz
    rcases hz with rfl | rfl | rfl | rfl <;> rfl
  · intro v' w' ho2 hg2 _
    have hb2 := (hbw.trans (hua.mono hbw.size)).grown hg2 (Nat.le_trans hbw.size hua.size) (fun k hk => (World.ownsRow.lt hown k hk).1)
    have R : OwnM w0.heap.size w' v' (M ++ [x]) := by
      unfold OwnM
      rw [cellsR_snoc, List.length_append]
      exact ho2
    obtain ⟨p, c, rfl⟩ : ∃ p c, v' = .slice p (M.length + 1) c := by
      rcases ho2.2 with ⟨_, h0⟩ | ⟨g, cap, cur, rfl, _⟩
      · omega
      · exact ⟨_, cap, rfl⟩
    exact h p c w' R hb2
def sweepP (start now : Int) (f : Cf) (m : List Rp) : List Rp := m.filter fun x => !idle start x.1 now f
theorem sweepP_take (start now : Int) (f : Cf) (m : List Rp) (j : Nat) (h : j < m.length) : sweepP start now f (m.take (j + 1)) = sweepP start now f (m.take j) ++ (if idle start m[j].1 now f = true then [] else [m[j]]) := by
  rw [sweepP, List.take_succ_eq_append_getElem h, List.filter_append]
  by_cases h2 : idle start m[j].1 now f = true
  · rw [if_pos h2]; simp [sweepP, h2]
  · rw [if_neg h2]; simp [sweepP, h2]
theorem sweepP_row (start now : Int) (f : Cf) (m : List Rp) : (sweepP start now f m).map (·.1) = sweepOf start now f (m.map (·.1)) := by
  unfold sweepP sweepOf
  rw [List.filter_map]
  rfl
theorem sweepP_len (start now : Int) (f : Cf) (m : List Rp) (j : Nat) : (sweepP start now f (m.take j)).length ≤ m.length := by
  have h1 : (sweepP start now f (m.take j)).length ≤ (m.take j).length := List.length_filter_le _ _
  have h2 : (m.take j).length ≤ m.length := by simp; omega
  omega
set_option maxRecDepth 100000 in
set_option maxHeartbeats 2000000 in
theorem busy_any (start : Int) (m : List Rp) (p : Option Addr) (c : Nat) (now : Int) (f : Cf) (pf : Option Addr) (cf : Nat) (w : World) (hl : m.length ≤ 1000) (hm : Lay w p (cellsR m)) (hz : RatesAt w pf f.rates) :
    Calls Tryz.prog 190 #[.agg #[.int .i64 start, .slice p m.length (c + m.length)], .int .i64 now, cfVal f pf cf] w fun e w' => ∃ p' c', e = .returned (.slice p' (sweepP start now f m).length (c' + (sweepP start now f m).length)) ∧ Lay w' p' (cellsR (sweepP start now f m)) ∧ Below w.heap.size w w' := by
  have HV : Hid (∀ j, j = m.length → sweepP start now f m = sweepP start now f (m.take j)) := by rintro j rfl; rw [List.take_length]
  have HS : Hid (∀ j (hj : j < m.length), sweepP start now f (m.take (j + 1)) = sweepP start now f (m.take j) ++ (if idle start m[j].1 now f = true then [] else [m[j]])) := fun j hj => sweepP_take start now f m j hj
  have HL := fun j => Lib.hid (sweepP_len start now f m j)
  have h00 : sweepP start now f (m.take 0) = [] := by simp [sweepP]
  have HI := Lib.hid (fun (u : World) (r : Rw) (pr : Option Addr) (cr : Nat) (hu : Below w.heap.size w u) => pidle_any r pr cr start now f pf cf u (hz.below hu))
  generalize sweepP start now f m = V at HV ⊢
  generalize hG : (fun j => sweepP start now f (m.take j)) = G
  have hGj : ∀ j, sweepP start now f (m.take j) = G j := fun j => by rw [← hG]
  simp only [hGj] at HV HS HL h00
  clear hG hGj
  generalize hI : (fun r => idle start r now f) = I
  have hIr : ∀ r, idle start r now f = I r := fun r => by rw [← hI]
  simp only [hIr] at HS HI
  clear hI hIr
  obtain ⟨n, sk, tl, va, lo, he, ke, qu, rates⟩ := f
  simp only [cfVal, rowVal] at *
  have M0 := Lib.hid (((Mem.start w).box #[.int .i64 start, .slice p m.length (c + m.length)] 28).box #[.int .i64 n, .int .i64 sk, .int .i64 tl, .int .i64 va, .int .i64 lo, .int .i64 he, .int .i64 ke, .int .i64 qu, .slice pf rates.length cf] 24)
  simp only [size_alloc] at M0
  have HM := Lib.hid (hm.on M0.out.below)
  obtain ⟨t0, t1, -⟩ := box2 (M0.out.boxes 1 _ _ _ rfl)
  obtain ⟨c0, c1, c2, c3, c4, c5, c6, c7, c8⟩ := nine_cells (M0.out.boxes 0 _ _ _ rfl)
  clear hm hz
  go_enter Tryz.func190, Tryz.ntmps190
  go_wp2
  generalize ((w.alloc (.cells #[.int .i64 start, .slice p m.length (c + m.length)] 28)).alloc (.cells #[.int .i64 n, .int .i64 sk, .int .i64 tl, .int .i64 va, .int .i64 lo, .int .i64 he, .int .i64 ke, .int .i64 qu, .slice pf rates.length cf] 24)) = W1 at *
  clear t0 t1 c0 c1 c2 c3 c4 c5 c6 c7 c8
  go_loopw [7, 13] (fun v i wr => ∃ j : Nat, j ≤ m.length ∧ i = .int .i64 (j : Int) ∧ Hid (OwnM W1.heap.size wr v (G j)) ∧ Below W1.heap.size W1 wr) (fun _ i _ => m.length - (intOf i).toNat)
  case atStart => exact ⟨0, by omega, rfl, (by rw [h00]; exact OwnM.none _ _), Below.refl _ _⟩
  case round =>
    obtain ⟨j, hj, rfl, hown, hbw⟩ := hrel
    have M1 := Lib.hid (M0.out.on hbw)
    by_cases hlt : j < m.length
    · obtain ⟨b, o, rfl, x0', x1', x2', x3'⟩ := lay_row HM.out hlt
      have x0 := cell_on x0' hbw
      have x1 := cell_on x1' hbw
      have x2 := cell_on x2' hbw
      have x3 := cell_on x3' hbw
      have hlt' : (j : Int) < (m.length : Int) := by omega
      have hs := HS.out j hlt
      have hlen := (HL j).out
      generalize m[j] = x at *
      have hi := fun u hu => HI.out u x.1 x.2.1 x.2.2 hu
      generalize I x.1 = q at *
      obtain ⟨⟨xk, xa, xm, xo⟩, px, cx⟩ := x
      simp only at x0 x1 x2 x3 hi
      generalize hnx : xo.length = nx at *
      have HNX := Lib.hid hnx
      generalize G j = F at *
      generalize hS2 : G (j + 1) = F2 at *
      have H2 := Lib.hid hS2
      obtain ⟨pv, cv, rfl⟩ := hown.out.shape
      generalize hnl : F.length = nl at *
      have HNL := Lib.hid hnl
      have HOW := Lib.hid hown.out
      have HBW := Lib.hid hbw
      have M2 := Lib.hid (M1.out.box #[.int .i64 xk, .int .i64 xa, .int .i64 xm, .slice px nx (cx + nx)] 80)
      have hi1 := hi _ M2.out.below
      have HB2 := Lib.hid ((Below.refl wr.heap.size wr).alloc (Nat.le_refl _) (.cells #[.int .i64 xk, .int .i64 xa, .int .i64 xm, .slice px nx (cx + nx)] 80))
      obtain ⟨t0, t1, -⟩ := box2 (M2.out.boxes 2 _ _ _ rfl)
      obtain ⟨c0, c1, c2, c3, c4, c5, c6, c7, c8⟩ := nine_cells (M2.out.boxes 1 _ _ _ rfl)
      clear HS HV HL HI hi hbw hown hS2 hnl hnx x0' x1' x2' x3' h00
      cases q with
      | true =>
        rw [if_pos rfl, List.append_nil] at hs
        have SE := Lib.hid hs
        clear hs
        go_wp2_with (go_at_call 225; (with_reducible refine hi1.mono ?_); rintro e u2 ⟨rfl, hb2⟩; have B3 := Lib.hid (HB2.out.trans (hb2.mono HB2.out.size)); clear hb2 hi1 t0 t1 c0 c1 c2 c3 c4 c5 c6 c7 c8)
        go_roundw
        case rel => exact ⟨j + 1, by omega, by go_num, by rw [H2.out, SE.out]; exact Lib.hid (HOW.out.on B3.out), HBW.out.trans (B3.out.mono HBW.out.size)⟩
        case measure => simp only [intOf]; omega
      | false =>
        rw [if_neg (by simp)] at hs
        have SE := Lib.hid hs
        clear hs
        go_wp2_with (first
          | (go_at_call 225; (with_reducible refine hi1.mono ?_); rintro e u2 ⟨rfl, hb2⟩; have M3 := Lib.hid (M2.out.on hb2); have B3 := Lib.hid (HB2.out.trans (hb2.mono HB2.out.size)); clear hb2 hi1 t0 t1 c0 c1 c2 c3 c4 c5 c6 c7 c8 x0 x1 x2 x3; obtain ⟨r0, r1, r2, r3, -⟩ := box4 (M3.out.boxes 0 _ _ _ rfl))
          | (at_builtin; refine push_pair rfl (.tmp 24) (.tmp 26) rfl W1 u2 (.slice pv nl cv) rfl F nl HNL.out (HOW.out.on B3.out) (HBW.out.trans (B3.out.mono HBW.out.size)) (Below.refl _ _) u2.heap.size (⟨xk, xa, xm, xo⟩, (px, cx)) nx HNX.out rfl (heap_alloc_new _ _) (by omega) ?_; intro p4 c4 w4 R4 B4; clear r0 r1 r2 r3))
        go_roundw
        case rel => exact ⟨j + 1, by omega, by go_num, by rw [H2.out, SE.out]; exact R4, B4⟩
        case measure => simp only [intOf]; omega
    · obtain rfl : j = m.length := by omega
      have hT := HV.out _ rfl
      rw [← hT] at hown
      obtain ⟨pv, cv, rfl, h1⟩ := hown.out.lay
      have H1 := Lib.hid h1
      have HBW := Lib.hid hbw
      clear HS HV HL HI hT h1 hown hbw
      go_wp2
      go_ret
      exact ⟨pv, cv, rfl, H1.out, M1.out.below⟩
end Go.Proofs.YtbgdlokegibkmaaGreat.Ledger

namespace Go.Proofs.YtbgdlokegibkmaaGreat.Ledger
open Go.RowKit
open _root_.Go.Proofs.YtbgdlokegibkmaaGreat.Frame (Rw Tb noRow LeasesAt cell_on)
open _root_.Go.Proofs.YtbgdlokegibkmaaGreat.Codec (own_below own_lower lt_of_heap frozen_of heap_set)
theorem LeasesIn.to {S S' : Nat → Prop} {w w' : World} {p : Option Addr} {l : List (Int × Int)} (h : LeasesIn S w p l) (hb : Below w.heap.size w w') (hS : ∀ b, S b → S' b) : LeasesIn S' w' p l := h.on (fun b hb _ => hS b hb) fun b _ hlt => hb.block b hlt
/-- Rows that lie where those of L0 lay in w, or are new. -/
def Near (w : World) (p : Option Addr) (L0 L : List Rw) (u : World) (q : Option Addr) : Prop := RowsAt u q L ∧ ∀ S, RowsIn S w p L0 → RowsIn (fun b => S b ∨ w.heap.size ≤ b) u q L
theorem stay_near (w : World) (p : Option Addr) (L0 L : List Rw) : Stay (Near w p L0 L) := stay_far L (fun S => RowsIn S w p L0) (fun S b => S b ∨ w.heap.size ≤ b)
theorem with_tells (w : World) (p : Option Addr) (L0 : List Rw) (m : List Rp) (pm : Option Addr) (c : Nat) (x : Rp) (u : World) (hu : Below w.heap.size w u) (hn : m.length ≤ 1000) (hm : Lay u pm (cellsR m)) (hml : ∀ y ∈ m, LeasesAt u y.2.1 y.1.out) (hfar : ∀ S, RowsIn S w p L0 → ∀ y ∈ m, LeasesIn (fun b => S b ∨ w.heap.size ≤ b) u y.2.1 y.1.out)
    (hx : LeasesAt u x.2.1 x.1.out) (hxf : ∀ S, RowsIn S w p L0 → LeasesIn (fun b => S b ∨ w.heap.size ≤ b) u x.2.1 x.1.out) (hup : Up (m.map (·.1))) :
    Calls Tryz.prog 156 #[.slice pm m.length (c + m.length), rpVal x] u fun e u' => ∃ p' n' c', e = .returned (.slice p' n' (c' + n')) ∧ n' = (setRows (m.map (·.1)) x.1).length ∧ Near w p L0 (setRows (m.map (·.1)) x.1) u' p' ∧ Below u.heap.size u u' := by
  refine (with_any m pm c x u hn (pair_rows hm hml) hm hup).mono ?_
  rintro e u' ⟨g, n, M, rfl, hMn, hM, hin, hg, hr, hb⟩
  refine ⟨some ⟨g, 0, none⟩, n, 0, by rw [Nat.zero_add], by rw [← hM, List.length_map, hMn], ⟨?_, fun S hS => ?_⟩, hb⟩
  · rw [← hM]
    refine pair_rows (.inr ⟨g, 0, rfl, hr⟩) fun y hy => ?_
    rcases hin y hy with rfl | hy
    · exact hx.below hb
    · exact (hml y hy).below hb
  · rw [← hM]
    refine pair_rowsin hr (.inr (Nat.le_trans hu.size hg)) fun y hy => ?_
    rcases hin y hy with rfl | hy
    · exact (hxf S hS).to hb fun b h => h
    · exact (hfar S hS y hy).to hb fun b h => h
/-- Where a table's box is set. -/
theorem cell_set2 {u : World} {b o g : Nat} {v0 v1 z : Value} (hne : b ≠ g) (h : u.cell? ⟨b, o, none⟩ = some z) : ((u.setCell ⟨g, 0, none⟩ v0).setCell ⟨g, 1, none⟩ v1).cell? ⟨b, o, none⟩ = some z := by
  rw [World.cell?_setCell_other _ _ _ _ (by intro e; simp only [Addr.mk.injEq] at e; exact hne e.1.symm), World.cell?_setCell_other _ _ _ _ (by intro e; simp only [Addr.mk.injEq] at e; exact hne e.1.symm)]
  exact h
set_option maxRecDepth 100000 in
set_option maxHeartbeats 4000000 in
theorem pmint_core (start key now : Int) (p : Option Addr) (nm c : Nat) (n sk tl va lo he ke qu : Int) (pf : Option Addr) (nz cf : Nat) (w : World) (R B : Int) (q : Bool) (rk ra rm : Int) (px : Option Addr) (nx cx : Nat) (at_ : Nat) (X : World → Option Addr → Prop) (hX : Stay X) (NT ns : Nat) (er : Int) (hnm : nm ≤ 1000) (_ : ns ≤ 1000)
    (hrate : ∀ u, Below w.heap.size w u → Calls Tryz.prog 83 #[.agg #[.int .i64 n, .int .i64 sk, .int .i64 tl, .int .i64 va, .int .i64 lo, .int .i64 he, .int .i64 ke, .int .i64 qu, .slice pf nz cf], .int .i64 key] u fun e u' => e = .returned (.tuple #[.agg #[.int .i64 R, .int .i64 B], .bool q]) ∧ Below u.heap.size u u')
    (hlook : ∀ u, Below w.heap.size w u → Calls Tryz.prog 188 #[.agg #[.int .i64 start, .slice p nm (c + nm)], .int .i64 key, .int .i64 now, .agg #[.int .i64 R, .int .i64 B]] u fun e u' => e = .returned (.agg #[.int .i64 rk, .int .i64 ra, .int .i64 rm, .slice px nx (cx + nx)]) ∧ Below u.heap.size u u')
    (hat : ∀ u, Below w.heap.size w u → Calls Tryz.prog 189 #[.slice p nm (c + nm), .int .i64 key] u fun e u' => e = .returned (.int .i64 (at_ : Int)) ∧ u' = u) (hat1 : at_ ≤ nm)
    (hbusy : q = true → at_ = nm → ke ≤ nm → ∀ u, Below w.heap.size w u → Calls Tryz.prog 190 #[.agg #[.int .i64 start, .slice p nm (c + nm)], .int .i64 now, .agg #[.int .i64 n, .int .i64 sk, .int .i64 tl, .int .i64 va, .int .i64 lo, .int .i64 he, .int .i64 ke, .int .i64 qu, .slice pf nz cf]] u fun e u' => ∃ p' c', e = .returned (.slice p' ns (c' + ns)) ∧ (ns < ke → ∀ v, Below u'.heap.size u' v → Calls Tryz.prog 156 #[.slice p' ns (c' + ns), .agg #[.int .i64 rk, .int .i64 ra, .int .i64 rm, .slice px nx (cx + nx)]] v fun e v' => ∃ p' c', e = .returned (.slice p' NT (c' + NT)) ∧ X v' p' ∧ Below v.heap.size v v') ∧ Below u.heap.size u u')
    (hwith : q = true → (at_ < nm ∨ (nm : Int) < ke) → ∀ u, Below w.heap.size w u → Calls Tryz.prog 156 #[.slice p nm (c + nm), .agg #[.int .i64 rk, .int .i64 ra, .int .i64 rm, .slice px nx (cx + nx)]] u fun e u' => ∃ p' c', e = .returned (.slice p' NT (c' + NT)) ∧ X u' p' ∧ Below u.heap.size u u')
    (hsame : (q = false ∨ q = true ∧ at_ = nm ∧ ke ≤ nm ∧ ke ≤ ns) → NT = nm ∧ X w p)
    (her : (q = false ∧ er = 4) ∨ (q = true ∧ (at_ < nm ∨ (nm : Int) < ke) ∧ er = 0) ∨ (q = true ∧ at_ = nm ∧ ke ≤ nm ∧ ke ≤ ns ∧ er = 3) ∨ (q = true ∧ at_ = nm ∧ ke ≤ nm ∧ (ns : Int) < ke ∧ er = 0)) :
    Calls Tryz.prog 150 #[.agg #[.int .i64 start, .slice p nm (c + nm)], .int .i64 key, .int .i64 now, .agg #[.int .i64 n, .int .i64 sk, .int .i64 tl, .int .i64 va, .int .i64 lo, .int .i64 he, .int .i64 ke, .int .i64 qu, .slice pf nz cf]] w fun e w' => ∃ p' c', e = .returned (.tuple #[.agg #[.int .i64 start, .slice p' NT (c' + NT)], .int .i64 er]) ∧ X w' p' ∧ Below w.heap.size w w' := by
  have M0 := Lib.hid ((((Mem.start w).box #[.int .i64 start, .slice p nm (c + nm)] 28).box #[.int .i64 n, .int .i64 sk, .int .i64 tl, .int .i64 va, .int .i64 lo, .int .i64 he, .int .i64 ke, .int .i64 qu, .slice pf nz cf] 24).box #[.int .i64 0, .slice none 0 0] 28)
  simp only [size_alloc] at M0
  have hr1 := hrate _ M0.out.below
  obtain ⟨t0, t1, -⟩ := box2 (M0.out.boxes 2 _ _ _ rfl)
  obtain ⟨c0, c1, c2, c3, c4, c5, c6, c7, c8⟩ := nine_cells (M0.out.boxes 1 _ _ _ rfl)
  clear hrate
  rcases her with ⟨rfl, rfl⟩ | ⟨rfl, hk, rfl⟩ | ⟨rfl, hk1, hk2, hk3, rfl⟩ | ⟨rfl, hk1, hk2, hk3, rfl⟩
  · obtain ⟨rfl, hx⟩ := hsame (.inl rfl)
    have HX := Lib.hid hx
    clear hsame hx hwith hbusy hat hlook
    go_enter Tryz.func150, Tryz.ntmps150
    go_wp2_with (go_at_call 83; (with_reducible refine hr1.mono ?_); rintro e u1 ⟨rfl, hb⟩; have M1 := Lib.hid ((M0.out.on hb).box #[.int .i64 R, .int .i64 B] 77); clear hb t0 t1 c0 c1 c2 c3 c4 c5 c6 c7 c8 hr1; obtain ⟨t0, t1, -⟩ := box2 (M1.out.boxes 3 _ _ _ rfl); obtain ⟨d0, d1, ff⟩ := box2 (M1.out.boxes 1 _ _ _ rfl); have f0 := ff 0; have f1 := ff 1; clear ff)
    refine bodyPost_ret (v := .tuple #[.agg #[.int .i64 start, .slice p NT (c + NT)], .int .i64 4]) (by simp [results, Tryz.results150, go_sem, d0, d1]) rfl ?_
    exact tells_atX hX _ (by omega) (M1.out.boxes 1 _ _ _ rfl) (hX.on HX.out M1.out.below) M1.out.below (fun v => .tuple #[v, .int .i64 4])
  · have hw := hwith rfl hk
    clear hsame hwith hbusy
    go_enter Tryz.func150, Tryz.ntmps150
    go_wp2_with (first
      | (go_at_call 83; (with_reducible refine hr1.mono ?_); rintro e u1 ⟨rfl, hb⟩; have M1 := Lib.hid ((M0.out.on hb).box #[.int .i64 R, .int .i64 B] 77); clear hb t0 t1 c0 c1 c2 c3 c4 c5 c6 c7 c8 hr1; obtain ⟨t0, t1, -⟩ := box2 (M1.out.boxes 3 _ _ _ rfl); obtain ⟨z0, z1, -⟩ := box2 (M1.out.boxes 0 _ _ _ rfl))
      | (go_at_call 188; (with_reducible refine (hlook _ M1.out.below).mono ?_); rintro e u2 ⟨rfl, hb⟩; have hlt := lt_of_heap ((M1.out.on hb).boxes 1 _ _ _ rfl); have M2 := Lib.hid ((M1.out.on hb).box #[.int .i64 rk, .int .i64 ra, .int .i64 rm, .slice px nx (cx + nx)] 80); clear hb t0 t1 z0 z1 hlook; obtain ⟨t0, t1, -⟩ := box2 (M2.out.boxes 4 _ _ _ rfl); obtain ⟨c0, c1, c2, c3, c4, c5, c6, c7, c8⟩ := nine_cells (M2.out.boxes 3 _ _ _ rfl); obtain ⟨r0, r1, r2, r3, -⟩ := box4 (M2.out.boxes 0 _ _ _ rfl))
      | (go_at_call 189; (with_reducible refine (hat _ M2.out.below).mono ?_); rintro e u3 ⟨rfl, rfl⟩))
    all_goals
      have MD := Lib.hid M2.out.drew
      go_region_held3 (fun u => u.cell? ⟨w.heap.size, 0, none⟩ = some (.int .i64 start) ∧ u.cell? ⟨u2.heap.size, 0, none⟩ = some (.int .i64 rk) ∧ u.cell? ⟨u2.heap.size, 1, none⟩ = some (.int .i64 ra) ∧ u.cell? ⟨u2.heap.size, 2, none⟩ = some (.int .i64 rm) ∧ u.cell? ⟨u2.heap.size, 3, none⟩ = some (.slice px nx (cx + nx))) (first | assumption | exact SN.out | exact ⟨t0, r0, r1, r2, r3⟩ | exact ⟨cell_set2 (by omega) SN.out.1, cell_set2 (by omega) SN.out.2.1, cell_set2 (by omega) SN.out.2.2.1, cell_set2 (by omega) SN.out.2.2.2.1, cell_set2 (by omega) SN.out.2.2.2.2⟩) (first
        | (go_at_call 156; (with_reducible refine (hw _ MD.out.below).mono ?_); rintro e u9 ⟨p9, c9, rfl, hx9, hb9⟩; have M9 := Lib.hid (MD.out.on hb9); have HX9 := Lib.hid hx9; have SN := Lib.hid (And.intro (box2 (M9.out.boxes 4 _ _ _ rfl)).1 (And.intro (box4 (M9.out.boxes 0 _ _ _ rfl)).1 (And.intro (box4 (M9.out.boxes 0 _ _ _ rfl)).2.1 (And.intro (box4 (M9.out.boxes 0 _ _ _ rfl)).2.2.1 (box4 (M9.out.boxes 0 _ _ _ rfl)).2.2.2.1)))); obtain ⟨d0, d1, ff⟩ := box2 (M9.out.boxes 2 _ _ _ rfl); have f0 := ff 0; have f1 := ff 1; clear ff hx9 hb9))
      all_goals
        go_wp2
        refine bodyPost_ret (v := .tuple #[.agg #[.int .i64 start, .slice p9 NT (c9 + NT)], .int .i64 0]) (by simp [results, Tryz.results150, go_sem, d0, d1]) rfl ?_
        exact tells_atX hX _ (by omega) (M9.out.boxes 2 _ _ _ rfl) HX9.out M9.out.below (fun v => .tuple #[v, .int .i64 0])
  · obtain ⟨rfl, hx⟩ := hsame (.inr ⟨rfl, hk1, hk2, hk3⟩)
    have HX := Lib.hid hx
    have hk1' : (at_ : Int) = (NT : Int) := by omega
    have hbz := hbusy rfl hk1 hk2
    clear hsame hx hwith hk1 hbusy
    go_enter Tryz.func150, Tryz.ntmps150
    go_wp2_with (first
      | (go_at_call 83; (with_reducible refine hr1.mono ?_); rintro e u1 ⟨rfl, hb⟩; have M1 := Lib.hid ((M0.out.on hb).box #[.int .i64 R, .int .i64 B] 77); clear hb t0 t1 c0 c1 c2 c3 c4 c5 c6 c7 c8 hr1; obtain ⟨t0, t1, -⟩ := box2 (M1.out.boxes 3 _ _ _ rfl); obtain ⟨z0, z1, -⟩ := box2 (M1.out.boxes 0 _ _ _ rfl))
      | (go_at_call 188; (with_reducible refine (hlook _ M1.out.below).mono ?_); rintro e u2 ⟨rfl, hb⟩; have hlt := lt_of_heap ((M1.out.on hb).boxes 1 _ _ _ rfl); have M2 := Lib.hid ((M1.out.on hb).box #[.int .i64 rk, .int .i64 ra, .int .i64 rm, .slice px nx (cx + nx)] 80); clear hb t0 t1 z0 z1 hlook; obtain ⟨t0, t1, -⟩ := box2 (M2.out.boxes 4 _ _ _ rfl); obtain ⟨c0, c1, c2, c3, c4, c5, c6, c7, c8⟩ := nine_cells (M2.out.boxes 3 _ _ _ rfl); obtain ⟨r0, r1, r2, r3, -⟩ := box4 (M2.out.boxes 0 _ _ _ rfl))
      | (go_at_call 189; (with_reducible refine (hat _ M2.out.below).mono ?_); rintro e u3 ⟨rfl, rfl⟩)
      | (go_at_call 190; (with_reducible refine (hbz _ M2.out.below).mono ?_); rintro e u4 ⟨p4, k4, rfl, hw4, hb⟩; have M4 := Lib.hid (M2.out.on hb); have HW4 := Lib.hid hw4; clear hb hw4 hbz t0 t1 c0 c1 c2 c3 c4 c5 c6 c7 c8 r0 r1 r2 r3; obtain ⟨t0, t1, -⟩ := box2 (M4.out.boxes 4 _ _ _ rfl); obtain ⟨c0, c1, c2, c3, c4, c5, c6, c7, c8⟩ := nine_cells (M4.out.boxes 3 _ _ _ rfl); obtain ⟨r0, r1, r2, r3, -⟩ := box4 (M4.out.boxes 0 _ _ _ rfl); obtain ⟨d0, d1, ff⟩ := box2 (M4.out.boxes 2 _ _ _ rfl); have f0 := ff 0; have f1 := ff 1; clear ff))
    refine bodyPost_ret (v := .tuple #[.agg #[.int .i64 start, .slice p NT (c + NT)], .int .i64 3]) (by simp [results, Tryz.results150, go_sem, d0, d1]) rfl ?_
    exact tells_atX hX _ (by omega) (M4.out.boxes 2 _ _ _ rfl) (hX.on HX.out M4.out.below) M4.out.below (fun v => .tuple #[v, .int .i64 3])
  · have hk1' : (at_ : Int) = (nm : Int) := by omega
    have hbz := hbusy rfl hk1 hk2
    have HK := Lib.hid (show ns < ke from hk3)
    clear hsame hwith hk1 hbusy
    go_enter Tryz.func150, Tryz.ntmps150
    go_wp2_with (first
      | (go_at_call 83; (with_reducible refine hr1.mono ?_); rintro e u1 ⟨rfl, hb⟩; have M1 := Lib.hid ((M0.out.on hb).box #[.int .i64 R, .int .i64 B] 77); clear hb t0 t1 c0 c1 c2 c3 c4 c5 c6 c7 c8 hr1; obtain ⟨t0, t1, -⟩ := box2 (M1.out.boxes 3 _ _ _ rfl); obtain ⟨z0, z1, -⟩ := box2 (M1.out.boxes 0 _ _ _ rfl))
      | (go_at_call 188; (with_reducible refine (hlook _ M1.out.below).mono ?_); rintro e u2 ⟨rfl, hb⟩; have hlt := lt_of_heap ((M1.out.on hb).boxes 1 _ _ _ rfl); have M2 := Lib.hid ((M1.out.on hb).box #[.int .i64 rk, .int .i64 ra, .int .i64 rm, .slice px nx (cx + nx)] 80); clear hb t0 t1 z0 z1 hlook; obtain ⟨t0, t1, -⟩ := box2 (M2.out.boxes 4 _ _ _ rfl); obtain ⟨c0, c1, c2, c3, c4, c5, c6, c7, c8⟩ := nine_cells (M2.out.boxes 3 _ _ _ rfl); obtain ⟨r0, r1, r2, r3, -⟩ := box4 (M2.out.boxes 0 _ _ _ rfl))
      | (go_at_call 189; (with_reducible refine (hat _ M2.out.below).mono ?_); rintro e u3 ⟨rfl, rfl⟩)
      | (go_at_call 190; (with_reducible refine (hbz _ M2.out.below).mono ?_); rintro e u4 ⟨p4, k4, rfl, hw4, hb⟩; have M4 := Lib.hid (M2.out.on hb); have HW4 := Lib.hid hw4; clear hb hw4 hbz t0 t1 c0 c1 c2 c3 c4 c5 c6 c7 c8 r0 r1 r2 r3; obtain ⟨t0, t1, -⟩ := box2 (M4.out.boxes 4 _ _ _ rfl); obtain ⟨c0, c1, c2, c3, c4, c5, c6, c7, c8⟩ := nine_cells (M4.out.boxes 3 _ _ _ rfl); obtain ⟨r0, r1, r2, r3, -⟩ := box4 (M4.out.boxes 0 _ _ _ rfl); obtain ⟨d0, d1, ff⟩ := box2 (M4.out.boxes 2 _ _ _ rfl); have f0 := ff 0; have f1 := ff 1; clear ff))
    clear d0 d1 f0 f1
    have MD := Lib.hid M4.out.drew
    have HW5 := Lib.hid (HW4.out HK.out)
    go_region_held3 (fun u => u.cell? ⟨w.heap.size, 0, none⟩ = some (.int .i64 start) ∧ u.cell? ⟨u2.heap.size, 0, none⟩ = some (.int .i64 rk) ∧ u.cell? ⟨u2.heap.size, 1, none⟩ = some (.int .i64 ra) ∧ u.cell? ⟨u2.heap.size, 2, none⟩ = some (.int .i64 rm) ∧ u.cell? ⟨u2.heap.size, 3, none⟩ = some (.slice px nx (cx + nx))) (first | assumption | exact SN.out | exact ⟨t0, r0, r1, r2, r3⟩ | exact ⟨cell_set2 (by omega) SN.out.1, cell_set2 (by omega) SN.out.2.1, cell_set2 (by omega) SN.out.2.2.1, cell_set2 (by omega) SN.out.2.2.2.1, cell_set2 (by omega) SN.out.2.2.2.2⟩) (first
      | (go_at_call 156; (with_reducible refine (HW5.out _ (Below.refl _ _).drew).mono ?_); rintro e u9 ⟨p9, c9, rfl, hx9, hb9⟩; have M9 := Lib.hid (MD.out.on hb9); have HX9 := Lib.hid hx9; have SN := Lib.hid (And.intro (box2 (M9.out.boxes 4 _ _ _ rfl)).1 (And.intro (box4 (M9.out.boxes 0 _ _ _ rfl)).1 (And.intro (box4 (M9.out.boxes 0 _ _ _ rfl)).2.1 (And.intro (box4 (M9.out.boxes 0 _ _ _ rfl)).2.2.1 (box4 (M9.out.boxes 0 _ _ _ rfl)).2.2.2.1)))); obtain ⟨d0, d1, ff⟩ := box2 (M9.out.boxes 2 _ _ _ rfl); have f0 := ff 0; have f1 := ff 1; clear ff hx9 hb9))
    all_goals
      go_wp2
      refine bodyPost_ret (v := .tuple #[.agg #[.int .i64 start, .slice p9 NT (c9 + NT)], .int .i64 0]) (by simp [results, Tryz.results150, go_sem, d0, d1]) rfl ?_
      exact tells_atX hX _ (by omega) (M9.out.boxes 2 _ _ _ rfl) HX9.out M9.out.below (fun v => .tuple #[v, .int .i64 0])
theorem place_pat (l : List Rw) (key : Int) : (place l key < 0 ∧ pat l key = l.length) ∨ (0 ≤ place l key ∧ pat l key < l.length) := by
  rcases pat_cases l key with ⟨h1, h2, -⟩ | ⟨j, h1, h2, h3, -⟩
  · exact .inl ⟨by omega, h2⟩
  · exact .inr ⟨by omega, by omega⟩
theorem find_swept {t : Tb} {key : Int} (h : place t.rows key < 0) (now : Int) (f : Cf) : findRow (sweep t now f) key = findRow t key := by
  have h1 : place (sweep t now f).rows key = -1 := by
    refine spot_none _ noRow _ fun j hj => ?_
    have hm : (sweep t now f).rows.getD j noRow ∈ (sweep t now f).rows := by simp [List.getD, hj]
    have hm2 := sweep_mem hm
    generalize (sweep t now f).rows.getD j noRow = y at *
    obtain ⟨k, hk, e⟩ := List.mem_iff_getElem.1 hm2
    rcases spot_cases (fun r : Rw => r.key == key) noRow t.rows with ⟨-, h3⟩ | ⟨i, h3, -⟩
    · have := h3 k hk
      simpa [List.getD, hk, e] using this
    · unfold place at h; omega
  unfold findRow
  rw [h1, if_pos (by omega), if_pos h]
  rfl
theorem pmint_rise {n : Nat} {t : Tb} (p : Option Addr) (c : Nat) (key now : Int) (f : Cf) (pf : Option Addr) (cf : Nat) (w : World) (h : Rise n t) (hn : n ≤ 61) (hr : RowsAt w p t.rows) (hz : RatesAt w pf f.rates) :
    Calls Tryz.prog 150 #[tabVal t p c, .int .i64 key, .int .i64 now, cfVal f pf cf] w (TellsTabFar w p t (mint t key now f).1 (fun v => .tuple #[v, .int .i64 (mint t key now f).2])) := by
  obtain ⟨hl, ho⟩ := base_len h.base hn
  obtain ⟨m, hm, hlay, hml, hfar⟩ := rows_pair hr
  have hlen : t.rows.length = m.length := by rw [← hm]; simp
  have hmo : ∀ x ∈ m, LeasesAt w x.2.1 x.1.out ∧ x.1.out.length ≤ 1000 := fun x hx => ⟨hml x hx, ho x.1 (by rw [← hm]; exact List.mem_map_of_mem hx)⟩
  have hr' : RowsAt w p (m.map (·.1)) := by rw [hm]; exact hr
  have hup : Up (m.map (·.1)) := by rw [hm]; exact h.up
  have hmf : ∀ S, RowsIn S w p t.rows → ∀ y ∈ m, LeasesIn (fun b => S b ∨ w.heap.size ≤ b) w y.2.1 y.1.out := fun S hS y hy => (hfar S hS y hy).to (Below.refl _ _) fun b hb => .inl hb
  have hxl : ∀ R B, LeasesAt w (lookP t.start m key now R B).2.1 (lookP t.start m key now R B).1.out := fun R B => by
    show LeasesAt w (foundP t.start m key).2.1 (foundP t.start m key).1.out
    rcases foundP_in t.start m key with e | e
    · rw [e]; exact .inl rfl
    · exact hml _ e
  have hxf : ∀ R B S, RowsIn S w p t.rows → LeasesIn (fun b => S b ∨ w.heap.size ≤ b) w (lookP t.start m key now R B).2.1 (lookP t.start m key now R B).1.out := fun R B S hS => by
    show LeasesIn _ w (foundP t.start m key).2.1 (foundP t.start m key).1.out
    rcases foundP_in t.start m key with e | e
    · rw [e]; exact .inl rfl
    · exact hmf S hS _ e
  have hlook : ∀ R B, (lookP t.start m key now R B).1 = look t key now R B := fun R B => by
    show minted (foundP t.start m key).1 now R B = minted (findRow t key) now R B
    rw [foundP_row t m key hm]
  have hpl := place_pat t.rows key
  have hat := fun u (hb : Below w.heap.size w u) => pat_any t.rows p (c + t.rows.length) key u (hr.below hb) hl
  rw [hlen] at hat hpl
  have hsl : (sweepP t.start now f m).length = (sweep t now f).rows.length := by
    show _ = (sweepOf t.start now f t.rows).length
    rw [← hm, ← sweepP_row]; simp
  have hsl2 := sweep_len t now f
  have hsame : Near w p t.rows t.rows w p := ⟨hr, fun S hS => hS.on (fun b hb _ => .inl hb) fun b _ _ => rfl⟩
  have core := fun (R B : Int) (q : Bool) (NT : Nat) (er : Int) (L : List Rw) => pmint_core t.start key now p m.length c f.n f.skew f.ttl f.valid f.loss f.hear f.keys f.queue pf f.rates.length cf w R B q (lookP t.start m key now R B).1.key (lookP t.start m key now R B).1.avail (lookP t.start m key now R B).1.mark (lookP t.start m key now R B).2.1 (lookP t.start m key now R B).1.out.length (lookP t.start m key now R B).2.2 (pat t.rows key) (Near w p t.rows L) (stay_near w p t.rows L) NT (sweepP t.start now f m).length er (by omega) (by omega)
  have hrate := fun u (hb : Below w.heap.size w u) => prate_any f pf cf key u (hz.below hb)
  have hlk := fun R B u (hb : Below w.heap.size w u) => plook_any t.start m p c key now R B u (by omega) (hr'.below hb) (hlay.on hb) (fun x hx => ⟨(hmo x hx).1.below hb, (hmo x hx).2⟩)
  have tv : tabVal t p c = .agg #[.int .i64 t.start, .slice p m.length (c + m.length)] := by unfold tabVal; rw [hlen]
  rw [tv]
  by_cases h1 : rateAt f.rates key < 0
  · have e : mint t key now f = (t, 4) := by unfold mint; rw [if_pos h1]
    rw [e]
    rw [show (if 0 ≤ rateAt f.rates key then (rateOf f key).1 else 0) = 0 from if_neg (by omega), show (if 0 ≤ rateAt f.rates key then (rateOf f key).2 else 0) = 0 from if_neg (by omega), decide_eq_false (show ¬ 0 ≤ rateAt f.rates key by omega)] at hrate
    refine (core 0 0 false t.rows.length 4 t.rows hrate (hlk 0 0) hat (by omega) (fun h => by cases h) (fun h => by cases h) (fun _ => ⟨hlen, hsame⟩) (.inl ⟨rfl, rfl⟩)).mono ?_
    rintro e w' ⟨p', c', rfl, hx, hb⟩
    exact ⟨p', c', rfl, hx, hb⟩
  · rw [if_pos (show 0 ≤ rateAt f.rates key by omega), if_pos (show 0 ≤ rateAt f.rates key by omega), decide_eq_true (show 0 ≤ rateAt f.rates key by omega)] at hrate
    have hlk := hlk (rateOf f key).1 (rateOf f key).2
    have hlook := hlook (rateOf f key).1 (rateOf f key).2
    have hxl := hxl (rateOf f key).1 (rateOf f key).2
    have hxf := hxf (rateOf f key).1 (rateOf f key).2
    have core := core (rateOf f key).1 (rateOf f key).2
    generalize lookP t.start m key now (rateOf f key).1 (rateOf f key).2 = x at *
    by_cases h2 : 0 ≤ place t.rows key ∨ (t.rows.length : Int) < f.keys
    · have e : mint t key now f = (setRow t x.1, 0) := by unfold mint; rw [if_neg h1, if_pos h2, hlook]
      rw [e]
      refine (core true (setRow t x.1).rows.length 0 (setRow t x.1).rows hrate hlk hat (by omega) (fun _ ha hk => by omega) (fun _ _ u hb => ?_) (fun h => by
        rcases h with h | ⟨-, ha, hk, -⟩
        · cases h
        · omega) (.inr (.inl ⟨rfl, by omega, rfl⟩))).mono ?_
      · refine (with_tells w p t.rows m p c x u hb (by omega) (hlay.on hb) (fun y hy => (hml y hy).below hb) (fun S hS y hy => (hmf S hS y hy).to hb fun b h => h) (hxl.below hb) (fun S hS => (hxf S hS).to hb fun b h => h) hup).mono ?_
        rintro e u' ⟨p', n', c', rfl, hn', hx', hb'⟩
        rw [hm] at hn' hx'
        subst hn'
        exact ⟨p', c', rfl, hx', hb'⟩
      · rintro e w' ⟨p', c', rfl, hx, hb⟩
        exact ⟨p', c', rfl, hx, hb⟩
    · have hat2 : pat t.rows key = m.length := by omega
      by_cases h3 : f.keys ≤ ((sweep t now f).rows.length : Int)
      · have e : mint t key now f = (t, 3) := by unfold mint; rw [if_neg h1, if_neg h2, if_pos h3]
        rw [e]
        refine (core true t.rows.length 3 t.rows hrate hlk hat (by omega) (fun _ _ _ u hb => ?_) (fun _ h => by omega) (fun _ => ⟨hlen, hsame⟩) (.inr (.inr (.inl ⟨rfl, hat2, by omega, by omega, rfl⟩)))).mono ?_
        · refine (busy_any t.start m p c now f pf cf u (by omega) (hlay.on hb) (hz.below hb)).mono ?_
          rintro e u' ⟨p', c', rfl, -, hb'⟩
          exact ⟨p', c', rfl, fun h => by omega, hb'⟩
        · rintro e w' ⟨p', c', rfl, hx, hb⟩
          exact ⟨p', c', rfl, hx, hb⟩
      · have hfs : look (sweep t now f) key now (rateOf f key).1 (rateOf f key).2 = x.1 := by
          rw [hlook]
          unfold look
          rw [find_swept (by omega)]
        have e : mint t key now f = (setRow (sweep t now f) x.1, 0) := by unfold mint; rw [if_neg h1, if_neg h2, if_neg h3, hfs]
        rw [e]
        refine (core true (setRow (sweep t now f) x.1).rows.length 0 (setRow (sweep t now f) x.1).rows hrate hlk hat (by omega) (fun _ _ _ u hb => ?_) (fun _ h => by omega) (fun h => by
          rcases h with h | ⟨-, -, -, hk⟩
          · cases h
          · omega) (.inr (.inr (.inr ⟨rfl, hat2, by omega, by omega, rfl⟩)))).mono ?_
        · refine (busy_any t.start m p c now f pf cf u (by omega) (hlay.on hb) (hz.below hb)).mono ?_
          rintro e u' ⟨p4, c4, rfl, hl4, hb4⟩
          have hbu := hb.trans (hb4.mono hb.size)
          refine ⟨p4, c4, rfl, fun _ v hv => ?_, hb4⟩
          have hbv := hbu.trans (hv.mono hbu.size)
          have hin : ∀ y ∈ sweepP t.start now f m, y ∈ m := fun y hy => (List.mem_filter.1 hy).1
          have hrows : (sweepP t.start now f m).map (·.1) = (sweep t now f).rows := by rw [sweepP_row, hm]; rfl
          refine (with_tells w p t.rows (sweepP t.start now f m) p4 c4 x v hbv (by omega) (hl4.on hv) (fun y hy => (hml y (hin y hy)).below hbv) (fun S hS y hy => (hmf S hS y (hin y hy)).to hbv fun b h => h) (hxl.below hbv) (fun S hS => (hxf S hS).to hbv fun b h => h) (by rw [hrows]; exact (rise_sweep h now f).up)).mono ?_
          rintro e v' ⟨p', n', c', rfl, hn', hx', hb'⟩
          rw [hrows] at hn' hx'
          subst hn'
          exact ⟨p', c', rfl, hx', hb'⟩
        · rintro e w' ⟨p', c', rfl, hx, hb⟩
          exact ⟨p', c', rfl, hx, hb⟩
end Go.Proofs.YtbgdlokegibkmaaGreat.Ledger

namespace Go.Proofs.YtbgdlokegibkmaaGreat.Ledger
open Go.RowKit
open _root_.Go.Proofs.YtbgdlokegibkmaaGreat.Frame (Rw Tb noRow LeasesAt cell_on)
open _root_.Go.Proofs.YtbgdlokegibkmaaGreat.Codec (own_below own_lower lt_of_heap frozen_of heap_set)
open _root_.Go.Proofs.YtbgdlokegibkmaaGreat.Sat (fit add sub mul fit_lo fit_hi fit_self fit_any sub_any mul_any add2 add_lo add_hi)
/-- The newest box is turned. -/
theorem Mem.setHead {w u : World} {g : Nat} {vs : Array Value} {T : TypeId} {bs : List (Nat × Array Value × TypeId)} (h : Mem w ((g, vs, T) :: bs) [] [] u) (hg : w.heap.size ≤ g) (hd : ∀ x ∈ bs, x.1 ≠ g) (i : Nat) (v : Value) : Mem w ((g, vs.setIfInBounds i v, T) :: bs) [] [] (u.setCell ⟨g, i, none⟩ v) := by
  have h1 := h.boxes 0 _ _ _ rfl
  refine ⟨fun j g' vs' T' e => ?_, fun i p l h => by simp at h, fun i p l h => by simp at h, h.below.setCell hg _⟩
  cases j with
  | zero =>
    simp only [List.getElem?_cons_zero, Option.some.injEq, Prod.mk.injEq] at e
    obtain ⟨rfl, rfl, rfl⟩ := e
    rw [heap_set _ i _ _ h1]
  | succ j =>
    have e' : bs[j]? = some (g', vs', T') := by simpa using e
    have hne : g' ≠ g := hd _ (List.mem_of_getElem? e')
    exact (Below.heap_setCell _ _ _ _ hne).trans (h.boxes (j + 1) g' vs' T' e)
theorem Mem.tail {w u : World} {x : Nat × Array Value × TypeId} {bs : List (Nat × Array Value × TypeId)} {rs : List (Option Addr × List Rw)} {ls : List (Option Addr × List (Int × Int))} (h : Mem w (x :: bs) rs ls u) : Mem w bs rs ls u := ⟨fun i g vs T e => h.boxes (i + 1) g vs T (by simpa using e), h.rows, h.leases, h.below⟩
set_option maxRecDepth 100000 in
set_option maxHeartbeats 4000000 in
theorem psettle_core (start key node spent : Int) (p : Option Addr) (nm c : Nat) (w : World) (fk fa fm : Int) (px : Option Addr) (nx cx : Nat) (fd q : Bool) (a told bk av : Int) (X : World → Option Addr → Prop) (hX : Stay X) (NT nx2 : Nat) (tl : Int) (ha : 0 ≤ a ∧ a ≤ 9223372036854775807) (hsp : -9223372036854775808 ≤ spent ∧ spent ≤ 9223372036854775807)
    (hfind : ∀ u, Below w.heap.size w u → Calls Tryz.prog 153 #[.agg #[.int .i64 start, .slice p nm (c + nm)], .int .i64 key] u fun e u' => e = .returned (.tuple #[.agg #[.int .i64 fk, .int .i64 fa, .int .i64 fm, .slice px nx (cx + nx)], .bool fd]) ∧ Below u.heap.size u u')
    (hlent : ∀ u, Below w.heap.size w u → Calls Tryz.prog 147 #[.agg #[.int .i64 fk, .int .i64 fa, .int .i64 fm, .slice px nx (cx + nx)], .int .i64 node] u fun e u' => e = .returned (.tuple #[.int .i64 a, .bool q]) ∧ Below u.heap.size u u')
    (hoth : q = true → ∀ u, Below w.heap.size w u → Calls Tryz.prog 155 #[.slice px nx (cx + nx), .int .i64 node] u fun e u' => ∃ p' c', e = .returned (.slice p' nx2 (c' + nx2)) ∧ (∀ v, Below w.heap.size w v → (∀ b, u.heap.size ≤ b → v.heap[b]? = u'.heap[b]?) → Calls Tryz.prog 156 #[.slice p nm (c + nm), .agg #[.int .i64 fk, .int .i64 av, .int .i64 fm, .slice p' nx2 (c' + nx2)]] v fun e v' => ∃ p' c', e = .returned (.slice p' NT (c' + NT)) ∧ X v' p' ∧ Below v.heap.size v v') ∧ Below u.heap.size u u')
    (hsame : q = false → NT = nm ∧ X w p ∧ tl = 0) (htold : q = true → tl = told ∧ told = (if 0 ≤ spent then min spent a else a) ∧ bk = sub a told ∧ av = add [fa, bk]) :
    Calls Tryz.prog 105 #[.agg #[.int .i64 start, .slice p nm (c + nm)], .int .i64 key, .int .i64 node, .int .i64 spent] w fun e w' => ∃ p' c', e = .returned (.tuple #[.agg #[.int .i64 start, .slice p' NT (c' + NT)], .int .i64 tl]) ∧ X w' p' ∧ Below w.heap.size w w' := by
  have M0 := Lib.hid (((Mem.start w).box #[.int .i64 start, .slice p nm (c + nm)] 28).box #[.int .i64 0, .slice none 0 0] 28)
  simp only [size_alloc] at M0
  have hf1 := hfind _ M0.out.below
  obtain ⟨t0, t1, -⟩ := box2 (M0.out.boxes 1 _ _ _ rfl)
  clear hfind
  cases q with
  | false =>
    obtain ⟨rfl, hx, rfl⟩ := hsame rfl
    have HX := Lib.hid hx
    clear hsame hx hoth htold
    go_enter Tryz.func105, Tryz.ntmps105
    go_wp2_with (first
      | (go_at_call 153; (with_reducible refine hf1.mono ?_); rintro e u1 ⟨rfl, hb⟩; have M1 := Lib.hid ((M0.out.on hb).box #[.int .i64 fk, .int .i64 fa, .int .i64 fm, .slice px nx (cx + nx)] 80); clear hb t0 t1 hf1; obtain ⟨r0, r1, r2, r3, -⟩ := box4 (M1.out.boxes 0 _ _ _ rfl))
      | (go_at_call 147; (with_reducible refine (hlent _ M1.out.below).mono ?_); rintro e u2 ⟨rfl, hb⟩; have M2 := Lib.hid (M1.out.on hb); clear hb hlent r0 r1 r2 r3; obtain ⟨t0, t1, -⟩ := box2 (M2.out.boxes 2 _ _ _ rfl); obtain ⟨d0, d1, ff⟩ := box2 (M2.out.boxes 1 _ _ _ rfl); have f0 := ff 0; have f1 := ff 1; clear ff))
    refine bodyPost_ret (v := .tuple #[.agg #[.int .i64 start, .slice p NT (c + NT)], .int .i64 0]) (by simp [results, Tryz.results105, go_sem, d0, d1]) rfl ?_
    exact tells_atX hX _ (by omega) (M2.out.boxes 1 _ _ _ rfl) (hX.on HX.out M2.out.below) M2.out.below (fun v => .tuple #[v, .int .i64 0])
  | true =>
    obtain ⟨rfl, ht, hbk, hav⟩ := htold rfl
    have hot := hoth rfl
    clear hsame hoth htold
    have hsub := sub_any a tl
    rw [← hbk] at hsub
    have hadd := add2 fa bk
    rw [← hav] at hadd
    clear hbk hav
    have hcase : (¬ 0 ≤ spent ∧ tl = a) ∨ (0 ≤ spent ∧ a < spent ∧ tl = a) ∨ (0 ≤ spent ∧ ¬ a < spent ∧ tl = spent) := by
      split at ht <;> omega
    clear ht
    rcases hcase with ⟨k1, rfl⟩ | ⟨k1, k2, rfl⟩ | ⟨k1, k2, rfl⟩
    all_goals
      go_enter Tryz.func105, Tryz.ntmps105
      go_wp2_with (first
        | (go_at_call 153; (with_reducible refine hf1.mono ?_); rintro e u1 ⟨rfl, hb⟩; have hlt := lt_of_heap ((M0.out.on hb).boxes 0 _ _ _ rfl); have M1 := Lib.hid ((M0.out.on hb).box #[.int .i64 fk, .int .i64 fa, .int .i64 fm, .slice px nx (cx + nx)] 80); clear hb t0 t1 hf1; obtain ⟨r0, r1, r2, r3, -⟩ := box4 (M1.out.boxes 0 _ _ _ rfl))
        | (go_at_call 147; (with_reducible refine (hlent _ M1.out.below).mono ?_); rintro e u2 ⟨rfl, hb⟩; have M2 := Lib.hid (M1.out.on hb); clear hb hlent r0 r1 r2 r3; obtain ⟨r0, r1, r2, r3, ff⟩ := box4 (M2.out.boxes 0 _ _ _ rfl); have f1 := ff 1; have f3 := ff 3; clear ff))
      have hl2 : u1.heap.size < u2.heap.size := lt_of_heap (M2.out.boxes 0 _ _ _ rfl)
      have hadd3 : Calls Tryz.prog 88 #[.slice (some ⟨u2.heap.size, 0, none⟩) 2 2] ((u2.alloc (.cells #[.int .i64 fa, .int .i64 bk] 3)).drew) fun e w' => e = .returned (.int .i64 av) ∧ (u2.alloc (.cells #[.int .i64 fa, .int .i64 bk] 3)).drew = w' := hadd u2.drew u2.heap.size rfl
      go_region_with (first
        | (go_at_call 154; (with_reducible refine (hsub _).mono ?_); rintro e u3 ⟨rfl, rfl⟩)
        | (go_at_call 88; (with_reducible refine hadd3.mono ?_); rintro e u3 ⟨rfl, rfl⟩))
      all_goals
        have M3 := Lib.hid (((M2.out.setHead (by omega) (by intro x hx; simp at hx; rcases hx with rfl | rfl <;> simp <;> omega) 1 (.int .i64 av)).box #[.int .i64 fa, .int .i64 bk] 3).drew)
        clear r0 r1 r2 r3 f1 f3 hadd hadd3 hsub
        obtain ⟨r0, r1, r2, r3, ff⟩ := box4 (M3.out.boxes 1 _ _ _ rfl)
        have f3 := ff 3
        clear ff
        have hlt3 := lt_of_heap (M3.out.boxes 1 _ _ _ rfl)
        generalize hW3 : (((u2.setCell ⟨u1.heap.size, 1, none⟩ (.int .i64 av)).alloc (.cells #[.int .i64 fa, .int .i64 bk] 3)).drew) = W3 at *
        clear hW3
        go_wp2_with (go_at_call 155; (with_reducible refine (hot _ M3.out.below).mono ?_); rintro e u4 ⟨p4, c4, rfl, hw4, hb⟩; have M4 := Lib.hid (M3.out.on hb); have HW4 := Lib.hid hw4; clear hb hw4 r0 r1 r2 r3 f3; obtain ⟨r0, r1, r2, r3, ff⟩ := box4 (M4.out.boxes 1 _ _ _ rfl); have f3 := ff 3; clear ff)
        have M5 := Lib.hid ((M4.out.tail.setHead (by omega) (by intro x hx; simp at hx; rcases hx with rfl | rfl <;> simp <;> omega) 3 (.slice p4 nx2 (c4 + nx2))))
        have hv5 : Hid (∀ b, W3.heap.size ≤ b → (u4.setCell ⟨u1.heap.size, 3, none⟩ (.slice p4 nx2 (c4 + nx2))).heap[b]? = u4.heap[b]?) := fun b hb => Below.heap_setCell _ _ _ _ (by simp; omega)
        clear r0 r1 r2 r3 f3
        generalize (u4.setCell ⟨u1.heap.size, 3, none⟩ (.slice p4 nx2 (c4 + nx2))) = u5 at *
        have hw := HW4.out u5.drew M5.out.drew.below hv5.out
        have MD := Lib.hid M5.out.drew
        obtain ⟨r0, r1, r2, r3, -⟩ := box4 (M5.out.boxes 0 _ _ _ rfl)
        obtain ⟨t0, t1, -⟩ := box2 (M5.out.boxes 2 _ _ _ rfl)
        clear HW4 hv5 M3 M4
        go_region_held3 (fun u => u.cell? ⟨w.heap.size, 0, none⟩ = some (.int .i64 start) ∧ u.cell? ⟨w.heap.size, 1, none⟩ = some (.slice p nm (c + nm)) ∧ u.cell? ⟨u1.heap.size, 0, none⟩ = some (.int .i64 fk) ∧ u.cell? ⟨u1.heap.size, 1, none⟩ = some (.int .i64 av) ∧ u.cell? ⟨u1.heap.size, 2, none⟩ = some (.int .i64 fm) ∧ u.cell? ⟨u1.heap.size, 3, none⟩ = some (.slice p4 nx2 (c4 + nx2))) (first | assumption | exact SN.out | exact ⟨t0, t1, r0, r1, r2, r3⟩ | exact ⟨cell_set2 (by omega) SN.out.1, cell_set2 (by omega) SN.out.2.1, cell_set2 (by omega) SN.out.2.2.1, cell_set2 (by omega) SN.out.2.2.2.1, cell_set2 (by omega) SN.out.2.2.2.2.1, cell_set2 (by omega) SN.out.2.2.2.2.2⟩) (first
          | (go_at_call 156; (with_reducible refine hw.mono ?_); rintro e u9 ⟨p9, c9, rfl, hx9, hb9⟩; have M9 := Lib.hid (MD.out.on hb9); have HX9 := Lib.hid hx9; have SN := Lib.hid (And.intro (box2 (M9.out.boxes 2 _ _ _ rfl)).1 (And.intro (box2 (M9.out.boxes 2 _ _ _ rfl)).2.1 (And.intro (box4 (M9.out.boxes 0 _ _ _ rfl)).1 (And.intro (box4 (M9.out.boxes 0 _ _ _ rfl)).2.1 (And.intro (box4 (M9.out.boxes 0 _ _ _ rfl)).2.2.1 (box4 (M9.out.boxes 0 _ _ _ rfl)).2.2.2.1))))); obtain ⟨d0, d1, ff⟩ := box2 (M9.out.boxes 1 _ _ _ rfl); have f0 := ff 0; have f1 := ff 1; clear ff hx9 hb9))
        all_goals
          go_wp2
          refine bodyPost_ret (v := .tuple #[.agg #[.int .i64 start, .slice p9 NT (c9 + NT)], .int .i64 tl]) (by simp [results, Tryz.results105, go_sem, d0, d1]) rfl ?_
          exact tells_atX hX _ (by omega) (M9.out.boxes 1 _ _ _ rfl) HX9.out M9.out.below (fun v => .tuple #[v, .int .i64 tl])
end Go.Proofs.YtbgdlokegibkmaaGreat.Ledger

namespace Go.Proofs.YtbgdlokegibkmaaGreat.Ledger
open Go.RowKit
set_option maxRecDepth 100000 in
set_option maxHeartbeats 1000000 in
theorem compact_any (zs : List Int) (p : Option Addr) (c : Nat) (w : World) (hl : zs.length ≤ 1000) (hc : ∀ k, k < zs.length → ∃ b o, p = some ⟨b, o, none⟩ ∧ w.cell? ⟨b, o + k, none⟩ = some (.int .i64 (zs.getD k 0))) (hu : ∀ k, k + 1 < zs.length → zs.getD k 0 < zs.getD (k + 1) 0) :
    Calls Tryz.prog 149 #[.slice p zs.length c] w fun e w' => e = .returned (.slice p zs.length c) ∧ Below w.heap.size w w' := by
  have HC := Lib.hid hc
  have HU := Lib.hid hu
  clear hc hu
  generalize hn : zs.length = n at *
  by_cases h2 : (n : Int) < 2
  · go_enter Tryz.func149, Tryz.ntmps149
    go_wp2
    go_ret
    exact ⟨rfl, Below.refl _ _⟩
  · go_enter Tryz.func149, Tryz.ntmps149
    go_wp2
    go_loopw [3] (fun v wr => ∃ j : Nat, j + 1 ≤ n ∧ v = .int .i64 ((j : Int) + 1) ∧ Below w.heap.size w wr) (fun v _ => n - (intOf v).toNat)
    case atStart => exact ⟨0, by omega, rfl, Below.refl _ _⟩
    case round =>
      obtain ⟨j, hj, rfl, hbw⟩ := hrel
      by_cases hlt : j + 1 < n
      · obtain ⟨b, o, rfl, x1'⟩ := HC.out (j + 1) (by omega)
        obtain ⟨b', o', e, x0'⟩ := HC.out j (by omega)
        simp only [Option.some.injEq, Addr.mk.injEq, and_true] at e
        obtain ⟨rfl, rfl⟩ := e
        have x1 := Frame.cell_on x1' hbw
        have x0 := Frame.cell_on x0' hbw
        have hne := HU.out j hlt
        generalize zs.getD j 0 = y0 at *
        generalize zs.getD (j + 1) 0 = y1 at *
        have hlt' : (j : Int) + 1 < (n : Int) := by omega
        have hlt2 : (j : Int) < (n : Int) := by omega
        have e1 : IntKind.i64.wrap ((j : Int) + 1 - 1) = (j : Int) := by rw [Int.add_sub_cancel]; exact IntWalk.i64_in _ (by omega)
        have e2 : ((j : Int) + 1).toNat = j + 1 := by omega
        have g1 : (y1 == y0) = false := by simp; omega
        have HBW := Lib.hid hbw
        clear hbw x0' x1'
        go_wp2
        go_quiet (fail)
        go_wp2
        go_roundw
        case rel => exact ⟨j + 1, by omega, by simp, HBW.out.trans ((below_drewN _ _).mono HBW.out.size)⟩
        case measure => simp only [intOf]; omega
      · have hge : ¬ ((j : Int) + 1 < (n : Int)) := by omega
        have HBW := Lib.hid hbw
        clear hbw
        go_wp2
        go_ret
        exact ⟨rfl, HBW.out⟩
end Go.Proofs.YtbgdlokegibkmaaGreat.Ledger
