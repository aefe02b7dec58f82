/-
  slices.Sort and slices.Compact of numbers that a call owns: each number once, rising; the program's Keys.
  The program's queue does what is asked of it.
-/
import Derived.Sort.OwnSortedInts
import Derived.Lib.OwnBridge
import Derived.Test.YtbgdlokegibkmaaGreatMmBf
import Derived.Test.YtbgdlokegibkmaaGreatMmBh
namespace Go.Proofs.YtbgdlokegibkmaaGreat.Queue
open Go.RowKit Go.Shelf Go.Sort
open _root_.Go.Proofs.YtbgdlokegibkmaaGreat.Codec (lt_of_heap frozen_of heap_set own_below)
open _root_.Go.Proofs.YtbgdlokegibkmaaGreat.Kit (Enc Lies Own At Kept Laid Off cell_on lt_heap take_snoc below_drewN box5 ints own_keep own_lt cells)
/-! The plain side. -/
/-- Two lists that rise, of the same numbers, are one. -/
theorem rise_eq : ∀ {a b : List Int}, a.Pairwise (· < ·) → b.Pairwise (· < ·) → (∀ x, x ∈ a ↔ x ∈ b) → a = b
  | [], [], _, _, _ => rfl
  | [], y :: b, _, _, h => by have := (h y).2 (by simp); simp at this
  | x :: a, [], _, _, h => by have := (h x).1 (by simp); simp at this
  | x :: a, y :: b, ha, hb, h => by
    obtain ⟨a1, a2⟩ := List.pairwise_cons.1 ha
    obtain ⟨b1, b2⟩ := List.pairwise_cons.1 hb
    have e : x = y := by
      have h1 := (h x).1 (by simp)
      have h2 := (h y).2 (by simp)
      rcases List.mem_cons.1 h1 with h1 | h1
      · exact h1
      · rcases List.mem_cons.1 h2 with h2 | h2
        · exact h2.symm
        · have := b1 x h1
          have := a1 y h2
          omega
    subst e
    refine congrArg (x :: ·) (rise_eq a2 b2 fun w => ⟨fun hw => ?_, fun hw => ?_⟩)
    · rcases List.mem_cons.1 ((h w).1 (by simp [hw])) with e | e
      · have := a1 w hw; omega
      · exact e
    · rcases List.mem_cons.1 ((h w).2 (by simp [hw])) with e | e
      · have := b1 w hw; omega
      · exact e
theorem compact_spec {zs : List Int} (h : zs.Pairwise (· ≤ ·)) : ∀ m, m ≤ zs.length → (Lib.compactUpTo zs.toArray m).Pairwise (· < ·) ∧ ∀ x, x ∈ Lib.compactUpTo zs.toArray m ↔ x ∈ zs.take m
  | 0, _ => by simp [Lib.compactUpTo]
  | m + 1, hm => by
    obtain ⟨i1, i2⟩ := compact_spec h m (by omega)
    have hd : ∀ j, j < zs.length → zs.toArray[j]! = zs.getD j 0 := fun j hj => by simp [List.getD, hj]
    have ht : zs.take (m + 1) = zs.take m ++ [zs.getD m 0] := take_snoc 0 (by omega)
    rw [Lib.compactUpTo_succ, ht]
    have hle : ∀ x ∈ zs.take m, x ≤ zs.getD m 0 := fun x hx => by
      obtain ⟨j, hj, rfl⟩ := List.getElem_of_mem hx
      rw [List.length_take] at hj
      rw [List.getElem_take, show zs.getD m 0 = zs[m]'(by omega) by simp [List.getD, show m < zs.length by omega]]
      exact (List.pairwise_iff_getElem.1 h) j m (by omega) (by omega) (by omega)
    by_cases hk : Lib.keeps zs.toArray m = true
    · rw [if_pos hk, hd m (by omega)]
      have hlt : ∀ x ∈ zs.take m, x < zs.getD m 0 := fun x hx => by
        by_cases h0 : m = 0
        · subst h0; simp at hx
        · simp only [Lib.keeps, decide_eq_true_eq] at hk
          have hne := hk.resolve_left h0
          rw [hd m (by omega), hd (m - 1) (by omega)] at hne
          obtain ⟨j, hj, rfl⟩ := List.getElem_of_mem hx
          rw [List.length_take] at hj
          rw [List.getElem_take]
          have e1 : zs.getD (m - 1) 0 = zs[m - 1]'(by omega) := by simp [List.getD, show m - 1 < zs.length by omega]
          have e2 : zs.getD m 0 = zs[m]'(by omega) := by simp [List.getD, show m < zs.length by omega]
          rw [e1, e2] at hne
          rw [e2]
          have h1 := (List.pairwise_iff_getElem.1 h) (m - 1) m (by omega) (by omega) (by omega)
          by_cases e : j = m - 1
          · subst e; omega
          · have h2 := (List.pairwise_iff_getElem.1 h) j (m - 1) (by omega) (by omega) (by omega)
            omega
      refine ⟨?_, fun x => by simp [i2]⟩
      rw [List.pairwise_append]
      exact ⟨i1, by simp, fun a ha b hb => by rw [List.mem_singleton.1 hb]; exact hlt a ((i2 a).1 ha)⟩
    · rw [if_neg hk, List.append_nil]
      refine ⟨i1, fun x => ?_⟩
      rw [i2, List.mem_append, List.mem_singleton]
      refine ⟨.inl, fun hx => hx.elim id fun e => ?_⟩
      simp only [Lib.keeps, decide_eq_true_eq, not_or, ne_eq, Decidable.not_not] at hk
      rw [hd m (by omega), hd (m - 1) (by omega)] at hk
      rw [e, hk.2, List.mem_take_iff_getElem]
      exact ⟨m - 1, by omega, by simp [List.getD, show m - 1 < zs.length by omega]⟩
theorem kfold_spec (k : Int) : ∀ (n : Nat) (l : List Int), l.length = n → l.Pairwise (· < ·) → kfold k l = if ∃ a ∈ l, k ≤ a then (l.filter (fun x => decide (x < k)) ++ [k] ++ l.filter (fun x => decide (k < x)), true) else (l, false)
  | 0, l, hn, _ => by
    obtain rfl := List.eq_nil_of_length_eq_zero hn
    simp [kfold]
  | n + 1, l, hn, h => by
    obtain ⟨m, a, rfl⟩ : ∃ m a, l = m ++ [a] := ⟨l.dropLast, l.getLast (by intro e; subst e; simp at hn), (List.dropLast_concat_getLast _).symm⟩
    rw [List.pairwise_append] at h
    obtain ⟨h1, -, h3⟩ := h
    have h3 : ∀ x ∈ m, x < a := fun x hx => h3 x hx a (by simp)
    rw [kfold_snoc, kfold_spec k n m (by simpa using hn) h1]
    by_cases hex : ∃ a ∈ m, k ≤ a
    · obtain ⟨b, hb, hkb⟩ := hex
      have := h3 b hb
      rw [if_pos ⟨b, hb, hkb⟩, if_pos ⟨a, by simp, by omega⟩]
      unfold kstep
      simp only [Bool.true_eq_false, false_and, if_false]
      rw [if_neg (by omega)]
      simp [show ¬ a < k by omega, show k < a by omega]
    · rw [if_neg hex]
      have hall : ∀ x ∈ m, x < k := fun x hx => by
        by_cases hc : k ≤ x
        · exact absurd ⟨x, hx, hc⟩ hex
        · omega
      have f1 : m.filter (fun x => decide (x < k)) = m := List.filter_eq_self.2 fun x hx => by simpa using hall x hx
      have f2 : m.filter (fun x => decide (k < x)) = [] := List.filter_eq_nil_iff.2 fun x hx => by have := hall x hx; simp; omega
      by_cases hka : k ≤ a
      · rw [if_pos (show ∃ x ∈ m ++ [a], k ≤ x from ⟨a, by simp, hka⟩)]
        by_cases e : a = k
        · subst e
          have e1 : kstep a (m, false) a = (m ++ [a], true) := by unfold kstep; simp
          rw [e1]
          simp [f1, f2]
        · have e1 : kstep k (m, false) a = (m ++ [k] ++ [a], true) := by unfold kstep; simp [hka, e]
          rw [e1]
          simp [f1, f2, show ¬ a < k by omega, show k < a by omega]
      · have e1 : kstep k (m, false) a = (m ++ [a], false) := by unfold kstep; simp [hka, show ¬ a = k by omega]
        rw [e1, if_neg]
        rintro ⟨x, hx, hc⟩
        rcases List.mem_append.1 hx with hx | hx
        · exact hex ⟨x, hx, hc⟩
        · rw [List.mem_singleton.1 hx] at hc
          exact hka hc
theorem kput_spec (k : Int) {l : List Int} (h : l.Pairwise (· < ·)) : kput k l = l.filter (fun x => decide (x < k)) ++ [k] ++ l.filter (fun x => decide (k < x)) := by
  unfold kput
  rw [kfold_spec k _ l rfl h]
  by_cases hex : ∃ a ∈ l, k ≤ a
  · rw [if_pos hex]; rfl
  · rw [if_neg hex]
    have hall : ∀ x ∈ l, x < k := fun x hx => by
      by_cases hc : k ≤ x
      · exact absurd ⟨x, hx, hc⟩ hex
      · omega
    have f1 : l.filter (fun x => decide (x < k)) = l := List.filter_eq_self.2 fun x hx => by simpa using hall x hx
    have f2 : l.filter (fun x => decide (k < x)) = [] := List.filter_eq_nil_iff.2 fun x hx => by have := hall x hx; simp; omega
    rw [f1, f2, List.append_nil]
    rfl
theorem keys_spec : ∀ (n : Nat) (l : List It), l.length = n → (keys l).Pairwise (· < ·) ∧ ∀ k, k ∈ keys l ↔ k ∈ l.map It.key
  | 0, l, hn => by
    obtain rfl := List.eq_nil_of_length_eq_zero hn
    simp [keys]
  | n + 1, l, hn => by
    obtain ⟨m, a, rfl⟩ : ∃ m a, l = m ++ [a] := ⟨l.dropLast, l.getLast (by intro e; subst e; simp at hn), (List.dropLast_concat_getLast _).symm⟩
    obtain ⟨i1, i2⟩ := keys_spec n m (by simpa using hn)
    rw [keys_snoc, kput_spec _ i1]
    refine ⟨?_, fun k => ?_⟩
    · rw [List.append_assoc, List.pairwise_append]
      refine ⟨i1.filter _, ?_, fun x hx y hy => ?_⟩
      · rw [List.singleton_append, List.pairwise_cons]
        exact ⟨fun y hy => by simpa using (List.mem_filter.1 hy).2, i1.filter _⟩
      · have h1 : x < a.key := by simpa using (List.mem_filter.1 hx).2
        rcases List.mem_append.1 hy with hy | hy
        · rw [List.mem_singleton.1 hy]; exact h1
        · have h2 : a.key < y := by simpa using (List.mem_filter.1 hy).2
          omega
    · simp only [List.mem_append, List.mem_filter, List.mem_singleton, List.map_append, List.map_cons, List.map_nil, i2, decide_eq_true_eq]
      constructor
      · rintro ((h | h) | h)
        · exact .inl h.1
        · exact .inr h
        · exact .inl h.1
      · rintro (h | h)
        · rcases Int.lt_trichotomy k a.key with e | e | e
          · exact .inl (.inl ⟨h, e⟩)
          · exact .inl (.inr e)
          · exact .inr ⟨h, e⟩
        · exact .inl (.inr h)
/-- What Sort and Compact leave of all keys. -/
theorem keys_sorted (l : List It) : Lib.compact ((l.map It.key).mergeSort fun x y => decide (x ≤ y)) = keys l := by
  have hp := List.mergeSort_perm (l.map It.key) (fun x y => decide (x ≤ y))
  have hs : ((l.map It.key).mergeSort fun x y => decide (x ≤ y)).Pairwise (· ≤ ·) := by
    have := List.pairwise_mergeSort (le := fun x y : Int => decide (x ≤ y)) (fun a b c h1 h2 => by simp at *; omega) (fun a b => by simp; omega) (l.map It.key)
    exact this.imp fun h => by simpa using h
  generalize ((l.map It.key).mergeSort fun x y => decide (x ≤ y)) = zs at *
  obtain ⟨c1, c2⟩ := compact_spec hs zs.length (Nat.le_refl _)
  obtain ⟨k1, k2⟩ := keys_spec _ l rfl
  exact rise_eq c1 k1 fun x => by
    rw [k2, ← hp.mem_iff]
    have := c2 x
    rw [List.take_length] at this
    exact this
theorem compact_len (zs : List Int) : (Lib.compact zs).length ≤ zs.length := by
  unfold Lib.compact Lib.compactUpTo
  rw [List.length_map]
  exact Nat.le_trans (List.length_filter_le _ _) (by simp)
/-! The walk. -/
theorem cells_ints (zs : List Int) : cells ints zs = zs.map (Value.int .i64) := by
  induction zs with
  | nil => rfl
  | cons x zs ih => rw [Kit.cells_cons, ih]; rfl
theorem own_ints {B : Nat} {u : World} {v : Value} {zs : List Int} : Own ints 3 B u v zs ↔ u.ownsRow B 3 1 v zs.length (zs.map (Value.int .i64)) := by
  unfold Own
  rw [cells_ints]
  exact Iff.rfl
theorem sort_ints {B : Nat} {u : World} {v : Value} {zs : List Int} (ho : Own ints 3 B u v zs) (hB : B ≤ u.heap.size) (hl : zs.length ≤ 1000) :
    Calls Tryz.prog 148 #[v] u fun e u' => e = .returned (.tuple #[]) ∧ Own ints 3 B u' v (zs.mergeSort fun x y => decide (x ≤ y)) ∧ Below B u u' := by
  have hl2 : (zs.mergeSort fun x y => decide (x ≤ y)).length = zs.length := List.length_mergeSort _
  have hown' := own_ints.1 ho
  rcases hown'.2 with ⟨rfl, h0⟩ | ⟨g, cap, cur, rfl, hbase, hblk, h1, h2, h3, h4⟩
  · have hz := List.eq_nil_of_length_eq_zero h0
    subst hz
    refine (Tryz.slices_Sort_int_none none 0 u).mono ?_
    rintro e u' ⟨rfl, rfl⟩
    exact ⟨rfl, by simpa using ho, Below.refl _ _⟩
  · obtain ⟨g', cap', e, _, hlt, _, _, _, hH⟩ := Lib.holds_of_ownsRow (enc := Value.int .i64) hown' (by simp)
    cases e
    refine (Tryz.slices_Sort_int g 0 cap zs u hH hlt (by omega)).mono ?_
    rintro e u' ⟨rfl, n, os, rfl⟩
    refine ⟨rfl, own_ints.2 ?_, (Below.refl B u).grown (grownBy_sortedI _) hB (fun j hj => by cases hj; exact hbase)⟩
    have := ownsRow_sortedI (n := n) (os := os) hl2 hbase hblk h1 h2 h3
    rw [hl2]
    exact this
theorem compact_ints {B : Nat} {u : World} {v : Value} {zs : List Int} (ho : Own ints 3 B u v zs) (hB : B ≤ u.heap.size) (hl : zs.length ≤ 1000) :
    Calls Tryz.prog 149 #[v] u fun e u' => ∃ p c, e = .returned (.slice p (Lib.compact zs).length c) ∧ (Lies ints u' p (Lib.compact zs) ∧ (p = none → c = 0)) ∧ Below B u u' := by
  have hown' := own_ints.1 ho
  have hlen := compact_len zs
  rcases hown'.2 with ⟨rfl, h0⟩ | ⟨g, cap, cur, rfl, hbase, hblk, h1, h2, h3, h4⟩
  · have hz := List.eq_nil_of_length_eq_zero h0
    subst hz
    refine (Tryz.slices_Compact_int_empty none 0 u).mono ?_
    rintro e u' ⟨rfl, rfl⟩
    exact ⟨none, 0, rfl, ⟨.inl rfl, fun _ => rfl⟩, Below.refl _ _⟩
  · obtain ⟨g', cap', e, _, hlt, _, _, _, hH⟩ := Lib.holds_of_ownsRow (enc := Value.int .i64) hown' (by simp)
    cases e
    refine (Tryz.slices_Compact_int g 0 cap zs u hH (by omega) h1).mono ?_
    rintro e u' ⟨rfl, n, rfl⟩
    have hsz : (Lib.compact zs ++ List.replicate (zs.length - (Lib.compact zs).length) 0).toArray.size = zs.toArray.size := by simp; omega
    have hH2 := holds_putRow (Value.int .i64) (Sort.ahead u n) g 0 zs.toArray _ (holds_ahead (Value.int .i64) u n g 0 zs.toArray hH) hsz
    refine ⟨_, _, rfl, ⟨.inr ⟨g, 0, rfl, fun j hj k w hw => ?_⟩, fun e => nomatch e⟩, (Below.refl B u).grown (row := some g) ?_ hB (fun j hj => by cases hj; exact hbase)⟩
    · match k, hw with
      | 0, hw =>
        simp only [ints, List.getElem?_cons_zero, Option.some.injEq] at hw
        subst hw
        have := (hH2 j (by rw [hsz]; simp; omega)).1
        rw [show 0 + j * ints.n + 0 = 0 + j by rw [show ints.n = 1 from rfl]; omega, this]
        congr 2
        have hj2 : j < (Lib.compact zs ++ List.replicate (zs.length - (Lib.compact zs).length) 0).length := by simp; omega
        rw [getElem!_pos _ j (by simpa using hj2)]
        simp [List.getD, hj, List.getElem_append_left hj]
    · have := grownBy_sortedI (w := u) (g := g) (n := n) (os := #[]) (Lib.compact zs ++ List.replicate (zs.length - (Lib.compact zs).length) 0).toArray
      rwa [grow_empty] at this
set_option maxRecDepth 100000 in
set_option maxHeartbeats 4000000 in
theorem pkeys_any {F : Nat → Prop} {B q : Nat} {w : World} {room : Int} {l : List It} (h : Pq F B w q room l) (hl : l.length ≤ 16) :
    Calls Tryz.prog 159 #[.pointer (some ⟨q, 0, none⟩)] w fun e w' => ∃ p c, e = .returned (.slice p (keys l).length c) ∧ (Lies ints w' p (keys l) ∧ (p = none → c = 0)) ∧ Below w.heap.size w w' := by
  have ha := pall_any h hl
  have hk := keys_sorted l
  have hml : (l.map It.key).length = l.length := List.length_map _
  have HM := Lib.hid (show l.map It.key = (l.take l.length).map It.key by rw [List.take_length])
  generalize l.map It.key = ks at hk hml HM
  have HSO := Lib.hid (fun (u : World) (v : Value) (ho : Own ints 3 w.heap.size u v ks) (hu : w.heap.size ≤ u.heap.size) => sort_ints ho hu (by omega))
  have hsl : (ks.mergeSort fun x y => decide (x ≤ y)).length = l.length := by rw [List.length_mergeSort]; exact hml
  generalize (ks.mergeSort fun x y => decide (x ≤ y)) = zs at *
  have HCO := Lib.hid (fun (u : World) (v : Value) (ho : Own ints 3 w.heap.size u v zs) (hu : w.heap.size ≤ u.heap.size) => compact_ints ho hu (by omega))
  rw [hk] at HCO
  generalize keys l = R at *
  clear h hk hml hsl
  go_enter Tryz.func159, Tryz.ntmps159
  go_wp2_with (first
    | (go_at_call 36; (with_reducible refine ha.mono ?_); rintro e u1 ⟨y1, rfl, ho, hb⟩; obtain ⟨p1, d1, rfl, hl1, -⟩ := own_slice ho; have HL1 := Lib.hid hl1; have HB1 := Lib.hid hb; clear ho hb hl1 ha))
  go_loopw [3, 9] (fun y k wr => ∃ (j : Nat) (p : Option Addr) (c : Nat), j ≤ l.length ∧ k = .int .i64 (j : Int) ∧ y = .slice p j c ∧ Hid (Own ints 3 u1.heap.size wr y ((l.take j).map It.key)) ∧ Hid (Below u1.heap.size u1 wr)) (fun _ k _ => l.length - (intOf k).toNat)
  case atStart => exact ⟨0, none, 0, by omega, rfl, rfl, Lib.hid (Own.none _ _ _ _), Lib.hid (Below.refl _ _)⟩
  case round =>
    obtain ⟨j, p, c, hj, rfl, rfl, HO, HB⟩ := hrel
    by_cases hlt : j < l.length
    · have hlt' : (j : Int) < (l.length : Int) := by omega
      obtain ⟨b, o, rfl, ha⟩ := lies_at (HL1.out.below HB.out) hlt
      obtain ⟨k0, k1, k2, k3, k4⟩ := at5 ha
      have HE := Lib.hid (show (l.take (j + 1)).map It.key = (l.take j).map It.key ++ [(l.getD j z).key] by rw [take_snoc z hlt]; simp)
      have HN := Lib.hid (show ((l.take j).map It.key).length = j by simp; omega)
      generalize (l.take j).map It.key = L at *
      generalize l.getD j z = x at *
      have HX := Lib.hid (fun (o' : Obj) => (lay wr (.cells #[.int .i64 x.id, .int .i64 x.key, .int .i64 x.cost, .int .i64 x.cls, .int .i64 x.til] 136)).alloc (lay wr (.cells #[.int .i64 x.id, .int .i64 x.key, .int .i64 x.cost, .int .i64 x.cls, .int .i64 x.til] 136)).size o')
      have HG := Lib.hid (fun (o o' : Obj) => show ((wr.alloc o).alloc o').heap[wr.heap.size + 1]? = some o' from by have := heap_alloc_new (wr.alloc o) o'; simpa using this)
      obtain ⟨xi, xk, xc, xs, xt⟩ := x
      simp only at k0 k1 k2 k3 k4 HE HX
      clear ha HL1 HM
      go_wp2_with (at_builtin; refine Kit.push laidI rfl _ _ rfl u1 wr (.slice p j c) rfl L j HN.out HO.out HB.out (HX.out _) (wr.heap.size + 1) xk rfl (HG.out _ _) (by omega) ?_; intro p4 c4 w4 R4 B4)
      go_roundw
      case rel => exact ⟨j + 1, p4, c4, by omega, by go_num, rfl, by rw [HE.out]; exact R4, Lib.hid B4⟩
      case measure => simp only [intOf]; omega
    · have hlt' : ¬ (j : Int) < (l.length : Int) := by omega
      obtain rfl : j = l.length := by omega
      rw [← HM.out] at HO
      have HBW := Lib.hid (HB1.out.trans (HB.out.mono HB1.out.size))
      have HOW := Lib.hid (Own.lower HO.out HB1.out.size)
      clear HL1 HM
      go_wp2_with (first
        | (go_at_call 148; (with_reducible refine (HSO.out _ _ HOW.out HBW.out.size).mono ?_); rintro e u3 ⟨rfl, ho, hb⟩; have HB3 := Lib.hid (HBW.out.trans hb); have HO3 := Lib.hid ho; clear hb ho HSO)
        | (go_at_call 149; (with_reducible refine (HCO.out _ _ HO3.out HB3.out.size).mono ?_); rintro e u4 ⟨p4, d4, rfl, hl4, hb⟩; have HB4 := Lib.hid (HB3.out.trans hb); have HL4 := Lib.hid hl4; clear hb hl4 HCO))
      go_ret
      exact ⟨_, _, rfl, HL4.out, HB4.out⟩
set_option maxRecDepth 100000 in
set_option maxHeartbeats 4000000 in
theorem nkeys_any (w : World) : Calls Tryz.prog 159 #[.pointer none] w fun e w' => ∃ p c, e = .returned (.slice p 0 c) ∧ Below w.heap.size w w' := by
  have ha := nall_any w
  have hs := fun u => Tryz.slices_Sort_int_none none 0 u
  have hc := fun u => Tryz.slices_Compact_int_empty none 0 u
  go_enter Tryz.func159, Tryz.ntmps159
  go_wp2_with (go_at_call 36; (with_reducible refine ha.mono ?_); rintro e u1 ⟨rfl, hb⟩; have HB1 := Lib.hid hb; clear hb ha)
  refine wp_loop_rounds 1 ?_
  rw [rounds_succ]
  go_wp2_with (first
    | (go_at_call 148; (with_reducible refine (hs _).mono ?_); rintro e u3 ⟨rfl, rfl⟩)
    | (go_at_call 149; (with_reducible refine (hc _).mono ?_); rintro e u4 ⟨rfl, rfl⟩))
  go_ret
  exact ⟨_, _, rfl, HB1.out⟩
end Go.Proofs.YtbgdlokegibkmaaGreat.Queue

namespace Go.Proofs.YtbgdlokegibkmaaGreat.Queue
open Go.RowKit
open _root_.Go.Proofs.YtbgdlokegibkmaaGreat.Kit (Enc Lies Own At Kept Laid Off cell_on lt_heap take_snoc below_drewN box5 ints own_keep own_lt cells)
theorem way12 : Way12 Pq where
  below := fun ⟨y, hy⟩ hb => ⟨y, hy.below hb⟩
  kept := fun ⟨y, hy⟩ hk _ => ⟨y, hy.kept hk⟩
  sub := fun ⟨y, hy⟩ hg => ⟨y, hy.sub hg⟩
  grow := fun ⟨y, hy⟩ hb => ⟨y, hy.grow hb⟩
  new := fun room w h0 h1 => new_ok room w h0 h1
  newno := fun room w h => new_no room w h
  put := fun h hB _ hl x _ => pput_any h hB hl x
  take := fun h hB hg hl id _ => ptake_any h hB hg hl id
  first := fun h hg hl key _ => first_core _ key _ _ fun _ hu => pof_any (by obtain ⟨y, hy⟩ := h; exact ⟨y, hy.below hu⟩) hg hl key
  of := fun h hg hl key _ => pof_any h hg hl key
  keys := fun h _ hl => (pkeys_any h hl).mono fun _ _ ⟨p, c, he, hli, hb⟩ => ⟨p, c, he, hli.1, hb⟩
  sum := fun {_ _ _ _ _ l} h hg hl key _ => sum_core _ key _ (of l key) (Nat.le_trans (of_len l key) (by omega)) (pof_any h hg hl key)
  all := fun h _ hl => (pall_any h hl).mono fun e w' ⟨y, he, ho, hb⟩ => by
    obtain ⟨p, c, rfl, hli, -⟩ := own_slice ho
    exact ⟨p, c, he, hli, hb⟩
  nput := nput_any
  ntake := ntake_any
  nfirst := fun key w => first_core _ key w [] fun u _ => (nof_any key u).mono fun e w' ⟨p, c, he, hb⟩ => ⟨p, c, he, .inl rfl, hb⟩
  nof := nof_any
  nkeys := nkeys_any
  nsum := fun key w => sum_core _ key w [] (by simp) ((nof_any key w).mono fun e w' ⟨p, c, he, hb⟩ => ⟨p, c, he, .inl rfl, hb⟩)
  nall := fun w => (nall_any w).mono fun e w' ⟨he, hb⟩ => ⟨_, _, he, hb⟩
end Go.Proofs.YtbgdlokegibkmaaGreat.Queue
