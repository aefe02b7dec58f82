/-
  CodecBack: for every slice of ints and all bits: what was written is read, one by one, and nothing is left; one byte fewer, or more, is told; or the error; of more than 150 numbers the live question alone is asked. No conditions: any slice, any bits.
-/
import Derived.Test.YtblmmijjabahiaaRows
import Derived.Test.YtblmmijjabahiaaCodecAlive
import Derived.Test.YtblmmijjabahiaaCodecOpen
import Derived.Deep.RegionHeld3
namespace Go.Proofs.Ytblmmijjabahiaa.codecBack
open Go.ChangeShapes Go.WideShapes Go.RowKit Codec

theorem long (p : Option Addr) (n c : Nat) (x : Int) (w : World) (h : 150 < (n : Int)) :
    Calls Try.prog 13 #[.slice p n c, .int .u64 x] w fun e w' => e = .returned (.bool true) ∧ Below w.heap.size w w' := by
  go_enter Try.func13, Try.ntmps13
  go_wp2_with (go_at_call 56; (with_reducible refine (alive_any _).mono ?_); rintro e w' ⟨rfl, hg⟩)
  go_ret
  exact ⟨rfl, hg⟩

theorem fresh (W : World) : WSt 69 5 W.heap.size (W.alloc (.cells #[.slice none 0 0, .bool false] 69)) W.heap.size [] true ∧ Below W.heap.size W (W.alloc (.cells #[.slice none 0 0, .bool false] 69)) :=
  ⟨⟨Nat.le_refl _, .slice none 0 0, heap_alloc_new _ _, World.ownsRow_nil _ _ _ _⟩, (Below.refl _ _).alloc (Nat.le_refl _) _⟩

set_option maxRecDepth 100000 in
set_option maxHeartbeats 1000000 in
theorem walk_bad (p : Option Addr) (c : Nat) (zs : List Int) (x : Int) (W : World) (hz : Ints W p zs) (hl : zs.length ≤ 150) (hg : goods zs = false) :
    Calls Try.prog 13 #[.slice p zs.length c, .int .u64 x] W fun e w' => e = .returned (.bool true) ∧ Below W.heap.size W w' := by
  obtain ⟨hw0, hb0⟩ := fresh W
  have hnum := wnum_any _ _ _ true p c zs _ W hw0 (by simp) hb0.size hl rfl hb0 hz
  rw [hg, Bool.and_false] at hnum
  clear hw0 hg hz
  go_enter Try.func13, Try.ntmps13
  go_wp2_with (first
    | (go_at_call 58; refine hnum.mono ?_; rintro e w1 ⟨rfl, hw1, hb1⟩; clear hnum; have hB1 := Nat.le_trans hb0.size hb1.size; have hbits := wbits_any _ _ [] false x w1 hw1 (by simp) hB1; clear hw1)
    | (go_at_call 57; refine hbits.mono ?_; rintro e w2 ⟨rfl, hw2, hb2⟩; clear hbits; have hdone := wdone_bad _ _ _ w2 hw2; have hB2 := Nat.le_trans hB1 hb2.size; clear hw2)
    | (go_at_call 59; refine hdone.mono ?_; rintro e w3 ⟨rfl, rfl⟩; clear hdone)
    | (go_at_call 56; refine (alive_any _).mono ?_; rintro e w9 ⟨rfl, hb9⟩))
  go_ret
  exact ⟨rfl, ((hb0.trans hb1).trans hb2).trans (hb9.mono hB2)⟩

theorem own_cap {w : World} {B n g c m : Nat} {E : TypeId} {xs : List Value} (h : w.ownsRow B E 1 (.slice (some ⟨g, 0, none⟩) n c) m xs) : m ≤ c ∧ c ≤ 9223372036854775807 := by
  rcases h.2 with ⟨h, _⟩ | ⟨g', c', cur, h, _, _, h1, h2, _⟩
  · cases h
  · simp only [Value.slice.injEq] at h
    unfold maxLen at h2
    omega

theorem own_more {w : World} {B : Nat} {E : TypeId} {v : Value} (L : List Int) (y : Int) (n : Nat) (hn : L.length = n) (h : w.ownsRow B E 1 v (n + 1) (cells8 L ++ [.int .u8 y])) : w.ownsRow B E 1 v (L ++ [y]).length (cells8 (L ++ [y])) := by
  rw [List.length_append, cells8_append, hn]
  exact h

theorem cut_one (zs : List Int) (x : Int) : (puts zs ++ eight x).take (8 * zs.length + 7) = puts zs ++ (eight x).take 7 := by
  rw [List.take_append, len_puts, show 8 * zs.length + 7 - 8 * zs.length = 7 by omega, List.take_of_length_le (l := puts zs) (by rw [len_puts]; omega)]

/-- Three readers, and how each stands. -/
structure Tri (W : World) (r s q : Nat) (u : World) (a b c : St) : Prop where
  one : Rdr 106 5 u r a.1 a.2
  two : Rdr 106 5 u s b.1 b.2
  three : Rdr 106 5 u q c.1 c.2
  below : Below W.heap.size W u
  ge : W.heap.size ≤ r ∧ W.heap.size ≤ s ∧ W.heap.size ≤ q
  ne : r ≠ s ∧ r ≠ q ∧ s ≠ q
section
variable {W u w' : World} {r s q : Nat} {a b c : St} {e : Ending} {v : Value}
theorem Tri.drew (h : Tri W r s q u a b c) : Tri W r s q u.drew a b c := ⟨h.one, h.two, h.three, h.below.drew, h.ge, h.ne⟩
theorem Tri.on (h : Tri W r s q u a b c) (hb : Below u.heap.size u w') : Tri W r s q w' a b c :=
  ⟨h.one.below hb, h.two.below hb, h.three.below hb, h.below.trans (hb.mono h.below.size), h.ge, h.ne⟩
theorem Tri.step1 {a' : St} (h : Tri W r s q u a b c) (hs : Step 106 5 u r a' v e w') : e = .returned v ∧ Tri W r s q w' a' b c :=
  ⟨hs.1, hs.2.1, h.two.other h.one (by decide) h.ne.1.symm hs.2.2, h.three.other h.one (by decide) h.ne.2.1.symm hs.2.2, h.below.grown hs.2.2 h.below.size (fun k hk => by cases hk; exact h.ge.1), h.ge, h.ne⟩
theorem Tri.step2 {b' : St} (h : Tri W r s q u a b c) (hs : Step 106 5 u s b' v e w') : e = .returned v ∧ Tri W r s q w' a b' c :=
  ⟨hs.1, h.one.other h.two (by decide) h.ne.1 hs.2.2, hs.2.1, h.three.other h.two (by decide) h.ne.2.2.symm hs.2.2, h.below.grown hs.2.2 h.below.size (fun k hk => by cases hk; exact h.ge.2.1), h.ge, h.ne⟩
theorem Tri.step3 {c' : St} (h : Tri W r s q u a b c) (hs : Step 106 5 u q c' v e w') : e = .returned v ∧ Tri W r s q w' a b c' :=
  ⟨hs.1, h.one.other h.three (by decide) h.ne.2.1 hs.2.2, h.two.other h.three (by decide) h.ne.2.2 hs.2.2, hs.2.1, h.below.grown hs.2.2 h.below.size (fun k hk => by cases hk; exact h.ge.2.2), h.ge, h.ne⟩
theorem Tri.num1 {z : Int} {a' : St} (h : Tri W r s q u a b c) (hy : IsBytes a.1) (e : pUpto 4611686018427387904 a = (z, a')) :
    Calls Try.prog 63 #[.pointer (some ⟨r, 0, none⟩)] u fun e w' => e = .returned (.int .i64 z) ∧ Tri W r s q w' a' b c := by
  have := pnum_any r a u h.one hy
  rw [e] at this
  exact this.mono fun _ _ k => h.step1 k
theorem Tri.num2 {z : Int} {b' : St} (h : Tri W r s q u a b c) (hy : IsBytes b.1) (e : pUpto 4611686018427387904 b = (z, b')) :
    Calls Try.prog 63 #[.pointer (some ⟨s, 0, none⟩)] u fun e w' => e = .returned (.int .i64 z) ∧ Tri W r s q w' a b' c := by
  have := pnum_any s b u h.two hy
  rw [e] at this
  exact this.mono fun _ _ k => h.step2 k
theorem Tri.num3 {z : Int} {c' : St} (h : Tri W r s q u a b c) (hy : IsBytes c.1) (e : pUpto 4611686018427387904 c = (z, c')) :
    Calls Try.prog 63 #[.pointer (some ⟨q, 0, none⟩)] u fun e w' => e = .returned (.int .i64 z) ∧ Tri W r s q w' a b c' := by
  have := pnum_any q c u h.three hy
  rw [e] at this
  exact this.mono fun _ _ k => h.step3 k
theorem Tri.bits1 {z : Int} {a' : St} (h : Tri W r s q u a b c) (hy : IsBytes a.1) (e : pBits a = (z, a')) :
    Calls Try.prog 65 #[.pointer (some ⟨r, 0, none⟩)] u fun e w' => e = .returned (.int .u64 z) ∧ Tri W r s q w' a' b c := by
  have := pbits_any r a u h.one hy
  rw [e] at this
  exact this.mono fun _ _ k => h.step1 k
theorem Tri.bits2 {z : Int} {b' : St} (h : Tri W r s q u a b c) (hy : IsBytes b.1) (e : pBits b = (z, b')) :
    Calls Try.prog 65 #[.pointer (some ⟨s, 0, none⟩)] u fun e w' => e = .returned (.int .u64 z) ∧ Tri W r s q w' a b' c := by
  have := pbits_any s b u h.two hy
  rw [e] at this
  exact this.mono fun _ _ k => h.step2 k
theorem Tri.bits3 {z : Int} {c' : St} (h : Tri W r s q u a b c) (hy : IsBytes c.1) (e : pBits c = (z, c')) :
    Calls Try.prog 65 #[.pointer (some ⟨q, 0, none⟩)] u fun e w' => e = .returned (.int .u64 z) ∧ Tri W r s q w' a b c' := by
  have := pbits_any q c u h.three hy
  rw [e] at this
  exact this.mono fun _ _ k => h.step3 k
theorem Tri.done1 {z : Int} (h : Tri W r s q u a b c) (e : tell a = z) : Calls Try.prog 69 #[.pointer (some ⟨r, 0, none⟩)] u fun e w' => e = .returned (.int .i64 z) ∧ u = w' := by
  have := pdone_any r a u h.one
  rwa [e] at this
theorem Tri.done2 {z : Int} (h : Tri W r s q u a b c) (e : tell b = z) : Calls Try.prog 69 #[.pointer (some ⟨s, 0, none⟩)] u fun e w' => e = .returned (.int .i64 z) ∧ u = w' := by
  have := pdone_any s b u h.two
  rwa [e] at this
theorem Tri.done3 {z : Int} (h : Tri W r s q u a b c) (e : tell c = z) : Calls Try.prog 69 #[.pointer (some ⟨q, 0, none⟩)] u fun e w' => e = .returned (.int .i64 z) ∧ u = w' := by
  have := pdone_any q c u h.three
  rwa [e] at this
end

set_option maxRecDepth 100000 in
set_option maxHeartbeats 1000000 in
theorem walk_good (p : Option Addr) (c : Nat) (zs : List Int) (x : Int) (W : World) (hz : Ints W p zs) (hl : zs.length ≤ 150) (hg : goods zs = true) (x0 : 0 ≤ x) (x1 : x < 18446744073709551616) :
    Calls Try.prog 13 #[.slice p zs.length c, .int .u64 x] W fun e w' => e = .returned (.bool true) ∧ Below W.heap.size W w' := by
  obtain ⟨i0, hi, hz0, hz1, hz2⟩ := info_parts info8
  obtain ⟨hw0, hb0⟩ := fresh W
  have hnum := wnum_any _ _ _ true p c zs _ W hw0 (by simp) hb0.size hl rfl hb0 hz
  rw [hg, Bool.and_true, List.nil_append] at hnum
  have hpl : (puts zs).length ≤ 1200 := by rw [len_puts]; omega
  obtain ⟨L, hLe⟩ : ∃ L, L = puts zs ++ eight x := ⟨_, rfl⟩
  have hLl : L.length = 8 * zs.length + 8 := by rw [hLe, List.length_append, len_puts, len_eight]
  have HLL := Lib.hid hLl
  have HLE := Lib.hid hLe
  have HZ := Lib.hid hz
  have HG := Lib.hid hg
  clear hw0 hg hz hLl hLe
  go_enter Try.func13, Try.ntmps13
  go_wp2_with (first
    | (go_at_call 58; refine hnum.mono ?_; rintro e w1 ⟨rfl, hw1, hb1⟩; clear hnum; have hB1 := Nat.le_trans hb0.size hb1.size; have hbits := wbits_any _ _ _ true x w1 hw1 (by omega) hB1; rw [← HLE.out] at hbits; clear hw1)
    | (go_at_call 57; refine hbits.mono ?_; rintro e w2 ⟨rfl, hw2, hb2⟩; clear hbits; have hdone := wdone_good _ _ _ w2 hw2 (by rw [HLL.out]; omega); have hB2 := Nat.le_trans hB1 hb2.size; clear hw2)
    | (go_at_call 59; refine hdone.mono ?_; rintro e w3 ⟨v3, rfl, ho3, hb3⟩; clear hdone; have hs3 := hb3.size; have HO3 := Lib.hid ho3; rw [HLL.out] at ho3; obtain ⟨g3, c3, rfl, _, _⟩ := ho3.form (by omega); obtain ⟨hc3, hm3⟩ := own_cap ho3; have HC3 := Lib.hid (own_cel HO3.out); have hread1 := read_any (some ⟨g3, 0, none⟩) c3 L w3 (by rw [HLL.out]; omega) HC3.out (fun e => by cases e); rw [HLL.out] at hread1; clear ho3)
    | (go_at_call 62; refine hread1.mono ?_; rintro e w4 ⟨r, hr4, rfl, hR4, hb4⟩; clear hread1; have hs4 := hb4.size; have HR4 := Lib.hid hR4; clear hR4; have hread2 := read_any (some ⟨g3, 0, none⟩) c3 (L.take (8 * zs.length + 7)) w4 (by rw [List.length_take]; omega) ((HC3.out.below hb4).take _) (fun e => by cases e); rw [List.length_take, HLL.out, show min (8 * zs.length + 7) (8 * zs.length + 8) = 8 * zs.length + 7 by omega] at hread2)
    | (go_at_call 62; refine hread2.mono ?_; rintro e w5 ⟨s5, hr5, rfl, hR5, hb5⟩; clear hread2; have hs5 := hb5.size; have HR5 := Lib.hid hR5; clear hR5; have b35 : Below w3.heap.size w3 w5 := hb4.trans (hb5.mono hs4); have b5e : Below w5.heap.size w5 (w5.alloc (.cells #[] 5)) := (Below.refl _ _).alloc (Nat.le_refl _) _; have HN5 := Lib.hid (HC3.out.at_ (b35.trans (b5e.mono b35.size))); have HM5 := Lib.hid (World.ownsRow_made (size := 1) (base := w5.heap.size) (e := 5) w5 #[] 0 (Nat.le_refl _) (Nat.zero_le _) rfl))
    | (at_builtin; refine wpList_append_own _ rfl (.tmp 50) (.tmp 51) 67 rfl w5.heap.size 5 i0 (.int .u8 0) 1 1 Try.underlying67 hi hz0 hz1 hz2 rfl (by decide) _ _ _ rfl HM5.out ⟨g3, 0, none⟩ (8 * zs.length + 8) c3 (cells8 L) rfl (by rw [len_cells8, HLL.out, Nat.mul_one]) HN5.out (cells8_one _) (by unfold maxLen; omega) (by omega) (by simp) ?_; intro v6 w6 ho6 hg6 _; have hb6 : Below w5.heap.size w5 w6 := b5e.grown hg6 (by simp) (fun k hk => (HM5.out.lt k hk).1); have HO6 : Hid (w6.ownsRow w5.heap.size 5 1 v6 (8 * zs.length + 8) (cells8 L)) := (by first | exact ho6 | (rw [Nat.zero_add, List.nil_append] at ho6; exact ho6)); have hs6 := hb6.size; clear ho6 hg6 HM5 HN5)
    | (at_builtin; refine wpList_append_own _ rfl (.tmp 53) (.tmp 54) 67 rfl w5.heap.size 5 i0 (.int .u8 0) 1 1 Try.underlying67 hi hz0 hz1 hz2 rfl (by decide) _ _ _ rfl (HO6.out.alloc _) ⟨w6.heap.size, 0, none⟩ 1 1 [.int .u8 0] rfl rfl (World.news_of_block (heap_alloc_new _ _)) (by intro u hu; simp at hu; subst hu; rfl) (by unfold maxLen; omega) (by omega) (by simp; omega) ?_; intro v7 w7 ho7 hg7 _; have hb7 : Below w5.heap.size w5 w7 := (hb6.alloc hs6 _).grown hg7 (by simp; omega) (fun k hk => (HO6.out.lt k hk).1); have HO7 := Lib.hid (own_more L 0 _ HLL.out ho7); obtain ⟨g7, c7, rfl, _, _⟩ := ho7.form (by omega); have hs7 := hb7.size; have hread3 := read_any (some ⟨g7, 0, none⟩) c7 (L ++ [0]) w7 (by rw [List.length_append, HLL.out]; simp; omega) (own_cel HO7.out) (fun e => by cases e); rw [List.length_append, HLL.out] at hread3; clear ho7 hg7)
    | (go_at_call 62; refine hread3.mono ?_; rintro e w8 ⟨q8, hr8, rfl, hR8, hb8⟩; clear hread3; have HR8 := Lib.hid hR8; clear hR8)
    | fail)
  have T8 : Tri W r s5 q8 w8 (puts (zs.drop 0) ++ eight x, false) (puts (zs.drop 0) ++ (eight x).take 7, false) (puts (zs.drop 0) ++ (eight x ++ [0]), false) := by
    have l4 := HR4.out.lt
    have l5 := HR5.out.lt
    have b48 : Below w4.heap.size w4 w8 := hb5.trans ((hb7.trans (hb8.mono hs7)).mono hs5)
    have b58 : Below w5.heap.size w5 w8 := hb7.trans (hb8.mono hs7)
    refine ⟨?_, ?_, ?_, ((hb0.trans hb1).trans hb2).trans ((hb3.trans ((hb4.trans (b48.mono hs4)).mono hs3)).mono hB2), ⟨by omega, by omega, by omega⟩, ⟨by omega, by omega, by omega⟩⟩
    · rw [List.drop_zero, ← HLE.out]
      exact HR4.out.below b48
    · have e := cut_one zs x
      rw [← HLE.out] at e
      rw [List.drop_zero, ← e]
      exact HR5.out.below b58
    · have e : puts (zs.drop 0) ++ (eight x ++ [0]) = L ++ [0] := by
        rw [List.drop_zero, HLE.out, List.append_assoc]
      rw [e]
      exact HR8.out
  have HT := Lib.hid T8
  clear T8 HR4 HR5 HR8 HLE HLL HO3 HC3 HO6 HO7 hb0 hb1 hb2 hb3 hb4 hb5 hb6 hb7 hb8 b35 b5e hr4 hr5 hr8 hB1 hB2 hs3 hs4 hs5 hs6 hs7 hc3 hm3 hi hz0 hz1 hz2
  go_loopw [12] (fun i wr => ∃ k : Nat, k ≤ zs.length ∧ i = .int .i64 (k : Int) ∧ Hid (Tri W r s5 q8 wr (puts (zs.drop k) ++ eight x, false) (puts (zs.drop k) ++ (eight x).take 7, false) (puts (zs.drop k) ++ (eight x ++ [0]), false))) (fun i _ => zs.length - (intOf i).toNat)
  case atStart => exact ⟨0, by omega, rfl, HT⟩
  case round =>
    obtain ⟨k, hk, rfl, hT⟩ := hrel
    by_cases hlt : k < zs.length
    · obtain ⟨g, o, rfl, hc⟩ : ∃ g o, p = some ⟨g, o, none⟩ ∧ ∀ j, j < zs.length → W.cell? ⟨g, o + j, none⟩ = some (.int .i64 (zs.getD j 0)) := by
        rcases HZ.out with h | h
        · rw [h] at hlt; simp at hlt
        · exact h
      have hck := hc k hlt
      have hgB : g < W.heap.size := World.block_lt_of_cell? _ _ hck
      have E1 := Lib.hid (back_num zs (eight x) false HG.out k hlt)
      have E2 := Lib.hid (back_num zs ((eight x).take 7) false HG.out k hlt)
      have E3 := Lib.hid (back_num zs (eight x ++ [0]) false HG.out k hlt)
      have Y1 := Lib.hid ((puts_ok (zs.drop k)).append (eight_ok x))
      have Y2 := Lib.hid ((puts_ok (zs.drop k)).append ((eight_ok x).take 7))
      have Y3 : Hid (IsBytes (puts (zs.drop k) ++ (eight x ++ [0]))) := (puts_ok (zs.drop k)).append ((eight_ok x).append (by intro y hy; simp at hy; subst hy; omega))
      generalize zs.getD k 0 = z at hck E1 E2 E3
      have HCK := Lib.hid hck
      have hc0 : wr.cell? ⟨g, o + k, none⟩ = some (.int .i64 z) := (hT.out.below.cell (p := ⟨g, o + k, none⟩) hgB).trans hck
      have T0 := hT.out.drew
      clear hc hck hT HT
      have hlt' : (k : Int) < (zs.length : Int) := by omega
      go_wp2
      go_region_held3 (fun u => u.cell? ⟨g, o + k, none⟩ = some (.int .i64 z)) (first | assumption | exact hc0) (first
        | (go_at_call 63; (with_reducible refine (T0.num1 Y1.out E1.out).mono ?_); rintro e u1 ⟨rfl, T1⟩; clear T0; have l1 : u1.cell? ⟨g, o + k, none⟩ = some (.int .i64 z) := (T1.below.cell (p := ⟨g, o + k, none⟩) hgB).trans HCK.out)
        | (go_at_call 63; (with_reducible refine (T1.num2 Y2.out E2.out).mono ?_); rintro e u2 ⟨rfl, T2⟩; clear T1; have l2 : u2.cell? ⟨g, o + k, none⟩ = some (.int .i64 z) := (T2.below.cell (p := ⟨g, o + k, none⟩) hgB).trans HCK.out)
        | (go_at_call 63; (with_reducible refine (T2.num3 Y3.out E3.out).mono ?_); rintro e u3 ⟨rfl, T3⟩; clear T2; have l3 : u3.cell? ⟨g, o + k, none⟩ = some (.int .i64 z) := (T3.below.cell (p := ⟨g, o + k, none⟩) hgB).trans HCK.out))
      have HT3 := Lib.hid T3
      clear T3 l1 l2 l3 hc0
      go_wp2
      go_roundw
      case rel => exact ⟨k + 1, by omega, by go_num, HT3⟩
      case measure => simp [intOf]; omega
    · obtain rfl : k = zs.length := by omega
      rw [List.drop_length, puts_nil, List.nil_append, List.nil_append, List.nil_append] at hT
      have E1 := Lib.hid (show pBits (eight x, false) = (x, [], false) from (by have := pBits_eight x [] false x0 x1; rwa [List.append_nil] at this))
      have E2 := Lib.hid (back_none ((eight x).take 7) false (by rw [List.length_take]; omega))
      have E3 := Lib.hid (pBits_eight x [0] false x0 x1)
      have Y3 : Hid (IsBytes (eight x ++ [0])) := (eight_ok x).append (by intro y hy; simp at hy; subst hy; omega)
      clear HT
      go_wp2_with (first
        | (go_at_call 56; refine (alive_any _).mono ?_; rintro e u1 ⟨rfl, hb9⟩; have T1 := hT.out.on hb9; clear hb9)
        | (go_at_call 65; (with_reducible refine (T1.bits1 (eight_ok x) E1.out).mono ?_); rintro e u2 ⟨rfl, T2⟩; clear T1)
        | (go_at_call 69; (with_reducible refine (T2.done1 (z := 0) rfl).mono ?_); rintro e u3 ⟨rfl, rfl⟩)
        | (go_at_call 65; (with_reducible refine (T2.bits2 ((eight_ok x).take 7) E2.out).mono ?_); rintro e u4 ⟨rfl, T4⟩; clear T2)
        | (go_at_call 69; (with_reducible refine (T4.done2 (z := 2) rfl).mono ?_); rintro e u5 ⟨rfl, rfl⟩)
        | (go_at_call 65; (with_reducible refine (T4.bits3 Y3.out E3.out).mono ?_); rintro e u6 ⟨rfl, T6⟩; clear T4)
        | (go_at_call 69; (with_reducible refine (T6.done3 (z := 2) rfl).mono ?_); rintro e u7 ⟨rfl, rfl⟩))
      go_ret
      exact ⟨rfl, T6.below⟩

theorem walk (W : World) (p : Option Addr) (c : Nat) (zs : List Int) (_ : p = none → zs = [] ∧ c = 0) (_ : (zs.length : Int) ≤ 9223372036854775807) (_ : ∀ n ∈ zs, (Lit.int .i64 n).wf = true)
    (hz : Ints W p zs) (x : Int) (hx : (Lit.int .u64 x).wf = true) :
    Calls Try.prog 13 #[.slice p zs.length c, .int .u64 x] W fun e w' => e = .returned (.bool true) ∧ Below W.heap.size W w' := by
  by_cases hl : zs.length ≤ 150
  · cases hg : goods zs with
    | true =>
      have hx' := Row.u64_bounds hx
      exact walk_good p c zs x W hz hl hg hx'.1 hx'.2
    | false => exact walk_bad p c zs x W hz hl hg
  · exact long p zs.length c x W (by omega)

theorem own : ownKnob Try.prog.godebug = none := by kernel_rfl

set_option maxRecDepth 100000 in
theorem lifted (os : Os) (started : os.Started) (H : Type) (enc : TypeId × Value → H) :
    ReturnsInHanded {} Try.checked os 13 .any (Rows.codecBackSpec.pre6 enc Try.prog Try.f13 Rows.codecBackRow.domain false) (Rows.codecBackSpec.post enc Try.prog Try.f13 false true false false) := by
  refine returnsInHanded_of_change (C := Try.checked) own started (by kernel_rfl) Try.func13
    (ChangeSpec.witness6 (enc := enc) (C := Try.checked) false ⟨#[], #[.slice none 0 0, .int .u64 0], []⟩ 16 (by kernel_rfl) (by kernel_rfl) (by kernel_rfl) (by kernel_rfl)) ?_
  intro W base args ds gs before hval0 hW hcnd _
  have hval : ∀ (j : Nat) t v, Try.f13.params[j]? = some t → args[j]? = some v → Value.okWide Try.prog W .any base t v := hval0
  have hW' := hW
  obtain ⟨p, q, hA0, hV, rfl, hfz, hnd⟩ := hW
  have hA : DataW.TrodAll enc Try.prog W 0 (fun _ => true) true Try.f13.params.toList args.toList ds p := hA0
  rw [Try.params13] at hA hval
  obtain ⟨v0, vs0, d0, ds0, p0, q0, hargs, rfl, rfl, h0, r0⟩ := trodAll_cons hA
  obtain ⟨v1, vs1, d1, ds1, p1, q1, rfl, rfl, rfl, h1, r1⟩ := trodAll_cons r0
  obtain ⟨rfl, rfl, rfl⟩ := trodAll_nil r1
  obtain rfl : args = #[v0, v1] := by cases args; simp_all
  obtain ⟨rfl, rfl⟩ := trodVars_none hV
  obtain ⟨p0', c0, zs0, rfl, hn0, hl0, hw0, hz0⟩ := Row.open_nums Try.underlying30 Try.underlying3 (by kernel_rfl) (hval 0 30 v0 rfl rfl) h0
  obtain ⟨a1, rfl, -, -, w1⟩ := open_int Try.underlying27 (hval 1 27 v1 rfl rfl) h1
  clear hA0 hval0
  refine (walk W p0' c0 zs0 hn0 hl0 hw0 hz0 a1 w1).mono fun e W' ⟨he, hg⟩ => ?_
  subst he
  exact ⟨_, rfl, Row.law_post hW' rfl rfl rfl rfl (by kernel_rfl) Try.underlying4 (by kernel_rfl) (by kernel_rfl) hg⟩

theorem over : Rows.codecBackRow.holds Try.pinned (OpenSpec.ofChange Rows.codecBackSpec) :=
  OpenClaim.holds_of_wide 13 Try.f13 rfl rfl rfl rfl rfl rfl rfl ⟨rfl, rfl, rfl, rfl, rfl⟩ rfl rfl rfl rfl rfl (by kernel_rfl) Try.func13 (by kernel_rfl)
    (of_decide_eq_true (by kernel_rfl)) (by unfold Func.isWrapper; first | (rw [if_pos (by decide +kernel)]; kernel_rfl) | (rw [if_neg (by decide +kernel)]; exact ⟨rfl, rfl⟩))
    (fun os started H enc _ => lifted os started H enc)

/-- The given statement. -/
theorem proved : Rows.CodecBackSaid :=
  over
#print axioms proved
end Go.Proofs.Ytblmmijjabahiaa.codecBack
