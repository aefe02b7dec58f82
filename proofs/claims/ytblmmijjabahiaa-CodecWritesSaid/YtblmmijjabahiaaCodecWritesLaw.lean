/-
  CodecWrites: for every slice of ints and all bits: the bytes of the bits and the numbers are as the document says, or the error; of more than 150 numbers the live question alone is asked. No conditions: any slice, any bits.
-/
import Derived.Test.YtblmmijjabahiaaRows
import Derived.Test.YtblmmijjabahiaaCodecAlive
import Derived.Test.YtblmmijjabahiaaCodecOpen
import Derived.Laws.AppendOwnNone
namespace Go.Proofs.Ytblmmijjabahiaa.codecWrites
open Go.ChangeShapes Go.WideShapes Go.RowKit Codec

theorem long (p : Option Addr) (n c : Nat) (x : Int) (w : World) (h : 150 < (n : Int)) :
    Calls Try.prog 11 #[.slice p n c, .int .u64 x] w fun e w' => e = .returned (.bool true) ∧ Below w.heap.size w w' := by
  go_enter Try.func11, Try.ntmps11
  go_wp2_with (go_at_call 56; (with_reducible refine (alive_any _).mono ?_); rintro e w' ⟨rfl, hg⟩)
  go_ret
  exact ⟨rfl, hg⟩

/-- What stays to be owned. -/
abbrev Own (w : World) (B : Nat) (v : Value) (xs : List Int) : Prop := w.ownsRow B 5 1 v xs.length (cells8 xs)
theorem text {w : World} {B : Nat} {v : Value} {xs : List Int} (h : Own w B v xs) : (convert 67 9 v).run Try.prog w = .ok (.string (strOfNums xs)) w :=
  own_text Try.underlying67 Try.underlying5 Try.underlying9 h
theorem text_nil (w : World) : (convert 67 9 (.slice none 0 0)).run Try.prog w = .ok (.string (strOfNums [])) w :=
  text (B := 0) (World.ownsRow_nil w 0 _ _)

theorem own_join {w : World} {B : Nat} {v : Value} (x : List Int) (y : List Int) (h : w.ownsRow B 5 1 v (x.length + y.length) (cells8 x ++ cells8 y)) : Own w B v (x ++ y) := by
  unfold Own
  rw [List.length_append, cells8_append]
  exact h

/-- The writer that the law makes. -/
theorem fresh (W : World) : WSt 69 5 W.heap.size (W.alloc (.cells #[.slice none 0 0, .bool false] 69)) W.heap.size [] true ∧ Below W.heap.size W (W.alloc (.cells #[.slice none 0 0, .bool false] 69)) :=
  ⟨⟨Nat.le_refl _, .slice none 0 0, heap_alloc_new _ _, World.ownsRow_nil _ _ _ _⟩, (Below.refl _ _).alloc (Nat.le_refl _) _⟩

set_option maxRecDepth 100000 in
set_option maxHeartbeats 2000000 in
theorem walk_good (p : Option Addr) (c : Nat) (zs : List Int) (x : Int) (W : World) (hz : Ints W p zs) (hl : zs.length ≤ 150) (hne : zs ≠ []) (hg : goods zs = true) :
    Calls Try.prog 11 #[.slice p zs.length c, .int .u64 x] W fun e w' => e = .returned (.bool true) ∧ Below W.heap.size W w' := by
  obtain ⟨i0, hi, hz0, hz1, hz2⟩ := info_parts info8
  obtain ⟨hw0, hb0⟩ := fresh W
  have hbits := wbits_any _ _ _ true x _ hw0 (by simp) hb0.size
  clear hw0
  rw [List.nil_append] at hbits
  have hn : 0 < (puts zs).length := by rw [len_puts]; have := List.length_pos_iff.2 hne; omega
  have hn' : (puts zs).length ≤ 1200 := by rw [len_puts]; omega
  have hL : (eight x ++ puts zs).length ≤ 1300 := by rw [List.length_append, len_eight]; omega
  have HZ := Lib.hid hz
  have HG := Lib.hid hg
  clear hz hg hne
  go_enter Try.func11, Try.ntmps11
  go_wp2_with (first
    | (go_at_call 57; refine hbits.mono ?_; rintro e w1 ⟨rfl, hw1, hb1⟩; clear hbits; have hB1 := Nat.le_trans hb0.size hb1.size; have hnum := wnum_any _ _ _ true p c zs w1 W hw1 (by rw [len_eight]; omega) hB1 hl rfl (hb0.trans hb1) HZ.out; rw [HG.out, Bool.and_true] at hnum; clear hw1)
    | (go_at_call 58; refine hnum.mono ?_; rintro e w2 ⟨rfl, hw2, hb2⟩; clear hnum; have hB2 := Nat.le_trans hB1 hb2.size; have hdone := wdone_good _ _ _ w2 hw2 (by omega); have HW2 := Lib.hid hw2; clear hw2)
    | (go_at_call 59; refine hdone.mono ?_; rintro e w3 ⟨v3, rfl, ho3, hb3⟩; clear hdone; have HO3 := Lib.hid ho3; have hs3 := hb3.size; have hput := put_any p c zs w3 hl (HZ.out.below ((hb0.trans hb1).trans (hb2.trans (hb3.mono hB2)))); clear ho3)
    | (go_at_call 60; refine hput.mono ?_; rintro e w4 hp4; clear hput; obtain ⟨v4, rfl, ho4, hb4⟩ : Made 5 w3 (puts zs) (fun v => .tuple #[v, .int .i64 0]) e w4 := (by rcases hp4 with h | h; exact h.2; rw [HG.out] at h; cases h.1); clear hp4; obtain ⟨g4, c4, rfl, _, _⟩ := ho4.form hn; have HO4 := Lib.hid ho4; have hs4 := hb4.size; clear ho4)
    | (go_at_call 61; refine (eight_any x _).mono ?_; rintro e w5 ⟨v5, rfl, ho5, hb5⟩; rw [len_eight] at ho5; have HO5 := Lib.hid ho5; have hs5 := hb5.size; clear ho5)
    | (at_builtin; refine wpList_append_own _ rfl (.tmp 37) (.tmp 38) 67 rfl w4.heap.size 5 i0 (.int .u8 0) 1 1 Try.underlying67 hi hz0 hz1 hz2 rfl (by decide) _ _ _ rfl HO5.out ⟨g4, 0, none⟩ (puts zs).length c4 (cells8 (puts zs)) rfl (by rw [len_cells8, Nat.mul_one]) ((own_below HO4.out hb5).cells rfl) (cells8_one _) (by unfold maxLen; omega) (by omega) (by omega) ?_; intro v6 w6 ho6 hg6 _; have hb6 : Below w4.heap.size w4 w6 := hb5.grown hg6 hs5 (fun k hk => (HO5.out.lt k hk).1); have HO6 := Lib.hid (own_join (eight x) (puts zs) ho6); have hs6 := hb6.size; clear ho6 hg6)
    | fail)
  refine (wnum_zero _ _ _ _).mono ?_
  rintro e w6' ⟨rfl, rfl⟩
  have b26 : Below w2.heap.size w2 w6 := hb3.trans ((hb4.trans (hb6.mono hs4)).mono hs3)
  have hdone2 := wdone_good _ _ _ w6 (HW2.out.below b26) (by omega)
  go_wp2_with fail
  refine hdone2.mono ?_
  rintro e w7 ⟨v7, rfl, ho7, hb7⟩
  clear hdone2
  have HO7 := Lib.hid ho7
  clear ho7
  have hs7 := hb7.size
  have hc7 : (w7.alloc (.cells #[.int .i64 1] 3)).cell? ⟨w7.heap.size, 0, none⟩ = some (.int .i64 1) := by
    rw [cell_of_row _ _ 0 _ _ (0, 0) (heap_alloc_new w7 (.cells #[.int .i64 1] 3))]; rfl
  have hone := wnum_one_nil w7.heap.size 0 1 1 _ (by omega) (by omega) hc7
  have hb8 : Below w7.heap.size w7 (w7.alloc (.cells #[.int .i64 1] 3)) := (Below.refl _ _).alloc (Nat.le_refl _) _
  clear hc7
  go_wp2_with (first
    | (go_at_call 58; refine hone.mono ?_; rintro e w8 ⟨rfl, rfl⟩; clear hone)
    | (go_at_call 57; refine (wbits_nil _ _).mono ?_; rintro e w8 ⟨rfl, rfl⟩)
    | (go_at_call 59; refine (wdone_nil _).mono ?_; rintro e w8 ⟨rfl, rfl⟩)
    | (go_at_call 56; refine (alive_any _).mono ?_; rintro e w9 ⟨rfl, hb9⟩; have b79 : Below w7.heap.size w7 w9 := hb8.trans (hb9.mono hb8.size); have b69 : Below w6.heap.size w6 w9 := hb7.trans (b79.mono hs7); have b39 : Below w3.heap.size w3 w9 := (hb4.trans (hb6.mono hs4)).trans (b69.mono (Nat.le_trans hs4 hs6)); have t3 := text (own_below HO3.out b39); have t6 := text (own_below HO6.out b69); have t7 := text (own_below HO7.out b79); generalize strOfNums (eight x ++ puts zs) = T at t3 t6 t7))
  go_ret
  exact ⟨rfl, (hb0.trans (hb1.trans hb2)).trans ((hb3.trans (b39.mono hs3)).mono hB2)⟩

theorem put_none (p : Option Addr) (c : Nat) (w : World) :
    Calls Try.prog 60 #[.slice p 0 c] w fun e w' => e = .returned (.tuple #[.slice none 0 0, .int .i64 0]) ∧ w = w' := by
  go_enter Try.func60, Try.ntmps60
  go_wp2
  refine wp_loop_rounds 1 ?_
  rw [rounds_succ]
  go_wp2
  go_ret2
  exact ⟨rfl, rfl⟩

/-- The end that all ways have: no writer, the live question. -/
theorem one_nil (w7 : World) : Calls Try.prog 58 #[.pointer none, .slice (some ⟨w7.heap.size, 0, none⟩) 1 1] (w7.alloc (.cells #[.int .i64 1] 3)) fun e w' => e = .returned (.pointer none) ∧ w7.alloc (.cells #[.int .i64 1] 3) = w' := by
  refine wnum_one_nil w7.heap.size 0 1 1 _ (by omega) (by omega) ?_
  rw [cell_of_row _ _ 0 _ _ (0, 0) (heap_alloc_new w7 (.cells #[.int .i64 1] 3))]
  rfl

set_option maxRecDepth 100000 in
set_option maxHeartbeats 2000000 in
theorem walk_none (p : Option Addr) (c : Nat) (x : Int) (W : World) :
    Calls Try.prog 11 #[.slice p 0 c, .int .u64 x] W fun e w' => e = .returned (.bool true) ∧ Below W.heap.size W w' := by
  obtain ⟨i0, hi, hz0, hz1, hz2⟩ := info_parts info8
  obtain ⟨hw0, hb0⟩ := fresh W
  have hbits := wbits_any _ _ _ true x _ hw0 (by simp) hb0.size
  clear hw0
  rw [List.nil_append] at hbits
  have hL : (eight x).length ≤ 1300 := by rw [len_eight]; omega
  go_enter Try.func11, Try.ntmps11
  go_wp2_with (first
    | (go_at_call 57; refine hbits.mono ?_; rintro e w1 ⟨rfl, hw1, hb1⟩; clear hbits; have hB1 := Nat.le_trans hb0.size hb1.size; have hdone := wdone_good _ _ _ w1 hw1 (by omega); have HW1 := Lib.hid hw1; clear hw1)
    | (go_at_call 58; (with_reducible refine (wnum_zero _ _ _ _).mono ?_); rintro e w2 ⟨rfl, rfl⟩)
    | (go_at_call 59; refine hdone.mono ?_; rintro e w3 ⟨v3, rfl, ho3, hb3⟩; clear hdone; have HO3 := Lib.hid ho3; have hs3 := hb3.size; clear ho3)
    | (go_at_call 60; refine (put_none _ _ _).mono ?_; rintro e w4 ⟨rfl, rfl⟩)
    | (go_at_call 61; refine (eight_any x _).mono ?_; rintro e w5 ⟨v5, rfl, ho5, hb5⟩; have HO5 := Lib.hid ho5; have hs5 := hb5.size; clear ho5; have b15 : Below w1.heap.size w1 w5 := hb3.trans (hb5.mono hs3); have hdone2 := wdone_good _ _ _ w5 (HW1.out.below b15) (by omega))
    | (at_builtin; refine wpList_append_own_none rfl (.tmp 37) (.tmp 38) 67 rfl w3.heap.size 5 i0 1 Try.underlying67 hi _ _ _ rfl HO5.out rfl ?_)
    | (go_at_call 59; refine hdone2.mono ?_; rintro e w7 ⟨v7, rfl, ho7, hb7⟩; clear hdone2; have HO7 := Lib.hid ho7; have hs7 := hb7.size; clear ho7; have hone := one_nil w7; have hb8 : Below w7.heap.size w7 (w7.alloc (.cells #[.int .i64 1] 3)) := (Below.refl _ _).alloc (Nat.le_refl _) _)
    | fail)
  go_wp2_with (first
    | (go_at_call 58; refine hone.mono ?_; rintro e w8 ⟨rfl, rfl⟩; clear hone)
    | (go_at_call 57; refine (wbits_nil _ _).mono ?_; rintro e w8 ⟨rfl, rfl⟩)
    | (go_at_call 59; refine (wdone_nil _).mono ?_; rintro e w8 ⟨rfl, rfl⟩)
    | (go_at_call 56; refine (alive_any _).mono ?_; rintro e w9 ⟨rfl, hb9⟩; have b79 : Below w7.heap.size w7 w9 := hb8.trans (hb9.mono hb8.size); have b59 : Below w5.heap.size w5 w9 := hb7.trans (b79.mono hs7); have b39 : Below w3.heap.size w3 w9 := hb5.trans (b59.mono hs5); have t3 := text (own_below HO3.out b39); have t6 := text (own_below HO5.out b59); have t7 := text (own_below HO7.out b79); generalize strOfNums (eight x) = T at t3 t6 t7))
  go_ret
  exact ⟨rfl, (hb0.trans hb1).trans ((hb3.trans (b39.mono hs3)).mono hB1)⟩

set_option maxRecDepth 100000 in
set_option maxHeartbeats 2000000 in
theorem walk_bad (p : Option Addr) (c : Nat) (zs : List Int) (x : Int) (W : World) (hz : Ints W p zs) (hl : zs.length ≤ 150) (hg : goods zs = false) :
    Calls Try.prog 11 #[.slice p zs.length c, .int .u64 x] W fun e w' => e = .returned (.bool true) ∧ Below W.heap.size W w' := by
  obtain ⟨i0, hi, hz0, hz1, hz2⟩ := info_parts info8
  obtain ⟨hw0, hb0⟩ := fresh W
  have hbits := wbits_any _ _ _ true x _ hw0 (by simp) hb0.size
  clear hw0
  rw [List.nil_append] at hbits
  have HZ := Lib.hid hz
  have HG := Lib.hid hg
  clear hz hg
  have tnil := fun w => text_nil w
  generalize strOfNums [] = T at tnil
  go_enter Try.func11, Try.ntmps11
  go_wp2_with (first
    | (go_at_call 57; refine hbits.mono ?_; rintro e w1 ⟨rfl, hw1, hb1⟩; clear hbits; have hB1 := Nat.le_trans hb0.size hb1.size; have hnum := wnum_any _ _ _ true p c zs w1 W hw1 (by rw [len_eight]; omega) hB1 hl rfl (hb0.trans hb1) HZ.out; rw [HG.out, Bool.and_false] at hnum; clear hw1)
    | (go_at_call 58; (with_reducible refine hnum.mono ?_); rintro e w2 ⟨rfl, hw2, hb2⟩; clear hnum; have hB2 := Nat.le_trans hB1 hb2.size; have hdone := wdone_bad _ _ _ w2 hw2; have HW2 := Lib.hid hw2; clear hw2; have hput := put_any p c zs w2 hl (HZ.out.below ((hb0.trans hb1).trans hb2)))
    | (go_at_call 59; (with_reducible refine hdone.mono ?_); rintro e w3 ⟨rfl, rfl⟩; clear hdone)
    | (go_at_call 60; refine hput.mono ?_; rintro e w4 hp4; clear hput; obtain ⟨rfl, hb4⟩ : e = .returned (.tuple #[.slice none 0 0, .int .i64 1]) ∧ Below w2.heap.size w2 w4 := (by rcases hp4 with h | h; (rw [HG.out] at h; cases h.1); exact h.2); clear hp4; have hs4 := hb4.size)
    | (go_at_call 61; refine (eight_any x _).mono ?_; rintro e w5 ⟨v5, rfl, ho5, hb5⟩; have HO5 := Lib.hid ho5; have hs5 := hb5.size; clear ho5; have b25 : Below w2.heap.size w2 w5 := hb4.trans (hb5.mono hs4); have hdone2 := wdone_bad _ _ _ w5 (HW2.out.below b25))
    | (at_builtin; refine wpList_append_own_none rfl (.tmp 37) (.tmp 38) 67 rfl w4.heap.size 5 i0 1 Try.underlying67 hi _ _ _ rfl HO5.out rfl ?_)
    | (go_at_call 58; (with_reducible refine (wnum_zero (some ⟨W.heap.size, 0, none⟩) none 0 _).mono ?_); rintro e w6 ⟨rfl, rfl⟩)
    | (go_at_call 59; (with_reducible refine hdone2.mono ?_); rintro e w7 ⟨rfl, rfl⟩; clear hdone2; have hone := one_nil w5; have hb8 : Below w5.heap.size w5 (w5.alloc (.cells #[.int .i64 1] 3)) := (Below.refl _ _).alloc (Nat.le_refl _) _)
    | fail)
  go_wp2_with (first
    | (go_at_call 58; refine hone.mono ?_; rintro e w8 ⟨rfl, rfl⟩; clear hone)
    | (go_at_call 57; refine (wbits_nil _ _).mono ?_; rintro e w8 ⟨rfl, rfl⟩)
    | (go_at_call 59; refine (wdone_nil _).mono ?_; rintro e w8 ⟨rfl, rfl⟩)
    | (go_at_call 56; refine (alive_any _).mono ?_; rintro e w9 ⟨rfl, hb9⟩; have b59 : Below w5.heap.size w5 w9 := hb8.trans (hb9.mono hb8.size)))
  go_ret
  exact ⟨rfl, ((hb0.trans hb1).trans hb2).trans ((b25.trans (b59.mono (Nat.le_trans hs4 hs5))).mono hB2)⟩

theorem walk (W : World) (p : Option Addr) (c : Nat) (zs : List Int) (_ : p = none → zs = [] ∧ c = 0) (_ : (zs.length : Int) ≤ 9223372036854775807) (_ : ∀ n ∈ zs, (Lit.int .i64 n).wf = true)
    (hz : Ints W p zs) (x : Int) (_ : (Lit.int .u64 x).wf = true) :
    Calls Try.prog 11 #[.slice p zs.length c, .int .u64 x] W fun e w' => e = .returned (.bool true) ∧ Below W.heap.size W w' := by
  by_cases hl : zs.length ≤ 150
  · by_cases hn : zs = []
    · subst hn
      exact walk_none p c x W
    · cases hg : goods zs with
      | true => exact walk_good p c zs x W hz hl hn hg
      | false => exact walk_bad p c zs x W hz hl hg
  · exact long p zs.length c x W (by omega)

theorem own : ownKnob Try.prog.godebug = none := by kernel_rfl

set_option maxRecDepth 100000 in
theorem lifted (os : Os) (started : os.Started) (H : Type) (enc : TypeId × Value → H) :
    ReturnsInHanded {} Try.checked os 11 .any (Rows.codecWritesSpec.pre6 enc Try.prog Try.f11 Rows.codecWritesRow.domain false) (Rows.codecWritesSpec.post enc Try.prog Try.f11 false true false false) := by
  refine returnsInHanded_of_change (C := Try.checked) own started (by kernel_rfl) Try.func11
    (ChangeSpec.witness6 (enc := enc) (C := Try.checked) false ⟨#[], #[.slice none 0 0, .int .u64 0], []⟩ 16 (by kernel_rfl) (by kernel_rfl) (by kernel_rfl) (by kernel_rfl)) ?_
  intro W base args ds gs before hval0 hW hcnd _
  have hval : ∀ (j : Nat) t v, Try.f11.params[j]? = some t → args[j]? = some v → Value.okWide Try.prog W .any base t v := hval0
  have hW' := hW
  obtain ⟨p, q, hA0, hV, rfl, hfz, hnd⟩ := hW
  have hA : DataW.TrodAll enc Try.prog W 0 (fun _ => true) true Try.f11.params.toList args.toList ds p := hA0
  rw [Try.params11] at hA hval
  obtain ⟨v0, vs0, d0, ds0, p0, q0, hargs, rfl, rfl, h0, r0⟩ := trodAll_cons hA
  obtain ⟨v1, vs1, d1, ds1, p1, q1, rfl, rfl, rfl, h1, r1⟩ := trodAll_cons r0
  obtain ⟨rfl, rfl, rfl⟩ := trodAll_nil r1
  obtain rfl : args = #[v0, v1] := by cases args; simp_all
  obtain ⟨rfl, rfl⟩ := trodVars_none hV
  obtain ⟨p0', c0, zs0, rfl, hn0, hl0, hw0, hz0⟩ := Row.open_nums Try.underlying30 Try.underlying3 (by kernel_rfl) (hval 0 30 v0 rfl rfl) h0
  obtain ⟨a1, rfl, -, -, w1⟩ := open_int Try.underlying27 (hval 1 27 v1 rfl rfl) h1
  clear hA0 hval0
  refine (walk W p0' c0 zs0 hn0 hl0 hw0 hz0 a1 w1).mono fun e W' ⟨he, hg⟩ => ?_
  subst he
  exact ⟨_, rfl, Row.law_post hW' rfl rfl rfl rfl (by kernel_rfl) Try.underlying4 (by kernel_rfl) (by kernel_rfl) hg⟩

theorem over : Rows.codecWritesRow.holds Try.pinned (OpenSpec.ofChange Rows.codecWritesSpec) :=
  OpenClaim.holds_of_wide 11 Try.f11 rfl rfl rfl rfl rfl rfl rfl ⟨rfl, rfl, rfl, rfl, rfl⟩ rfl rfl rfl rfl rfl (by kernel_rfl) Try.func11 (by kernel_rfl)
    (of_decide_eq_true (by kernel_rfl)) (by unfold Func.isWrapper; first | (rw [if_pos (by decide +kernel)]; kernel_rfl) | (rw [if_neg (by decide +kernel)]; exact ⟨rfl, rfl⟩))
    (fun os started H enc _ => lifted os started H enc)

/-- The given statement. -/
theorem proved : Rows.CodecWritesSaid :=
  over
#print axioms proved
end Go.Proofs.Ytblmmijjabahiaa.codecWrites
