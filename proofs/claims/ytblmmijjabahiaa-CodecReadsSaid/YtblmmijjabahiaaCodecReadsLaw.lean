/-
  CodecReads: for all bytes and every list of acts: whatever is read, in any order, is as the document says, and behind each act whether all is read; no reader tells 0, and ErrArg; of more than 2000 bytes, or 150 acts, the live question alone is asked. No conditions: any bytes, any acts.
-/
import Derived.Test.YtblmmijjabahiaaRows
import Derived.Test.YtblmmijjabahiaaCodecAlive
import Derived.Test.YtblmmijjabahiaaCodecOpen
import Derived.Deep.RegionHeld3
import Derived.Laws.AppendOwnNone
namespace Go.Proofs.Ytblmmijjabahiaa.codecReads
open Go.ChangeShapes Go.WideShapes Go.RowKit Codec

theorem long (p q : Option Addr) (n c m d : Nat) (w : World) (h : 2000 < (n : Int)) :
    Calls Try.prog 12 #[.slice p n c, .slice q m d] w fun e w' => e = .returned (.bool true) ∧ Below w.heap.size w w' := by
  go_enter Try.func12, Try.ntmps12
  go_wp2_with (go_at_call 56; (with_reducible refine (alive_any _).mono ?_); rintro e w' ⟨rfl, hg⟩)
  go_ret
  exact ⟨rfl, hg⟩
theorem many (p q : Option Addr) (n c m d : Nat) (w : World) (h0 : (n : Int) ≤ 2000) (h : 150 < (m : Int)) :
    Calls Try.prog 12 #[.slice p n c, .slice q m d] w fun e w' => e = .returned (.bool true) ∧ Below w.heap.size w w' := by
  go_enter Try.func12, Try.ntmps12
  go_wp2_with (go_at_call 56; (with_reducible refine (alive_any _).mono ?_); rintro e w' ⟨rfl, hg⟩)
  go_ret
  exact ⟨rfl, hg⟩

/-- A list of acts. -/
def Acts (w : World) (p : Option Addr) (zs : List (Int × Int)) : Prop :=
  zs = [] ∨ ∃ b o, p = some ⟨b, o, none⟩ ∧ ∀ j, j < zs.length → w.cell? ⟨b, o + j * 2, none⟩ = some (.int .u8 (zs.getD j (0, 0)).1) ∧ w.cell? ⟨b, o + j * 2 + 1, none⟩ = some (.int .i64 (zs.getD j (0, 0)).2)

/-- Two readers, the program's and the document's, and how each stands. -/
structure Duo (W : World) (r m : Nat) (u : World) (a b : St) : Prop where
  one : Rdr 106 5 u r a.1 a.2
  two : Rdr 82 5 u m b.1 b.2
  below : Below W.heap.size W u
  ge : W.heap.size ≤ r ∧ W.heap.size ≤ m
  ne : r ≠ m
  y1 : IsBytes a.1
  y2 : IsBytes b.1
section
variable {W u w' : World} {r m : Nat} {a b : St} {e : Ending} {v : Value}
theorem Duo.drew (h : Duo W r m u a b) : Duo W r m u.drew a b := ⟨h.one, h.two, h.below.drew, h.ge, h.ne, h.y1, h.y2⟩
theorem Duo.on (h : Duo W r m u a b) (hb : Below u.heap.size u w') : Duo W r m w' a b :=
  ⟨h.one.below hb, h.two.below hb, h.below.trans (hb.mono h.below.size), h.ge, h.ne, h.y1, h.y2⟩
theorem Duo.step1 {a' : St} (h : Duo W r m u a b) (hy : IsBytes a'.1) (hs : Step 106 5 u r a' v e w') : e = .returned v ∧ Duo W r m w' a' b :=
  ⟨hs.1, hs.2.1, h.two.other h.one (by decide) h.ne.symm hs.2.2, h.below.grown hs.2.2 h.below.size (fun k hk => by cases hk; exact h.ge.1), h.ge, h.ne, hy, h.y2⟩
theorem Duo.step2 {b' : St} (h : Duo W r m u a b) (hy : IsBytes b'.1) (hs : Step 82 5 u m b' v e w') : e = .returned v ∧ Duo W r m w' a b' :=
  ⟨hs.1, h.one.other h.two (by decide) h.ne hs.2.2, hs.2.1, h.below.grown hs.2.2 h.below.size (fun k hk => by cases hk; exact h.ge.2), h.ge, h.ne, h.y1, hy⟩
theorem Duo.upto1 {y z : Int} {a' : St} (h : Duo W r m u a b) (e : pUpto y a = (z, a')) :
    Calls Try.prog 67 #[.pointer (some ⟨r, 0, none⟩), .int .i64 y] u fun e w' => e = .returned (.int .i64 z) ∧ Duo W r m w' a' b := by
  have := pupto_any r a y u h.one h.y1
  have hy := pUpto_ok y h.y1
  rw [e] at this hy
  exact this.mono fun _ _ k => h.step1 hy k
theorem Duo.upto2 {y z : Int} {b' : St} (h : Duo W r m u a b) (h0 : -9223372036854775808 ≤ y) (h1 : y ≤ 9223372036854775807) (e : rUpto y b = (z, b')) :
    Calls Try.prog 68 #[.pointer (some ⟨m, 0, none⟩), .int .i64 y] u fun e w' => e = .returned (.int .i64 z) ∧ Duo W r m w' a b' := by
  have := rupto_any m b y u h.two h.y2 h0 h1
  have hy := rUpto_ok y h.y2
  rw [e] at this hy
  exact this.mono fun _ _ k => h.step2 hy k
theorem Duo.num1 {z : Int} {a' : St} (h : Duo W r m u a b) (e : pUpto 4611686018427387904 a = (z, a')) :
    Calls Try.prog 63 #[.pointer (some ⟨r, 0, none⟩)] u fun e w' => e = .returned (.int .i64 z) ∧ Duo W r m w' a' b := by
  have := pnum_any r a u h.one h.y1
  have hy := pUpto_ok 4611686018427387904 h.y1
  rw [e] at this hy
  exact this.mono fun _ _ k => h.step1 hy k
theorem Duo.num2 {z : Int} {b' : St} (h : Duo W r m u a b) (e : rUpto 4611686018427387904 b = (z, b')) :
    Calls Try.prog 64 #[.pointer (some ⟨m, 0, none⟩)] u fun e w' => e = .returned (.int .i64 z) ∧ Duo W r m w' a b' := by
  have := rnum_any m b u h.two h.y2
  have hy := rUpto_ok 4611686018427387904 h.y2
  rw [e] at this hy
  exact this.mono fun _ _ k => h.step2 hy k
theorem Duo.bits1 {z : Int} {a' : St} (h : Duo W r m u a b) (e : pBits a = (z, a')) :
    Calls Try.prog 65 #[.pointer (some ⟨r, 0, none⟩)] u fun e w' => e = .returned (.int .u64 z) ∧ Duo W r m w' a' b := by
  have := pbits_any r a u h.one h.y1
  have hy := pBits_ok h.y1
  rw [e] at this hy
  exact this.mono fun _ _ k => h.step1 hy k
theorem Duo.bits2 {z : Int} {b' : St} (h : Duo W r m u a b) (e : rBits b = (z, b')) :
    Calls Try.prog 66 #[.pointer (some ⟨m, 0, none⟩)] u fun e w' => e = .returned (.int .u64 z) ∧ Duo W r m w' a b' := by
  have := rbits_any m b u h.two h.y2
  have hy := rBits_ok h.y2
  rw [e] at this hy
  exact this.mono fun _ _ k => h.step2 hy k
theorem Duo.done1 {z : Int} (h : Duo W r m u a b) (e : tell a = z) : Calls Try.prog 69 #[.pointer (some ⟨r, 0, none⟩)] u fun e w' => e = .returned (.int .i64 z) ∧ u = w' := by
  have := pdone_any r a u h.one
  rwa [e] at this
theorem Duo.done2 {z : Int} (h : Duo W r m u a b) (e : tell b = z) : Calls Try.prog 70 #[.pointer (some ⟨m, 0, none⟩)] u fun e w' => e = .returned (.int .i64 z) ∧ u = w' := by
  have := rdone_any m b u h.two
  rwa [e] at this
end

/-- Both tell the same, and stand alike again. -/
theorem both_upto {a b : St} (y : Int) (h : Codec.Alike a b) : ∃ z a' b', pUpto y a = (z, a') ∧ rUpto y b = (z, b') ∧ Codec.Alike a' b' := by
  obtain ⟨h1, h2⟩ := alike_upto y h
  exact ⟨(pUpto y a).1, (pUpto y a).2, (rUpto y b).2, rfl, by rw [h1], h2⟩
theorem both_bits {a b : St} (h : Codec.Alike a b) : ∃ z a' b', pBits a = (z, a') ∧ rBits b = (z, b') ∧ Codec.Alike a' b' := by
  obtain ⟨h1, h2⟩ := alike_bits h
  exact ⟨(pBits a).1, (pBits a).2, (rBits b).2, rfl, by rw [h1], h2⟩

set_option maxRecDepth 100000 in
set_option maxHeartbeats 2000000 in
theorem walk_small (p : Option Addr) (c : Nat) (bs : List Int) (q : Option Addr) (d : Nat) (zs : List (Int × Int)) (W : World) (hp : p = none → bs = [] ∧ c = 0) (hy : IsBytes bs) (hc : Cel W p bs) (hl : bs.length ≤ 2000)
    (hz : Acts W q zs) (hw : ∀ n ∈ zs, (Lit.int .u8 n.1).wf = true ∧ (Lit.int .i64 n.2).wf = true) (hm : zs.length ≤ 150) :
    Calls Try.prog 12 #[.slice p bs.length c, .slice q zs.length d] W fun e w' => e = .returned (.bool true) ∧ Below W.heap.size W w' := by
  obtain ⟨i0, hi, hz0, hz1, hz2⟩ := info_parts info8
  have hread := read_any p c bs W (by omega) hc (fun e => (hp e).1)
  have HY := Lib.hid hy
  have HC := Lib.hid hc
  have HZ := Lib.hid hz
  have HW := Lib.hid hw
  clear hy hc hz hw
  rcases p with _ | pa
  · obtain ⟨rfl, rfl⟩ := hp rfl
    clear hp
    go_enter Try.func12, Try.ntmps12
    go_wp2_with (first
      | (go_at_call 62; refine hread.mono ?_; rintro e w1 ⟨r, hr1, rfl, hR1, hb1⟩; clear hread; have hs1 := hb1.size; have HR1 := Lib.hid hR1; clear hR1; have HM1 := Lib.hid (World.ownsRow_made (size := 1) (base := w1.heap.size) (e := 5) w1 #[] 0 (Nat.le_refl _) (Nat.zero_le _) rfl))
      | (at_builtin; refine wpList_append_own_none rfl (.tmp 21) (.tmp 22) 67 rfl w1.heap.size 5 i0 1 Try.underlying67 hi _ _ _ rfl HM1.out rfl ?_)
      | fail)
    have T8 : Duo W r (w1.heap.size + 1) ((w1.alloc (.cells #[] 5)).alloc (.cells #[.slice (some ⟨w1.heap.size, 0, none⟩) 0 0, .bool false] 82)) ([], false) ([], false) := by
      have b1e : Below w1.heap.size w1 ((w1.alloc (.cells #[] 5)).alloc (.cells #[.slice (some ⟨w1.heap.size, 0, none⟩) 0 0, .bool false] 82)) := ((Below.refl _ _).alloc (Nat.le_refl _) _).alloc (by simp) _
      have l1 := HR1.out.lt
      have hn := heap_alloc_new (w1.alloc (.cells #[] 5)) (.cells #[.slice (some ⟨w1.heap.size, 0, none⟩) 0 0, .bool false] 82)
      rw [show (w1.alloc (.cells #[] 5)).heap.size = w1.heap.size + 1 by simp] at hn
      exact ⟨HR1.out.below b1e, ⟨_, 0, hn, Nat.le_refl _, Nat.zero_le _, .inl rfl⟩, hb1.trans (b1e.mono hs1), ⟨hr1, by omega⟩, by omega, HY.out, HY.out⟩
    have HT := Lib.hid T8
    clear T8 HR1 hb1 hs1 hr1 HM1 hi hz0 hz1 hz2 HY HC
    go_loopw [7] (fun i wr => ∃ k : Nat, k ≤ zs.length ∧ i = .int .i64 (k : Int) ∧ ∃ a b, Hid (Duo W r (w1.heap.size + 1) wr a b) ∧ Hid (Codec.Alike a b)) (fun i _ => zs.length - (intOf i).toNat)
    case atStart => exact ⟨0, by omega, rfl, _, _, HT, alike_start _⟩
    case round =>
      obtain ⟨k, hk, rfl, a, b, hT, hA⟩ := hrel
      by_cases hlt : k < zs.length
      · obtain ⟨g, o, rfl, hcl⟩ : ∃ g o, q = some ⟨g, o, none⟩ ∧ ∀ j, j < zs.length → W.cell? ⟨g, o + j * 2, none⟩ = some (.int .u8 (zs.getD j (0, 0)).1) ∧ W.cell? ⟨g, o + j * 2 + 1, none⟩ = some (.int .i64 (zs.getD j (0, 0)).2) := by
          rcases HZ.out with h | h
          · rw [h] at hlt; simp at hlt
          · exact h
        have hkk := hcl k hlt
        have hwk := HW.out (zs.getD k (0, 0)) (by simp [List.getD, hlt])
        generalize zs.getD k (0, 0) = yz at hkk hwk
        obtain ⟨y, μ⟩ := yz
        simp only at hkk hwk
        have hgB : g < W.heap.size := World.block_lt_of_cell? _ _ hkk.1
        have c0 : wr.cell? ⟨g, o + k * 2, none⟩ = some (.int .u8 y) := (hT.out.below.cell (p := ⟨g, o + k * 2, none⟩) hgB).trans hkk.1
        have c1 : wr.cell? ⟨g, o + k * 2 + 1, none⟩ = some (.int .i64 μ) := (hT.out.below.cell (p := ⟨g, o + k * 2 + 1, none⟩) hgB).trans hkk.2
        have HK := Lib.hid hkk.2
        obtain ⟨y0, y1⟩ := Row.u8_bounds hwk.1
        obtain ⟨m0, m1⟩ := Row.i64_bounds hwk.2
        have hlt' : (k : Int) < (zs.length : Int) := by omega
        clear hcl hkk hwk HT
        rcases (show y % 3 = 0 ∨ y % 3 = 1 ∨ y % 3 = 2 by omega) with h3 | h3 | h3
        · obtain ⟨z, a', b', e1, e2, hA'⟩ := both_upto 4611686018427387904 hA.out
          have E1 := Lib.hid e1
          have E2 := Lib.hid e2
          have HA := Lib.hid hA'
          have HD := Lib.hid (alike_tell hA').symm
          clear e1 e2 hA' hA
          go_wp2_with (first
            | (go_at_call 63; (with_reducible refine (hT.out.num1 E1.out).mono ?_); rintro e u1 ⟨rfl, T1⟩; clear hT)
            | (go_at_call 64; (with_reducible refine (T1.num2 E2.out).mono ?_); rintro e u2 ⟨rfl, T2⟩; clear T1)
            | (go_at_call 69; (with_reducible refine (T2.done1 rfl).mono ?_); rintro e u3 ⟨rfl, rfl⟩)
            | (go_at_call 70; (with_reducible refine (T2.done2 HD.out).mono ?_); rintro e u4 ⟨rfl, rfl⟩))
          go_roundw
          case rel => exact ⟨k + 1, by omega, by go_num, _, _, T2, HA⟩
          case measure => simp [intOf]; omega
        · obtain ⟨z, a', b', e1, e2, hA'⟩ := both_bits hA.out
          have E1 := Lib.hid e1
          have E2 := Lib.hid e2
          have HA := Lib.hid hA'
          have HD := Lib.hid (alike_tell hA').symm
          clear e1 e2 hA' hA
          go_wp2_with (first
            | (go_at_call 65; (with_reducible refine (hT.out.bits1 E1.out).mono ?_); rintro e u1 ⟨rfl, T1⟩; clear hT)
            | (go_at_call 66; (with_reducible refine (T1.bits2 E2.out).mono ?_); rintro e u2 ⟨rfl, T2⟩; clear T1)
            | (go_at_call 69; (with_reducible refine (T2.done1 rfl).mono ?_); rintro e u3 ⟨rfl, rfl⟩)
            | (go_at_call 70; (with_reducible refine (T2.done2 HD.out).mono ?_); rintro e u4 ⟨rfl, rfl⟩))
          go_roundw
          case rel => exact ⟨k + 1, by omega, by go_num, _, _, T2, HA⟩
          case measure => simp [intOf]; omega
        · obtain ⟨z, a', b', e1, e2, hA'⟩ := both_upto μ hA.out
          have E1 := Lib.hid e1
          have E2 := Lib.hid e2
          have HA := Lib.hid hA'
          have HD := Lib.hid (alike_tell hA').symm
          clear e1 e2 hA' hA
          have T0 := hT.out.drew
          clear hT
          go_wp2
          go_region_held3 (fun u => u.cell? ⟨g, o + k * 2 + 1, none⟩ = some (.int .i64 μ)) (first | assumption | exact c1) (first
            | (go_at_call 67; (with_reducible refine (T0.upto1 E1.out).mono ?_); rintro e u1 ⟨rfl, T1⟩; clear T0; have l1 : u1.cell? ⟨g, o + k * 2 + 1, none⟩ = some (.int .i64 μ) := (T1.below.cell (p := ⟨g, o + k * 2 + 1, none⟩) hgB).trans HK.out)
            | (go_at_call 68; (with_reducible refine (T1.upto2 m0 m1 E2.out).mono ?_); rintro e u2 ⟨rfl, T2⟩; clear T1; have l2 : u2.cell? ⟨g, o + k * 2 + 1, none⟩ = some (.int .i64 μ) := (T2.below.cell (p := ⟨g, o + k * 2 + 1, none⟩) hgB).trans HK.out))
          clear l1 l2 c0 c1
          go_wp2_with (first
            | (go_at_call 69; (with_reducible refine (T2.done1 rfl).mono ?_); rintro e u3 ⟨rfl, rfl⟩)
            | (go_at_call 70; (with_reducible refine (T2.done2 HD.out).mono ?_); rintro e u4 ⟨rfl, rfl⟩))
          go_roundw
          case rel => exact ⟨k + 1, by omega, by go_num, _, _, T2, HA⟩
          case measure => simp [intOf]; omega
      · obtain rfl : k = zs.length := by omega
        have T0 := hT.out
        clear hT hA HT HZ HW
        go_wp2_with (first
          | (go_at_call 56; refine (alive_any _).mono ?_; rintro e u1 ⟨rfl, hb9⟩; have T1 := T0.on hb9; clear hb9 T0)
          | (go_at_call 63; (with_reducible refine (pnum_nil _).mono ?_); rintro e u2 ⟨rfl, rfl⟩)
          | (go_at_call 65; (with_reducible refine (pbits_nil _).mono ?_); rintro e u2 ⟨rfl, rfl⟩)
          | (go_at_call 67; (with_reducible refine (pupto_nil _ _).mono ?_); rintro e u2 ⟨rfl, rfl⟩)
          | (go_at_call 69; (with_reducible refine (pdone_nil _).mono ?_); rintro e u2 ⟨rfl, rfl⟩))
        go_ret
        exact ⟨rfl, T1.below⟩
  · clear hp
    go_enter Try.func12, Try.ntmps12
    go_wp2_with (first
      | (go_at_call 62; refine hread.mono ?_; rintro e w1 ⟨r, hr1, rfl, hR1, hb1⟩; clear hread; have hs1 := hb1.size; have HR1 := Lib.hid hR1; clear hR1; have b1e : Below w1.heap.size w1 (w1.alloc (.cells #[] 5)) := (Below.refl _ _).alloc (Nat.le_refl _) _; have HN1 := Lib.hid (HC.out.at_ (hb1.trans (b1e.mono hs1))); have HM1 := Lib.hid (World.ownsRow_made (size := 1) (base := w1.heap.size) (e := 5) w1 #[] 0 (Nat.le_refl _) (Nat.zero_le _) rfl))
      | (at_builtin; refine wpList_append_own _ rfl (.tmp 21) (.tmp 22) 67 rfl w1.heap.size 5 i0 (.int .u8 0) 1 1 Try.underlying67 hi hz0 hz1 hz2 rfl (by decide) _ _ _ rfl HM1.out pa bs.length c (cells8 bs) rfl (by rw [len_cells8, Nat.mul_one]) HN1.out (cells8_one _) (by unfold maxLen; omega) (by omega) (by simp) ?_; intro v2 w2 ho2 hg2 _; have hb2 : Below w1.heap.size w1 w2 := b1e.grown hg2 (by simp) (fun k hk => (HM1.out.lt k hk).1); have HO2 : Hid (w2.ownsRow w1.heap.size 5 1 v2 bs.length (cells8 bs)) := (by first | exact ho2 | (rw [Nat.zero_add, List.nil_append] at ho2; exact ho2)); obtain ⟨p2, c2, rfl, hc2, hm2, hx2, _⟩ := own_lies HO2.out; have HX2 := Lib.hid hx2; have hs2 := hb2.size; clear ho2 hg2 HM1 HN1 hx2)
      | fail)
    have T8 : Duo W r w2.heap.size (w2.alloc (.cells #[.slice p2 bs.length c2, .bool false] 82)) (bs, false) (bs, false) := by
      have b2e : Below w2.heap.size w2 (w2.alloc (.cells #[.slice p2 bs.length c2, .bool false] 82)) := (Below.refl _ _).alloc (Nat.le_refl _) _
      have l1 := HR1.out.lt
      have b13 := hb2.trans (b2e.mono hs2)
      exact ⟨HR1.out.below b13, ⟨p2, c2, heap_alloc_new _ _, hc2, hm2, HX2.out.keep (.below b2e)⟩, hb1.trans (b13.mono hs1), ⟨hr1, by omega⟩, by omega, HY.out, HY.out⟩
    have HT := Lib.hid T8
    clear T8 HR1 hb1 hs1 hr1 hb2 hs2 b1e HO2 HX2 hc2 hm2 hi hz0 hz1 hz2 HY HC
    go_loopw [7] (fun i wr => ∃ k : Nat, k ≤ zs.length ∧ i = .int .i64 (k : Int) ∧ ∃ a b, Hid (Duo W r w2.heap.size wr a b) ∧ Hid (Codec.Alike a b)) (fun i _ => zs.length - (intOf i).toNat)
    case atStart => exact ⟨0, by omega, rfl, _, _, HT, alike_start _⟩
    case round =>
      obtain ⟨k, hk, rfl, a, b, hT, hA⟩ := hrel
      by_cases hlt : k < zs.length
      · obtain ⟨g, o, rfl, hcl⟩ : ∃ g o, q = some ⟨g, o, none⟩ ∧ ∀ j, j < zs.length → W.cell? ⟨g, o + j * 2, none⟩ = some (.int .u8 (zs.getD j (0, 0)).1) ∧ W.cell? ⟨g, o + j * 2 + 1, none⟩ = some (.int .i64 (zs.getD j (0, 0)).2) := by
          rcases HZ.out with h | h
          · rw [h] at hlt; simp at hlt
          · exact h
        have hkk := hcl k hlt
        have hwk := HW.out (zs.getD k (0, 0)) (by simp [List.getD, hlt])
        generalize zs.getD k (0, 0) = yz at hkk hwk
        obtain ⟨y, μ⟩ := yz
        simp only at hkk hwk
        have hgB : g < W.heap.size := World.block_lt_of_cell? _ _ hkk.1
        have c0 : wr.cell? ⟨g, o + k * 2, none⟩ = some (.int .u8 y) := (hT.out.below.cell (p := ⟨g, o + k * 2, none⟩) hgB).trans hkk.1
        have c1 : wr.cell? ⟨g, o + k * 2 + 1, none⟩ = some (.int .i64 μ) := (hT.out.below.cell (p := ⟨g, o + k * 2 + 1, none⟩) hgB).trans hkk.2
        have HK := Lib.hid hkk.2
        obtain ⟨y0, y1⟩ := Row.u8_bounds hwk.1
        obtain ⟨m0, m1⟩ := Row.i64_bounds hwk.2
        have hlt' : (k : Int) < (zs.length : Int) := by omega
        clear hcl hkk hwk HT
        rcases (show y % 3 = 0 ∨ y % 3 = 1 ∨ y % 3 = 2 by omega) with h3 | h3 | h3
        · obtain ⟨z, a', b', e1, e2, hA'⟩ := both_upto 4611686018427387904 hA.out
          have E1 := Lib.hid e1
          have E2 := Lib.hid e2
          have HA := Lib.hid hA'
          have HD := Lib.hid (alike_tell hA').symm
          clear e1 e2 hA' hA
          go_wp2_with (first
            | (go_at_call 63; (with_reducible refine (hT.out.num1 E1.out).mono ?_); rintro e u1 ⟨rfl, T1⟩; clear hT)
            | (go_at_call 64; (with_reducible refine (T1.num2 E2.out).mono ?_); rintro e u2 ⟨rfl, T2⟩; clear T1)
            | (go_at_call 69; (with_reducible refine (T2.done1 rfl).mono ?_); rintro e u3 ⟨rfl, rfl⟩)
            | (go_at_call 70; (with_reducible refine (T2.done2 HD.out).mono ?_); rintro e u4 ⟨rfl, rfl⟩))
          go_roundw
          case rel => exact ⟨k + 1, by omega, by go_num, _, _, T2, HA⟩
          case measure => simp [intOf]; omega
        · obtain ⟨z, a', b', e1, e2, hA'⟩ := both_bits hA.out
          have E1 := Lib.hid e1
          have E2 := Lib.hid e2
          have HA := Lib.hid hA'
          have HD := Lib.hid (alike_tell hA').symm
          clear e1 e2 hA' hA
          go_wp2_with (first
            | (go_at_call 65; (with_reducible refine (hT.out.bits1 E1.out).mono ?_); rintro e u1 ⟨rfl, T1⟩; clear hT)
            | (go_at_call 66; (with_reducible refine (T1.bits2 E2.out).mono ?_); rintro e u2 ⟨rfl, T2⟩; clear T1)
            | (go_at_call 69; (with_reducible refine (T2.done1 rfl).mono ?_); rintro e u3 ⟨rfl, rfl⟩)
            | (go_at_call 70; (with_reducible refine (T2.done2 HD.out).mono ?_); rintro e u4 ⟨rfl, rfl⟩))
          go_roundw
          case rel => exact ⟨k + 1, by omega, by go_num, _, _, T2, HA⟩
          case measure => simp [intOf]; omega
        · obtain ⟨z, a', b', e1, e2, hA'⟩ := both_upto μ hA.out
          have E1 := Lib.hid e1
          have E2 := Lib.hid e2
          have HA := Lib.hid hA'
          have HD := Lib.hid (alike_tell hA').symm
          clear e1 e2 hA' hA
          have T0 := hT.out.drew
          clear hT
          go_wp2
          go_region_held3 (fun u => u.cell? ⟨g, o + k * 2 + 1, none⟩ = some (.int .i64 μ)) (first | assumption | exact c1) (first
            | (go_at_call 67; (with_reducible refine (T0.upto1 E1.out).mono ?_); rintro e u1 ⟨rfl, T1⟩; clear T0; have l1 : u1.cell? ⟨g, o + k * 2 + 1, none⟩ = some (.int .i64 μ) := (T1.below.cell (p := ⟨g, o + k * 2 + 1, none⟩) hgB).trans HK.out)
            | (go_at_call 68; (with_reducible refine (T1.upto2 m0 m1 E2.out).mono ?_); rintro e u2 ⟨rfl, T2⟩; clear T1; have l2 : u2.cell? ⟨g, o + k * 2 + 1, none⟩ = some (.int .i64 μ) := (T2.below.cell (p := ⟨g, o + k * 2 + 1, none⟩) hgB).trans HK.out))
          clear l1 l2 c0 c1
          go_wp2_with (first
            | (go_at_call 69; (with_reducible refine (T2.done1 rfl).mono ?_); rintro e u3 ⟨rfl, rfl⟩)
            | (go_at_call 70; (with_reducible refine (T2.done2 HD.out).mono ?_); rintro e u4 ⟨rfl, rfl⟩))
          go_roundw
          case rel => exact ⟨k + 1, by omega, by go_num, _, _, T2, HA⟩
          case measure => simp [intOf]; omega
      · obtain rfl : k = zs.length := by omega
        have T0 := hT.out
        clear hT hA HT HZ HW
        go_wp2_with (first
          | (go_at_call 56; refine (alive_any _).mono ?_; rintro e u1 ⟨rfl, hb9⟩; have T1 := T0.on hb9; clear hb9 T0)
          | (go_at_call 63; (with_reducible refine (pnum_nil _).mono ?_); rintro e u2 ⟨rfl, rfl⟩)
          | (go_at_call 65; (with_reducible refine (pbits_nil _).mono ?_); rintro e u2 ⟨rfl, rfl⟩)
          | (go_at_call 67; (with_reducible refine (pupto_nil _ _).mono ?_); rintro e u2 ⟨rfl, rfl⟩)
          | (go_at_call 69; (with_reducible refine (pdone_nil _).mono ?_); rintro e u2 ⟨rfl, rfl⟩))
        go_ret
        exact ⟨rfl, T1.below⟩

theorem walk (W : World) (p : Option Addr) (c : Nat) (bs : List Int) (hp : p = none → bs = [] ∧ c = 0) (_ : (bs.length : Int) ≤ 9223372036854775807) (hw : ∀ n ∈ bs, (Lit.int .u8 n).wf = true) (hc : Cel W p bs)
    (q : Option Addr) (d : Nat) (zs : List (Int × Int)) (_ : (zs.length : Int) ≤ 9223372036854775807) (hv : ∀ n ∈ zs, (Lit.int .u8 n.1).wf = true ∧ (Lit.int .i64 n.2).wf = true) (hz : Acts W q zs) :
    Calls Try.prog 12 #[.slice p bs.length c, .slice q zs.length d] W fun e w' => e = .returned (.bool true) ∧ Below W.heap.size W w' := by
  by_cases hl : bs.length ≤ 2000
  · by_cases hm : zs.length ≤ 150
    · exact walk_small p c bs q d zs W hp (fun x hx => Row.u8_bounds (hw x hx)) hc hl hz hv hm
    · exact many p q bs.length c zs.length d W (by omega) (by omega)
  · exact long p q bs.length c zs.length d W (by omega)

theorem own : ownKnob Try.prog.godebug = none := by kernel_rfl

set_option maxRecDepth 100000 in
theorem lifted (os : Os) (started : os.Started) (H : Type) (enc : TypeId × Value → H) :
    ReturnsInHanded {} Try.checked os 12 .any (Rows.codecReadsSpec.pre6 enc Try.prog Try.f12 Rows.codecReadsRow.domain false) (Rows.codecReadsSpec.post enc Try.prog Try.f12 false true false false) := by
  refine returnsInHanded_of_change (C := Try.checked) own started (by kernel_rfl) Try.func12
    (ChangeSpec.witness6 (enc := enc) (C := Try.checked) false ⟨#[], #[.slice none 0 0, .slice none 0 0], []⟩ 16 (by kernel_rfl) (by kernel_rfl) (by kernel_rfl) (by kernel_rfl)) ?_
  intro W base args ds gs before hval0 hW hcnd _
  have hval : ∀ (j : Nat) t v, Try.f12.params[j]? = some t → args[j]? = some v → Value.okWide Try.prog W .any base t v := hval0
  have hW' := hW
  obtain ⟨p, q, hA0, hV, rfl, hfz, hnd⟩ := hW
  have hA : DataW.TrodAll enc Try.prog W 0 (fun _ => true) true Try.f12.params.toList args.toList ds p := hA0
  rw [Try.params12] at hA hval
  obtain ⟨v0, vs0, d0, ds0, p0, q0, hargs, rfl, rfl, h0, r0⟩ := trodAll_cons hA
  obtain ⟨v1, vs1, d1, ds1, p1, q1, rfl, rfl, rfl, h1, r1⟩ := trodAll_cons r0
  obtain ⟨rfl, rfl, rfl⟩ := trodAll_nil r1
  obtain rfl : args = #[v0, v1] := by cases args; simp_all
  obtain ⟨rfl, rfl⟩ := trodVars_none hV
  obtain ⟨p0', c0, zs0, rfl, hn0, hl0, hw0, hz0⟩ := Row.open_nums Try.underlying67 Try.underlying5 (by kernel_rfl) (hval 0 67 v0 rfl rfl) h0
  obtain ⟨p1', c1, zs1, rfl, hl1, hw1, hz1⟩ := Row.open_twos Try.underlying77 Try.underlying84 (by kernel_rfl) rfl rfl (by kernel_rfl) (by kernel_rfl) Try.underlying5 Try.underlying3 (hval 1 77 v1 rfl rfl) h1
  clear hA0 hval0
  refine (walk W p0' c0 zs0 hn0 hl0 hw0 hz0 p1' c1 zs1 hl1 hw1 hz1).mono fun e W' ⟨he, hg⟩ => ?_
  subst he
  exact ⟨_, rfl, Row.law_post hW' rfl rfl rfl rfl (by kernel_rfl) Try.underlying4 (by kernel_rfl) (by kernel_rfl) hg⟩

theorem over : Rows.codecReadsRow.holds Try.pinned (OpenSpec.ofChange Rows.codecReadsSpec) :=
  OpenClaim.holds_of_wide 12 Try.f12 rfl rfl rfl rfl rfl rfl rfl ⟨rfl, rfl, rfl, rfl, rfl⟩ rfl rfl rfl rfl rfl (by kernel_rfl) Try.func12 (by kernel_rfl)
    (of_decide_eq_true (by kernel_rfl)) (by unfold Func.isWrapper; first | (rw [if_pos (by decide +kernel)]; kernel_rfl) | (rw [if_neg (by decide +kernel)]; exact ⟨rfl, rfl⟩))
    (fun os started H enc _ => lifted os started H enc)

/-- The given statement. -/
theorem proved : Rows.CodecReadsSaid :=
  over
#print axioms proved
end Go.Proofs.Ytblmmijjabahiaa.codecReads
