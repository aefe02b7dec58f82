/-
  The document's reader: Bits, Upto, Num, Done, of any reader's block whose bytes lie in a row of bytes: each returns what the plain functions of CodecPlain give, leaves the reader as they say, and turns no block but the reader's own.
-/
import Derived.Test.YtlbdkigiphnabaaCodecRows
namespace Go.Proofs.Ytlbdkigiphnabaa.Codec
open Go.RowKit

theorem ret_int {k : IntKind} {a b : Int} (h : a = b) : Ending.returned (.int k a) = .returned (.int k b) := by rw [h]

set_option maxRecDepth 100000 in
theorem rbits_no (b : Nat) (bs : List Int) (f : Bool) (w : World) (h : Rdr 73 5 w b bs f) (hn : f = true ∨ bs.length < 8) :
    Calls Try.prog 52 #[.pointer (some ⟨b, 0, none⟩)] w (Step 73 5 w b (bs, true) (.int .u64 0)) := by
  obtain ⟨p, c, c0, c1, f0, f1, _, hm, _⟩ := h.cells
  have HR := Lib.hid (h.set1 (by decide) true)
  clear h
  cases f with
  | true =>
    clear hn
    go_enter Try.func52, Try.ntmps52
    go_wp2
    go_ret
    exact ⟨rfl, HR.out, grown_set b 1 _⟩
  | false =>
    have hl : bs.length < 8 := by simpa using hn
    clear hn
    go_enter Try.func52, Try.ntmps52
    go_wp2
    go_ret
    exact ⟨rfl, HR.out, grown_set b 1 _⟩

set_option maxRecDepth 100000 in
theorem rbits_yes (b : Nat) (bs : List Int) (w : World) (h : Rdr 73 5 w b bs false) (hy : IsBytes bs) (hl : 8 ≤ bs.length) :
    Calls Try.prog 52 #[.pointer (some ⟨b, 0, none⟩)] w (Step 73 5 w b (bs.drop 8, false) (.int .u64 (num (bs.take 8)))) := by
  obtain ⟨p, c, c0, c1, f0, f1, hc, hm, hlies⟩ := h.cells
  obtain ⟨g, o, rfl, hcell⟩ : ∃ g o, p = some ⟨g, o, none⟩ ∧ ∀ j, j < bs.length → w.cell? ⟨g, o + j, none⟩ = some (.int .u8 (bs.getD j 0)) := by
    rcases hlies.cel with h0 | h0
    · rw [h0] at hl; simp at hl
    · exact h0
  have HL := Lib.hid hlies
  have HR := Lib.hid h
  have HC := Lib.hid hcell
  have HY := Lib.hid hy
  unfold maxLen at hm
  clear hlies h hcell hy
  go_enter Try.func52, Try.ntmps52
  go_wp2
  go_loop [3, 4] (fun x i => ∃ k : Nat, k ≤ 8 ∧ i = .int .i64 (k : Int) ∧ x = .int .u64 (num (bs.take k))) (fun _ i => 8 - (intOf i).toNat)
  case atStart => exact ⟨0, by omega, rfl, rfl⟩
  case round =>
    obtain ⟨k, hk, rfl, rfl⟩ := hrel
    have hb := num_take bs HY.out k (by omega)
    by_cases hlt : k < 8
    · have hck := HC.out k (by omega)
      have hy := bytes_at bs HY.out k (by omega)
      have hs := Lib.hid (num_take_succ bs k (by omega))
      have hp := pow_below k hlt
      generalize bs.getD k 0 = y at hck hy hs
      obtain ⟨n, hn⟩ : ∃ n, n = num (bs.take k) := ⟨_, rfl⟩
      rw [← hn] at hb hs ⊢
      have hn0 := hb.1
      have hn1 : n < 72057594037927936 := by omega
      obtain ⟨hy0, hy1⟩ := hy
      clear hn hb hp
      go_wp2
      go_round
      case rel => exact ⟨k + 1, by omega, by go_num, by rw [hs.out]⟩
      case measure => simp [intOf]; omega
    · obtain rfl : k = 8 := by omega
      clear hb
      by_cases h8 : c = 8
      · have HR2 := Lib.hid (HR.out.cut8_all (g := g) (o := o) (by decide) (by omega))
        go_wp2
        go_ret
        exact ⟨rfl, HR2.out, grown_set b 0 _⟩
      · have HR2 := Lib.hid (HR.out.cut8 (by decide) hc (by omega) HL.out)
        go_wp2
        go_ret
        exact ⟨rfl, HR2.out, grown_set b 0 _⟩

theorem rbits_any (b : Nat) (s : St) (w : World) (h : Rdr 73 5 w b s.1 s.2) (hy : IsBytes s.1) :
    Calls Try.prog 52 #[.pointer (some ⟨b, 0, none⟩)] w (Step 73 5 w b (rBits s).2 (.int .u64 (rBits s).1)) := by
  obtain ⟨bs, f⟩ := s
  by_cases hn : f = true ∨ bs.length < 8
  · have e : rBits (bs, f) = (0, bs, true) := by unfold rBits; rw [if_pos hn]
    rw [e]
    exact rbits_no b bs f w h hn
  · have e : rBits (bs, f) = (num (bs.take 8), bs.drop 8, false) := by unfold rBits; rw [if_neg hn]
    rw [e]
    simp only [not_or, Bool.not_eq_true] at hn
    obtain ⟨rfl, hl⟩ := hn
    exact rbits_yes b bs w h hy (by omega)

/-- A number of eight bytes, or 0. -/
theorem rBits_bound (s : St) (hy : IsBytes s.1) : 0 ≤ (rBits s).1 ∧ (rBits s).1 < 18446744073709551616 := by
  unfold rBits
  split
  · simp
  · rename_i h
    simp only [not_or] at h
    have := num_take s.1 hy 8 (by omega)
    have e : (256 : Int) ^ 8 = 18446744073709551616 := by decide
    rw [e] at this
    exact this

set_option maxRecDepth 100000 in
set_option maxHeartbeats 400000 in
theorem rupto_any (b : Nat) (s : St) (m : Int) (w : World) (h : Rdr 73 5 w b s.1 s.2) (hy : IsBytes s.1) (hm0 : -9223372036854775808 ≤ m) (hm1 : m ≤ 9223372036854775807) :
    Calls Try.prog 45 #[.pointer (some ⟨b, 0, none⟩), .int .i64 m] w (Step 73 5 w b (rUpto m s).2 (.int .i64 (rUpto m s).1)) := by
  have hbits := rbits_any b s w h hy
  obtain ⟨x0, x1⟩ := rBits_bound s hy
  have HU : Hid (rUpto m s = if (rBits s).2.2 = true ∨ over m (rBits s).1 = true then (0, (rBits s).2.1, true) else rBits s) := rfl
  generalize rUpto m s = r at HU ⊢
  generalize rBits s = q at hbits x0 x1 HU
  obtain ⟨x, bs, f⟩ := q
  simp only at hbits x0 x1 HU
  clear h hy
  by_cases hn : f = true ∨ over m x = true
  · obtain rfl : r = (0, bs, true) := by rw [HU.out, if_pos hn]
    clear HU
    have key : ∀ w1, Rdr 73 5 w1 b bs f → w.grownBy w1 (some b) → Step 73 5 w b (bs, true) (.int .i64 0) (.returned (.int .i64 0)) (w1.setCell ⟨b, 1, none⟩ (.bool true)) :=
      fun w1 hr hg => ⟨rfl, hr.set1 (by decide) true, hg.trans (grown_set b 1 _)⟩
    have KEY := Lib.hid key
    clear key
    cases f with
    | true =>
      clear hn
      go_enter Try.func45, Try.ntmps45
      go_wp2_with (go_at_call 52; refine hbits.mono ?_; rintro e w1 ⟨rfl, hr, hg⟩; clear hbits; obtain ⟨p, c, c0, c1, f0, f1, _, _, _⟩ := hr.cells; have HR := Lib.hid hr; clear hr)
      go_ret
      exact KEY.out w1 HR.out hg
    | false =>
      have hn' : m < 0 ∨ (0 ≤ m ∧ 4611686018427387904 < x) ∨ (0 ≤ m ∧ x ≤ 4611686018427387904 ∧ m < x) := by
        simp [over] at hn
        omega
      clear hn
      rcases hn' with h1 | ⟨h1, h2⟩ | ⟨h1, h2, h3⟩
      · go_enter Try.func45, Try.ntmps45
        go_wp2_with (go_at_call 52; refine hbits.mono ?_; rintro e w1 ⟨rfl, hr, hg⟩; clear hbits; obtain ⟨p, c, c0, c1, f0, f1, _, _, _⟩ := hr.cells; have HR := Lib.hid hr; clear hr)
        go_ret
        exact KEY.out w1 HR.out hg
      · go_enter Try.func45, Try.ntmps45
        go_wp2_with (go_at_call 52; refine hbits.mono ?_; rintro e w1 ⟨rfl, hr, hg⟩; clear hbits; obtain ⟨p, c, c0, c1, f0, f1, _, _, _⟩ := hr.cells; have HR := Lib.hid hr; clear hr)
        go_ret
        exact KEY.out w1 HR.out hg
      · go_enter Try.func45, Try.ntmps45
        go_wp2_with (go_at_call 52; refine hbits.mono ?_; rintro e w1 ⟨rfl, hr, hg⟩; clear hbits; obtain ⟨p, c, c0, c1, f0, f1, _, _, _⟩ := hr.cells; have HR := Lib.hid hr; clear hr)
        go_ret
        exact KEY.out w1 HR.out hg
  · obtain rfl : r = (x, bs, f) := by rw [HU.out, if_neg hn]
    clear HU
    obtain ⟨rfl, h1, h2, h3⟩ : f = false ∧ 0 ≤ m ∧ x ≤ 4611686018427387904 ∧ x ≤ m := by
      simp [over] at hn
      exact ⟨hn.1, by omega, by omega, by omega⟩
    clear hn
    go_enter Try.func45, Try.ntmps45
    go_wp2_with (go_at_call 52; refine hbits.mono ?_; rintro e w1 ⟨rfl, hr, hg⟩; clear hbits; obtain ⟨p, c, c0, c1, f0, f1, _, _, _⟩ := hr.cells; have HR := Lib.hid hr; clear hr)
    go_ret
    exact ⟨rfl, HR.out, hg⟩

theorem rnum_any (b : Nat) (s : St) (w : World) (h : Rdr 73 5 w b s.1 s.2) (hy : IsBytes s.1) :
    Calls Try.prog 29 #[.pointer (some ⟨b, 0, none⟩)] w (Step 73 5 w b (rUpto 4611686018427387904 s).2 (.int .i64 (rUpto 4611686018427387904 s).1)) := by
  have hu := rupto_any b s 4611686018427387904 w h hy (by omega) (by omega)
  generalize rUpto 4611686018427387904 s = r at hu ⊢
  clear h hy
  go_enter Try.func29, Try.ntmps29
  go_wp2_with (go_at_call 45; refine hu.mono ?_; rintro e w1 ⟨rfl, hr, hg⟩; clear hu; have HR := Lib.hid hr; clear hr)
  go_ret
  exact ⟨rfl, HR.out, hg⟩

end Go.Proofs.Ytlbdkigiphnabaa.Codec
