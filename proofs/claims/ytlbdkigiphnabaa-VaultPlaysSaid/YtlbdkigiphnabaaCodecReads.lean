/-
  The program's reader: fail, Bits, Upto, Num, Done, of any reader's block whose bytes lie in a row of bytes, and of none; Read, of any slice of bytes: each returns what the plain functions of CodecPlain give, leaves the reader as they say, and turns no block but the reader's own; Read makes a new reader.
-/
import Derived.Test.YtlbdkigiphnabaaCodecRefReads
import Derived.Laws.Bits64b
namespace Go.Proofs.Ytlbdkigiphnabaa.Codec
open Go.RowKit

theorem or_byte (n y : Int) (h0 : 0 ≤ n) (h1 : n < 72057594037927936) (h2 : 0 ≤ y) (h3 : y < 256) : bits .or .u64 (n * 256) y = n * 256 + y := by
  obtain ⟨a, rfl⟩ := Int.eq_ofNat_of_zero_le h0
  obtain ⟨b, rfl⟩ := Int.eq_ofNat_of_zero_le h2
  have e : ((a : Int) * 256) = ((a * 256 : Nat) : Int) := by simp
  rw [e, bits_or_u64_nat (a * 256) b (by omega) (by omega)]
  have := Nat.shiftLeft_add_eq_or_of_lt (i := 8) (show b < 2 ^ 8 by omega) a
  rw [Nat.shiftLeft_eq] at this
  rw [show (2 : Nat) ^ 8 = 256 by decide] at this
  rw [← this]
  simp

set_option maxRecDepth 100000 in
theorem fail_any (b : Nat) (bs : List Int) (f : Bool) (w : World) (h : Rdr 95 5 w b bs f) :
    Calls Try.prog 58 #[.pointer (some ⟨b, 0, none⟩)] w (Step 95 5 w b ([], true) (.tuple #[])) := by
  obtain ⟨p, c, c0, c1, f0, f1, _, _, _⟩ := h.cells
  have HR := Lib.hid ((h.set0 (by decide) none 0 [] (Nat.le_refl _) (Nat.zero_le _) (.inl rfl)).set1 (by decide) true)
  clear h
  go_enter Try.func58, Try.ntmps58
  go_wp2
  go_end0
  exact ⟨rfl, HR.out, (grown_set b 0 _).trans (grown_set b 1 _)⟩
theorem fail_nil (w : World) : Calls Try.prog 58 #[.pointer none] w fun e w' => e = .returned (.tuple #[]) ∧ w = w' := by
  go_enter Try.func58, Try.ntmps58
  go_wp2
  go_end0
  exact ⟨rfl, rfl⟩

theorem pbits_nil (w : World) : Calls Try.prog 57 #[.pointer none] w fun e w' => e = .returned (.int .u64 0) ∧ w = w' := by
  go_enter Try.func57, Try.ntmps57
  go_wp2
  go_ret
  exact ⟨rfl, rfl⟩

set_option maxRecDepth 100000 in
theorem pbits_no (b : Nat) (bs : List Int) (f : Bool) (w : World) (h : Rdr 95 5 w b bs f) (hl : bs.length < 8) :
    Calls Try.prog 57 #[.pointer (some ⟨b, 0, none⟩)] w (Step 95 5 w b ([], true) (.int .u64 0)) := by
  have hfail := fail_any b bs f w h
  obtain ⟨p, c, c0, c1, f0, f1, _, hm, _⟩ := h.cells
  clear h
  go_enter Try.func57, Try.ntmps57
  go_wp2_with (go_at_call 58; refine hfail.mono ?_; rintro e w1 ⟨rfl, hr, hg⟩; clear hfail; have HR := Lib.hid hr; clear hr)
  go_ret
  exact ⟨rfl, HR.out, hg⟩

set_option maxRecDepth 100000 in
theorem pbits_yes (b : Nat) (bs : List Int) (f : Bool) (w : World) (h : Rdr 95 5 w b bs f) (hy : IsBytes bs) (hl : 8 ≤ bs.length) :
    Calls Try.prog 57 #[.pointer (some ⟨b, 0, none⟩)] w (Step 95 5 w b (bs.drop 8, f) (.int .u64 (num (bs.take 8)))) := by
  obtain ⟨p, c, c0, c1, f0, f1, hc, hm, hlies⟩ := h.cells
  obtain ⟨g, o, rfl, hcell⟩ : ∃ g o, p = some ⟨g, o, none⟩ ∧ ∀ j, j < bs.length → w.cell? ⟨g, o + j, none⟩ = some (.int .u8 (bs.getD j 0)) := by
    rcases hlies.cel with h0 | h0
    · rw [h0] at hl; simp at hl
    · exact h0
  have HL := Lib.hid hlies
  have HR := Lib.hid h
  have HC := Lib.hid hcell
  have HY := Lib.hid hy
  unfold maxLen at hm
  clear hlies h hcell hy
  go_enter Try.func57, Try.ntmps57
  go_wp2
  go_loop [3, 22] (fun x i => ∃ k : Nat, k ≤ 8 ∧ i = .int .i64 (k : Int) ∧ x = .int .u64 (num (bs.take k))) (fun _ i => 8 - (intOf i).toNat)
  case atStart => exact ⟨0, by omega, rfl, rfl⟩
  case round =>
    obtain ⟨k, hk, rfl, rfl⟩ := hrel
    have hb := num_take bs HY.out k (by omega)
    by_cases hlt : k < 8
    · have hck := HC.out k (by omega)
      have hy := bytes_at bs HY.out k (by omega)
      have hs := Lib.hid (num_take_succ bs k (by omega))
      have hp := pow_below k hlt
      generalize bs.getD k 0 = y at hck hy hs
      obtain ⟨n, hn⟩ : ∃ n, n = num (bs.take k) := ⟨_, rfl⟩
      rw [← hn] at hb hs ⊢
      have hn0 := hb.1
      have hn1 : n < 72057594037927936 := by omega
      obtain ⟨hy0, hy1⟩ := hy
      clear hn hb hp
      have ho := Lib.hid (or_byte n y hn0 hn1 hy0 hy1)
      go_wp2
      go_round
      case rel => exact ⟨k + 1, by omega, by go_num, by rw [hs.out, ho.out]⟩
      case measure => simp [intOf]; omega
    · obtain rfl : k = 8 := by omega
      clear hb
      by_cases h8 : c = 8
      · have HR2 := Lib.hid (HR.out.cut8_all (g := g) (o := o) (by decide) (by omega))
        go_wp2
        go_ret
        exact ⟨rfl, HR2.out, grown_set b 0 _⟩
      · have HR2 := Lib.hid (HR.out.cut8 (by decide) hc (by omega) HL.out)
        go_wp2
        go_ret
        exact ⟨rfl, HR2.out, grown_set b 0 _⟩
theorem pbits_any (b : Nat) (s : St) (w : World) (h : Rdr 95 5 w b s.1 s.2) (hy : IsBytes s.1) :
    Calls Try.prog 57 #[.pointer (some ⟨b, 0, none⟩)] w (Step 95 5 w b (pBits s).2 (.int .u64 (pBits s).1)) := by
  obtain ⟨bs, f⟩ := s
  by_cases hn : bs.length < 8
  · have e : pBits (bs, f) = (0, [], true) := by unfold pBits; rw [if_pos hn]
    rw [e]
    exact pbits_no b bs f w h hn
  · have e : pBits (bs, f) = (num (bs.take 8), bs.drop 8, f) := by unfold pBits; rw [if_neg hn]
    rw [e]
    exact pbits_yes b bs f w h hy (by omega)

theorem pBits_bound (s : St) (hy : IsBytes s.1) : 0 ≤ (pBits s).1 ∧ (pBits s).1 < 18446744073709551616 := by
  unfold pBits
  split
  · simp
  · have := num_take s.1 hy 8 (by omega)
    have e : (256 : Int) ^ 8 = 18446744073709551616 := by decide
    rw [e] at this
    exact this

set_option maxRecDepth 100000 in
set_option maxHeartbeats 400000 in
theorem pupto_any (b : Nat) (s : St) (m : Int) (w : World) (h : Rdr 95 5 w b s.1 s.2) (hy : IsBytes s.1) :
    Calls Try.prog 51 #[.pointer (some ⟨b, 0, none⟩), .int .i64 m] w (Step 95 5 w b (pUpto m s).2 (.int .i64 (pUpto m s).1)) := by
  have hbits := pbits_any b s w h hy
  obtain ⟨x0, x1⟩ := pBits_bound s hy
  have HU : Hid (pUpto m s = if over m (pBits s).1 = true then (0, [], true) else pBits s) := rfl
  generalize pUpto m s = r at HU ⊢
  generalize pBits s = q at hbits x0 x1 HU
  obtain ⟨x, bs, f⟩ := q
  simp only at hbits x0 x1 HU
  clear h hy
  by_cases hn : over m x = true
  · obtain rfl : r = (0, [], true) := by rw [HU.out, if_pos hn]
    clear HU
    have hn' : 4611686018427387904 < x ∨ (x ≤ 4611686018427387904 ∧ m < x) := by
      simp [over] at hn
      omega
    clear hn
    rcases hn' with h1 | ⟨h1, h2⟩
    · go_enter Try.func51, Try.ntmps51
      go_wp2_with (first
        | (go_at_call 57; refine hbits.mono ?_; rintro e w1 ⟨rfl, hr, hg⟩; clear hbits; have hfail := fail_any b bs f w1 hr; clear hr)
        | (go_at_call 58; refine hfail.mono ?_; rintro e w2 ⟨rfl, hr, hg2⟩; clear hfail; have HR := Lib.hid hr; clear hr))
      go_ret
      exact ⟨rfl, HR.out, hg.trans hg2⟩
    · go_enter Try.func51, Try.ntmps51
      go_wp2_with (first
        | (go_at_call 57; refine hbits.mono ?_; rintro e w1 ⟨rfl, hr, hg⟩; clear hbits; have hfail := fail_any b bs f w1 hr; clear hr)
        | (go_at_call 58; refine hfail.mono ?_; rintro e w2 ⟨rfl, hr, hg2⟩; clear hfail; have HR := Lib.hid hr; clear hr))
      go_ret
      exact ⟨rfl, HR.out, hg.trans hg2⟩
  · obtain rfl : r = (x, bs, f) := by rw [HU.out, if_neg hn]
    clear HU
    obtain ⟨h2, h3⟩ : x ≤ 4611686018427387904 ∧ x ≤ m := by
      simp [over] at hn
      exact ⟨by omega, by omega⟩
    clear hn
    go_enter Try.func51, Try.ntmps51
    go_wp2_with (go_at_call 57; refine hbits.mono ?_; rintro e w1 ⟨rfl, hr, hg⟩; clear hbits; have HR := Lib.hid hr; clear hr)
    go_ret
    exact ⟨rfl, HR.out, hg⟩
theorem pupto_nil (m : Int) (w : World) : Calls Try.prog 51 #[.pointer none, .int .i64 m] w fun e w' => e = .returned (.int .i64 0) ∧ w = w' := by
  by_cases h : m < 0
  · go_enter Try.func51, Try.ntmps51
    go_wp2_with (first
      | (go_at_call 57; refine (pbits_nil _).mono ?_; rintro e w1 ⟨rfl, rfl⟩)
      | (go_at_call 58; refine (fail_nil _).mono ?_; rintro e w1 ⟨rfl, rfl⟩))
    go_ret
    exact ⟨rfl, rfl⟩
  · have h' : 0 ≤ m := by omega
    clear h
    go_enter Try.func51, Try.ntmps51
    go_wp2_with (first
      | (go_at_call 57; refine (pbits_nil _).mono ?_; rintro e w1 ⟨rfl, rfl⟩)
      | (go_at_call 58; refine (fail_nil _).mono ?_; rintro e w1 ⟨rfl, rfl⟩))
    go_ret
    exact ⟨rfl, rfl⟩


theorem pdone_nil (w : World) : Calls Try.prog 44 #[.pointer none] w fun e w' => e = .returned (.int .i64 1) ∧ w = w' := by
  go_enter Try.func44, Try.ntmps44
  go_wp2
  go_ret
  exact ⟨rfl, rfl⟩
set_option maxRecDepth 100000 in
theorem pdone_any (b : Nat) (s : St) (w : World) (h : Rdr 95 5 w b s.1 s.2) :
    Calls Try.prog 44 #[.pointer (some ⟨b, 0, none⟩)] w fun e w' => e = .returned (.int .i64 (tell s)) ∧ w = w' := by
  obtain ⟨bs, f⟩ := s
  obtain ⟨p, c, c0, c1, f0, f1, hc, hm, _⟩ := h.cells
  simp only at c0 c1 hc
  clear h
  unfold maxLen at hm
  cases f with
  | true =>
    go_enter Try.func44, Try.ntmps44
    go_wp2
    go_ret
    exact ⟨rfl, rfl⟩
  | false =>
    cases bs with
    | nil =>
      go_enter Try.func44, Try.ntmps44
      go_wp2
      go_ret
      exact ⟨rfl, rfl⟩
    | cons y l =>
      have HT := Lib.hid (show tell (y :: l, false) = 2 by simp [tell])
      generalize tell (y :: l, false) = t at HT ⊢
      have h0 : 0 < (y :: l).length := by simp
      generalize (y :: l).length = n at c0 hc h0
      go_enter Try.func44, Try.ntmps44
      go_wp2
      go_ret
      exact ⟨ret_int HT.out.symm, rfl⟩

/-- What Read tells: a new reader. -/
def NewReader (T E : TypeId) (w : World) (xs : List Int) (e : Ending) (w' : World) : Prop :=
  ∃ b, w.heap.size ≤ b ∧ e = .returned (.pointer (some ⟨b, 0, none⟩)) ∧ Rdr T E w' b xs false ∧ Below w.heap.size w w'

set_option maxRecDepth 100000 in
theorem read_any (p : Option Addr) (c : Nat) (xs : List Int) (w : World) (hl : xs.length ≤ 100000000) (hc : Cel w p xs) (hp : p = none → xs = []) :
    Calls Try.prog 42 #[.slice p xs.length c] w (NewReader 95 5 w xs) := by
  have hclone := clone_any p c xs w hl hc hp
  clear hc hp hl
  generalize xs.length = n at hclone ⊢
  go_enter Try.func42, Try.ntmps42
  go_wp2_with (go_at_call 50; refine hclone.mono ?_; rintro e w1 ⟨v1, rfl, ho, hb⟩; clear hclone; obtain ⟨q, d, rfl, h1, h2, h3, _⟩ := own_lies ho; have H3 := Lib.hid h3; clear h3 ho)
  go_ret
  exact ⟨w1.heap.size, hb.size, rfl, ⟨q, d, heap_alloc_new _ _, h1, h2, H3.out.keep (.below ((Below.refl _ _).alloc (Nat.le_refl _) _))⟩, hb.alloc hb.size _⟩
end Go.Proofs.Ytlbdkigiphnabaa.Codec
