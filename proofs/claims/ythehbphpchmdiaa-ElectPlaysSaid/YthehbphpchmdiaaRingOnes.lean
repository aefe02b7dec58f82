/-
  The reckoning of bits.OnesCount64, as plain arithmetic, gives how many bits of a number are set; no program is named. Condition: a number from 0 to 2^64 less 1.
-/
import Derived.Test.YthehbphpchmdiaaRingPlain
import Derived.WalkKit
import Derived.IntWalk
namespace Go.Proofs.Ythehbphpchmdiaa.Ring
open Go.RowKit

/-- How many of the first k bits are set. -/
def pop : Nat → Nat → Nat
  | 0, _ => 0
  | k + 1, x => x % 2 + pop k (x / 2)

theorem pop_countP : ∀ (k x : Nat), pop k x = (List.range k).countP (fun i => x.testBit i)
  | 0, _ => by simp [pop]
  | k + 1, x => by
    rw [pop, pop_countP k (x / 2), List.range_succ_eq_map, List.countP_cons, List.countP_map]
    have e : (fun i => x.testBit i) ∘ Nat.succ = fun i => (x / 2).testBit i := by
      funext i; simp [Nat.testBit_succ]
    have z : x.testBit 0 = decide (x % 2 = 1) := Nat.testBit_zero x
    rw [e, z]
    rcases Nat.mod_two_eq_zero_or_one x with h | h <;> rw [h] <;> simp <;> omega

theorem pop_byte (k x : Nat) : pop (k + 8) x = pop 8 (x % 256) + pop k (x / 256) := by
  simp only [pop, Nat.div_div_eq_div_mul, Nat.reduceMul]
  omega

/-- The bitwise 'and', byte by byte. -/
theorem and_byte (a b : Nat) : a &&& b = (a % 256 &&& b % 256) + 256 * (a / 256 &&& b / 256) := by
  have h1 : (a &&& b) % 2 ^ 8 = a % 2 ^ 8 &&& b % 2 ^ 8 := Nat.and_mod_two_pow
  have h2 : (a &&& b) / 2 ^ 8 = a / 2 ^ 8 &&& b / 2 ^ 8 := Nat.and_div_two_pow
  have := Nat.div_add_mod (a &&& b) 256
  simp only [Nat.reducePow] at h1 h2
  omega

def f1 (m x : Nat) : Nat := (x / 2 &&& m) + (x &&& m)
def f2 (m x : Nat) : Nat := (x / 4 &&& m) + (x &&& m)
def f3 (m x : Nat) : Nat := (x / 16 + x) &&& m

theorem low1 : ∀ (b : Fin 256) (c : Fin 2), (b.val / 2 + 128 * c.val) &&& 85 = b.val / 2 &&& 85 := by decide +kernel
theorem low2 : ∀ (b : Fin 256) (c : Fin 4), (b.val / 4 + 64 * c.val) &&& 51 = b.val / 4 &&& 51 := by decide +kernel
theorem f1_byte (m x : Nat) : f1 (85 + 256 * m) x = f1 85 (x % 256) + 256 * f1 m (x / 256) := by
  unfold f1
  rw [and_byte (x / 2), and_byte x]
  have e1 : (85 + 256 * m) % 256 = 85 := by omega
  have e2 : (85 + 256 * m) / 256 = m := by omega
  have e3 : x / 2 % 256 = x % 256 / 2 + 128 * (x / 256 % 2) := by omega
  have e4 : x / 2 / 256 = x / 256 / 2 := by omega
  have k := low1 ⟨x % 256, by omega⟩ ⟨x / 256 % 2, by omega⟩
  simp only at k
  rw [e1, e2, e3, e4, k]; omega
theorem f2_byte (m x : Nat) : f2 (51 + 256 * m) x = f2 51 (x % 256) + 256 * f2 m (x / 256) := by
  unfold f2
  rw [and_byte (x / 4), and_byte x]
  have e1 : (51 + 256 * m) % 256 = 51 := by omega
  have e2 : (51 + 256 * m) / 256 = m := by omega
  have e3 : x / 4 % 256 = x % 256 / 4 + 64 * (x / 256 % 4) := by omega
  have e4 : x / 4 / 256 = x / 256 / 4 := by omega
  have k := low2 ⟨x % 256, by omega⟩ ⟨x / 256 % 4, by omega⟩
  simp only at k
  rw [e1, e2, e3, e4, k]; omega
theorem f3_byte (m x : Nat) (h1 : x % 256 ≤ 68) (h2 : x / 256 % 16 ≤ 4) : f3 (15 + 256 * m) x = (x % 256 / 16 + x % 256) % 16 + 256 * f3 m (x / 256) := by
  unfold f3
  rw [and_byte]
  have e1 : (15 + 256 * m) % 256 = 15 := by omega
  have e2 : (15 + 256 * m) / 256 = m := by omega
  have e3 : (x / 16 + x) % 256 &&& 15 = (x / 16 + x) % 256 % 16 := Nat.and_two_pow_sub_one_eq_mod _ 4
  have e4 : (x / 16 + x) / 256 = x / 256 / 16 + x / 256 := by omega
  rw [e1, e2, e3, e4]; omega

/-- One byte, wholly. -/
theorem byte1 : ∀ b : Fin 256, f2 51 (f1 85 b.val) ≤ 68 ∧ f2 51 (f1 85 b.val) % 16 ≤ 4 ∧ (f2 51 (f1 85 b.val) / 16 + f2 51 (f1 85 b.val)) % 16 = pop 8 b.val ∧ pop 8 b.val ≤ 8 ∧ f1 85 b.val < 256 := by decide +kernel

/-- k bytes: what the first three steps make of them. -/
def m1 : Nat → Nat | 0 => 0 | k + 1 => 85 + 256 * m1 k
def m2 : Nat → Nat | 0 => 0 | k + 1 => 51 + 256 * m2 k
def m3 : Nat → Nat | 0 => 0 | k + 1 => 15 + 256 * m3 k
def pops : Nat → Nat → Nat | 0, _ => 0 | k + 1, x => pop 8 (x % 256) + 256 * pops k (x / 256)

theorem two_steps (k x : Nat) : f2 (m2 (k + 1)) (f1 (m1 (k + 1)) x) = f2 51 (f1 85 (x % 256)) + 256 * f2 (m2 k) (f1 (m1 k) (x / 256)) := by
  have l := (byte1 ⟨x % 256, by omega⟩).2.2.2.2
  simp only at l
  rw [m1, m2, f1_byte, f2_byte]
  have e1 : (f1 85 (x % 256) + 256 * f1 (m1 k) (x / 256)) % 256 = f1 85 (x % 256) := by omega
  have e2 : (f1 85 (x % 256) + 256 * f1 (m1 k) (x / 256)) / 256 = f1 (m1 k) (x / 256) := by omega
  rw [e1, e2]
theorem low_digit (k x : Nat) : f2 (m2 k) (f1 (m1 k) x) % 256 ≤ 68 ∧ f2 (m2 k) (f1 (m1 k) x) % 16 ≤ 4 := by
  cases k with
  | zero => simp [m2, f2]
  | succ k =>
    have l := byte1 ⟨x % 256, by omega⟩
    simp only at l
    rw [two_steps]; omega
theorem three_steps : ∀ (k x : Nat), f3 (m3 k) (f2 (m2 k) (f1 (m1 k) x)) = pops k x
  | 0, _ => by simp [m3, f3, pops]
  | k + 1, x => by
    have l := byte1 ⟨x % 256, by omega⟩
    simp only at l
    have d := low_digit k (x / 256)
    rw [two_steps, m3, f3_byte _ _ (by omega) (by omega), pops, ← three_steps k (x / 256)]
    have e1 : (f2 51 (f1 85 (x % 256)) + 256 * f2 (m2 k) (f1 (m1 k) (x / 256))) % 256 = f2 51 (f1 85 (x % 256)) := by omega
    have e2 : (f2 51 (f1 85 (x % 256)) + 256 * f2 (m2 k) (f1 (m1 k) (x / 256))) / 256 = f2 (m2 k) (f1 (m1 k) (x / 256)) := by omega
    rw [e1, e2]; omega

theorem f1_le (m x : Nat) : f1 m x ≤ 2 * m := by
  unfold f1
  have a : x / 2 &&& m ≤ m := Nat.and_le_right
  have b : x &&& m ≤ m := Nat.and_le_right
  omega
theorem f2_le (m x : Nat) : f2 m x ≤ 2 * m := by
  unfold f2
  have a : x / 4 &&& m ≤ m := Nat.and_le_right
  have b : x &&& m ≤ m := Nat.and_le_right
  omega

theorem div_of {z K low high : Nat} (h : z = low + K * high) (hl : low < K) : z / K = high := by
  subst h; rw [Nat.add_mul_div_left _ _ (by omega), Nat.div_eq_of_lt hl, Nat.zero_add]

theorem sum8 (c0 c1 c2 c3 c4 c5 c6 c7 z : Nat) (h0 : c0 ≤ 8) (h1 : c1 ≤ 8) (h2 : c2 ≤ 8) (h3 : c3 ≤ 8) (h4 : c4 ≤ 8) (h5 : c5 ≤ 8) (h6 : c6 ≤ 8) (h7 : c7 ≤ 8)
    (hz : z = c0 + 256 * (c1 + 256 * (c2 + 256 * (c3 + 256 * (c4 + 256 * (c5 + 256 * (c6 + 256 * (c7 + 256 * 0)))))))) :
    ∃ z1 z2 z3, z1 = z + z / 256 ∧ z2 = z1 + z1 / 65536 ∧ z3 = z2 + z2 / 4294967296 ∧ z3 < 9223372036854775808 ∧ z3 % 128 = c0 + c1 + c2 + c3 + c4 + c5 + c6 + c7 := by
  obtain ⟨e6, E6⟩ : ∃ e6, e6 = c6 + 256 * c7 := ⟨_, rfl⟩
  obtain ⟨e5, E5⟩ : ∃ e5, e5 = c5 + 256 * e6 := ⟨_, rfl⟩
  obtain ⟨e4, E4⟩ : ∃ e4, e4 = c4 + 256 * e5 := ⟨_, rfl⟩
  obtain ⟨e3, E3⟩ : ∃ e3, e3 = c3 + 256 * e4 := ⟨_, rfl⟩
  obtain ⟨e2, E2⟩ : ∃ e2, e2 = c2 + 256 * e3 := ⟨_, rfl⟩
  obtain ⟨e1, E1⟩ : ∃ e1, e1 = c1 + 256 * e2 := ⟨_, rfl⟩
  have Z : z = c0 + 256 * e1 := by rw [hz, E1, E2, E3, E4, E5, E6]; omega
  have a : z / 256 = e1 := div_of Z (by omega)
  have b : (z + e1) / 65536 = e2 + e3 := div_of (low := c0 + c1 + 256 * (c1 + c2)) (by omega) (by omega)
  have c : (z + e1 + (e2 + e3)) / 4294967296 = e4 + e5 + e6 + c7 :=
    div_of (low := c0 + 256 * c1 + 65536 * c2 + 16777216 * c3 + (c1 + 256 * c2 + 65536 * c3 + 16777216 * c4) + (c2 + 256 * c3 + 65536 * c4 + 16777216 * c5) + (c3 + 256 * c4 + 65536 * c5 + 16777216 * c6)) (by omega) (by omega)
  have r : z + e1 + (e2 + e3) + (e4 + e5 + e6 + c7) = (c0 + c1 + c2 + c3 + c4 + c5 + c6 + c7) + 128 * (2 * (e1 + e2 + e3 + e4 + e5 + e6 + c7)) := by omega
  refine ⟨z + e1, z + e1 + (e2 + e3), z + e1 + (e2 + e3) + (e4 + e5 + e6 + c7), by rw [a], by rw [b], by rw [c], by omega, ?_⟩
  rw [r, Nat.add_mul_mod_self_left, Nat.mod_eq_of_lt (by omega)]

/-- The steps, as the walk spells them. -/
def s1 (x : Int) : Int := IntKind.u64.wrap (bits .and .u64 (x / 2) 6148914691236517205 + bits .and .u64 x 6148914691236517205)
def s2 (x : Int) : Int := IntKind.u64.wrap (bits .and .u64 (x / 4) 3689348814741910323 + bits .and .u64 x 3689348814741910323)
def s3 (x : Int) : Int := bits .and .u64 (IntKind.u64.wrap (x / 16 + x)) 1085102592571150095
def s4 (x : Int) : Int := IntKind.u64.wrap (x + x / 256)
def s5 (x : Int) : Int := IntKind.u64.wrap (x + x / 65536)
def s6 (x : Int) : Int := IntKind.u64.wrap (x + x / 4294967296)
def s7 (x : Int) : Int := bits .and .i64 (wrap64 x) 127

theorem s1_nat (x : Nat) (h : x < 18446744073709551616) : s1 (x : Int) = ((f1 (m1 8) x : Nat) : Int) := by
  have l := f1_le (m1 8) x
  have e : m1 8 = 6148914691236517205 := by decide
  rw [e] at l ⊢
  unfold s1
  have d : (x : Int) / 2 = ((x / 2 : Nat) : Int) := by omega
  rw [d, show (6148914691236517205 : Int) = ((6148914691236517205 : Nat) : Int) by rfl, u64_and_nat _ _ (by omega) (by omega), u64_and_nat _ _ h (by omega), IntKind.wrap_u64]
  unfold f1 at l ⊢
  omega
theorem s2_nat (x : Nat) (h : x < 18446744073709551616) : s2 (x : Int) = ((f2 (m2 8) x : Nat) : Int) := by
  have l := f2_le (m2 8) x
  have e : m2 8 = 3689348814741910323 := by decide
  rw [e] at l ⊢
  unfold s2
  have d : (x : Int) / 4 = ((x / 4 : Nat) : Int) := by omega
  rw [d, show (3689348814741910323 : Int) = ((3689348814741910323 : Nat) : Int) by rfl, u64_and_nat _ _ (by omega) (by omega), u64_and_nat _ _ h (by omega), IntKind.wrap_u64]
  unfold f2 at l ⊢
  omega
theorem s3_nat (x : Nat) (h : x ≤ 7378697629483820646) : s3 (x : Int) = ((f3 (m3 8) x : Nat) : Int) := by
  have e : m3 8 = 1085102592571150095 := by decide
  rw [e]
  unfold s3
  have d : IntKind.u64.wrap ((x : Int) / 16 + x) = ((x / 16 + x : Nat) : Int) := by rw [IntKind.wrap_u64]; omega
  rw [d, show (1085102592571150095 : Int) = ((1085102592571150095 : Nat) : Int) by rfl, u64_and_nat _ _ (by omega) (by omega)]
  rfl
theorem pops_eq (x : Nat) : pops 8 x = pop 8 (x % 256) + 256 * (pop 8 (x / 256 % 256) + 256 * (pop 8 (x / 256 / 256 % 256) + 256 * (pop 8 (x / 256 / 256 / 256 % 256) + 256 * (pop 8 (x / 256 / 256 / 256 / 256 % 256) + 256 * (pop 8 (x / 256 / 256 / 256 / 256 / 256 % 256) + 256 * (pop 8 (x / 256 / 256 / 256 / 256 / 256 / 256 % 256) + 256 * (pop 8 (x / 256 / 256 / 256 / 256 / 256 / 256 / 256 % 256) + 256 * 0))))))) := rfl
theorem pop_eq (x : Nat) : pop 64 x = pop 8 (x % 256) + pop 8 (x / 256 % 256) + pop 8 (x / 256 / 256 % 256) + pop 8 (x / 256 / 256 / 256 % 256) + pop 8 (x / 256 / 256 / 256 / 256 % 256) + pop 8 (x / 256 / 256 / 256 / 256 / 256 % 256) + pop 8 (x / 256 / 256 / 256 / 256 / 256 / 256 % 256) + pop 8 (x / 256 / 256 / 256 / 256 / 256 / 256 / 256 % 256) := by
  have z : ∀ y, pop 0 y = 0 := fun _ => rfl
  rw [pop_byte 56, pop_byte 48, pop_byte 40, pop_byte 32, pop_byte 24, pop_byte 16, pop_byte 8]
  have t : pop 8 (x / 256 / 256 / 256 / 256 / 256 / 256 / 256) = pop 8 (x / 256 / 256 / 256 / 256 / 256 / 256 / 256 % 256) := by
    have := pop_byte 0 (x / 256 / 256 / 256 / 256 / 256 / 256 / 256)
    rw [Nat.zero_add, z] at this; exact this
  rw [t]
  omega
theorem pop8_le (x : Nat) : pop 8 (x % 256) ≤ 8 := (byte1 ⟨x % 256, by omega⟩).2.2.2.1

theorem wrap_nat (a b : Nat) (K : Nat) (h : b = a + a / K) (hb : b < 18446744073709551616) : IntKind.u64.wrap ((a : Int) + (a : Int) / (K : Int)) = (b : Int) := by
  have e : (a : Int) + (a : Int) / (K : Int) = ((b : Nat) : Int) := by rw [h]; simp
  rw [e, IntKind.wrap_u64, Int.emod_eq_of_lt (Int.natCast_nonneg _) (by omega)]
theorem s7_nat (z : Nat) (h : z < 9223372036854775808) : s7 (z : Int) = ((z % 128 : Nat) : Int) := by
  unfold s7
  have e : wrap64 ((z : Nat) : Int) = ((z : Nat) : Int) := by unfold wrap64; omega
  rw [e, show (127 : Int) = 2 ^ 7 - 1 by rfl, bits_mask .i64 63 (by decide) (fun n h g => by rw [IntKind.wrap_i64]; omega) 7 (by decide) _ (by omega) (by omega)]
  simp
theorem last_steps (c0 c1 c2 c3 c4 c5 c6 c7 z : Nat) (h0 : c0 ≤ 8) (h1 : c1 ≤ 8) (h2 : c2 ≤ 8) (h3 : c3 ≤ 8) (h4 : c4 ≤ 8) (h5 : c5 ≤ 8) (h6 : c6 ≤ 8) (h7 : c7 ≤ 8)
    (hz : z = c0 + 256 * (c1 + 256 * (c2 + 256 * (c3 + 256 * (c4 + 256 * (c5 + 256 * (c6 + 256 * (c7 + 256 * 0)))))))) :
    s7 (s6 (s5 (s4 (z : Int)))) = ((c0 + c1 + c2 + c3 + c4 + c5 + c6 + c7 : Nat) : Int) := by
  obtain ⟨z1, z2, z3, hz1, hz2, hz3, hl, hs⟩ := sum8 c0 c1 c2 c3 c4 c5 c6 c7 z h0 h1 h2 h3 h4 h5 h6 h7 hz
  have l2 : z2 ≤ z3 := by rw [hz3]; exact Nat.le_add_right _ _
  have l1 : z1 ≤ z2 := by rw [hz2]; exact Nat.le_add_right _ _
  have b2 : z2 < 18446744073709551616 := Nat.lt_of_le_of_lt l2 (Nat.lt_trans hl (by decide))
  have k4 : s4 (z : Int) = ((z1 : Nat) : Int) := wrap_nat z z1 256 hz1 (Nat.lt_of_le_of_lt l1 b2)
  have k5 : s5 (z1 : Int) = ((z2 : Nat) : Int) := wrap_nat z1 z2 65536 hz2 b2
  have k6 : s6 (z2 : Int) = ((z3 : Nat) : Int) := wrap_nat z2 z3 4294967296 hz3 (Nat.lt_trans hl (by decide))
  rw [k4, k5, k6, s7_nat z3 hl, hs]

/-- How many bits are set. -/
theorem ones_eq (x : Int) (h0 : 0 ≤ x) (h1 : x < 18446744073709551616) : s7 (s6 (s5 (s4 (s3 (s2 (s1 x)))))) = count x := by
  obtain ⟨a, rfl⟩ := Int.eq_ofNat_of_zero_le h0
  have l1 := f1_le (m1 8) a
  have l2 := f2_le (m2 8) (f1 (m1 8) a)
  have e1 : m1 8 = 6148914691236517205 := by decide
  have e2 : m2 8 = 3689348814741910323 := by decide
  rw [s1_nat a (by omega), s2_nat _ (by rw [e1] at l1 ⊢; omega), s3_nat _ (by rw [e2] at l2 ⊢; omega), three_steps]
  have hc : count (a : Int) = ((pop 64 a : Nat) : Int) := by unfold count; rw [Int.toNat_natCast, ← pop_countP]
  rw [hc, pop_eq]
  exact last_steps _ _ _ _ _ _ _ _ _ (pop8_le _) (pop8_le _) (pop8_le _) (pop8_le _) (pop8_le _) (pop8_le _) (pop8_le _) (pop8_le _) (pops_eq a)
end Go.Proofs.Ythehbphpchmdiaa.Ring
