/-
  DemandFades returns true of any notes, whatever the program's estimates are, if its calls do what is asked of them.
-/
import Derived.Test.YtghbcknbkkhhpaaDemandWay
namespace Go.Proofs.Ytghbcknbkkhhpaa.Demand
open Go.RowKit
open _root_.Go.Proofs.Ytghbcknbkkhhpaa.Codec (lt_of_heap frozen_of heap_set below_new own_below)
open _root_.Go.Proofs.Ytghbcknbkkhhpaa.Kit (Enc Lies Own At Kept Laid Off cell_on lt_heap take_snoc below_drewN box5 ints)

theorem ints_at' {w : World} {p : Option Addr} {l : List Int} (h : Lies ints w p l) {j : Nat} (hj : j < l.length) : ∃ b o, p = some ⟨b, o, none⟩ ∧ w.cell? ⟨b, o + j, none⟩ = some (.int .i64 (l.getD j 0)) := by
  obtain ⟨b, o, e, ha⟩ := Kit.lies_at h hj
  refine ⟨b, o, e, ?_⟩
  have := ha 0 _ rfl
  rwa [show ints.n = 1 from rfl, Nat.mul_one] at this
/-- The notes, and some more of nothing. -/
def fl (l : List Nt) (key low : Int) (t : Nat) : List Nt := l ++ List.replicate t ⟨key, low⟩
theorem fl_zero (l : List Nt) (key low : Int) : fl l key low 0 = l := by simp [fl]
theorem fl_succ (l : List Nt) (key low : Int) (t : Nat) : fl l key low (t + 1) = fl l key low t ++ [⟨key, low⟩] := by
  unfold fl
  rw [List.replicate_succ', List.append_assoc]
theorem fl_len (l : List Nt) (key low : Int) (t : Nat) : (fl l key low t).length = l.length + t := by simp [fl]
theorem fl_of (l : List Nt) {key low : Int} (h : low ≤ 0) : ∀ t, of (fl l key low t) key = of l key / 2 ^ t
  | 0 => by rw [fl_zero]; simp
  | t + 1 => by rw [fl_succ, of_low _ h, fl_of l h t, Int.ediv_ediv_of_nonneg (Int.le_of_lt (pow_pos' t)), ← Int.pow_succ]
theorem fl_gone (l : List Nt) {key low : Int} (h : low ≤ 0) : of (fl l key low 63) key = 0 := by
  have hn := of_num l key
  rw [fl_of l h]
  exact Int.ediv_eq_zero_of_lt hn.1 (by omega)
/-- The program's estimates, while notes are taken. -/
structure Pst (PW : Pw) (W : World) (q : Nat) (s : List Nt) (u : World) : Prop where
  pw : PW W.heap.size u q s
  below : Below W.heap.size W u
section
variable {PW : Pw} {W u u' : World} {q : Nat} {s s' : List Nt}
theorem Pst.on (P : Way13 PW) (h : Pst PW W q s u) (hb : Below u.heap.size u u') : Pst PW W q s u' := ⟨P.below h.pw hb, h.below.trans (hb.mono h.below.size)⟩
theorem Pst.own (h : Pst PW W q s u) (hm : Moved PW W.heap.size u q s' u') : Pst PW W q s' u' := ⟨hm.pw, h.below.trans hm.below⟩
theorem pst_note (P : Way13 PW) (hl : s.length ≤ 200) {k x : Int} (hk : Num k) (hx : Num x) (h : Pst PW W q s u) : Calls Try.prog 7 #[.pointer (some ⟨q, 0, none⟩), .int .i64 k, .int .i64 x] u fun e w' => e = .returned (.int .i64 (of (s ++ [⟨k, x⟩]) k)) ∧ Pst PW W q (s ++ [⟨k, x⟩]) w' :=
  (P.note h.pw h.below.size hl k x hk hx).mono fun _ _ ⟨he, hm⟩ => ⟨he, h.own hm⟩
theorem pst_of (P : Way13 PW) (hl : s.length ≤ 200) {k : Int} (hk : Num k) (h : Pst PW W q s u) : Calls Try.prog 9 #[.pointer (some ⟨q, 0, none⟩), .int .i64 k] u fun e w' => e = .returned (.int .i64 (of s k)) ∧ Pst PW W q s w' :=
  (P.of h.pw hl k hk).mono fun _ _ ⟨he, hb⟩ => ⟨he, h.on P hb⟩
theorem pst_keys (P : Way13 PW) (hl : s.length ≤ 200) (h : Pst PW W q s u) : Calls Try.prog 14 #[.pointer (some ⟨q, 0, none⟩)] u fun e w' => ∃ p c, e = .returned (.slice p (keys s).length c) ∧ Lies ints w' p (keys s) ∧ Below W.heap.size W w' :=
  (P.keys h.pw hl).mono fun _ _ ⟨p, c, he, hp, hb⟩ => ⟨p, c, he, hp, h.below.trans (hb.mono h.below.size)⟩
end
set_option maxRecDepth 100000 in
set_option maxHeartbeats 8000000 in
theorem fades_few {PW : Pw} (P : Way13 PW) (W : World) (p : Option Addr) (c : Nat) (l : List Nt) (ha : Lies note W p l) (hn : ∀ a ∈ l, NtNum a) (hl : l.length ≤ 80) (key low : Int) (nk : Num key) (nl : Num low) (h0 : low ≤ 0) :
    Calls Try.prog 4 #[.slice p l.length c, .int .i64 key, .int .i64 low] W fun e w' => e = .returned (.bool true) ∧ Below W.heap.size W w' := by
  have c0 := fun u => P.new u
  have RD := Lib.hid (fun (q j : Nat) (u : World) (hj : j < l.length) (h : Pst PW W q (l.take j) u) => pst_note P (by simp; omega) (hn (l.getD j z) (by simp [List.getD, hj])).1 (hn (l.getD j z) (by simp [List.getD, hj])).2 h)
  have SS := Lib.hid (fun (j : Nat) (hj : j < l.length) => take_snoc z hj)
  have ST := Lib.hid (show l.take l.length = l from List.take_length)
  have HA := Lib.hid ha
  have HP := Lib.hid P
  have HAL := Lib.hid (fun u => alive_way P u)
  have hl' : ¬ (80 : Int) < (l.length : Int) := by omega
  have h0' : ¬ (0 : Int) < low := by omega
  have HO := Lib.hid (fun (q : Nat) (u : World) (h : Pst PW W q l u) => pst_of P (by omega) nk h)
  have RN := Lib.hid (fun (q t : Nat) (u : World) (ht : t < 63) (h : Pst PW W q (fl l key low t) u) => pst_note P (by rw [fl_len]; omega) nk nl h)
  have HLO := Lib.hid (fun t => of_low (fl l key low t) (k := key) h0)
  have HE := Lib.hid (fun t => of_num (fl l key low t) key)
  have FS := Lib.hid (fun t => fl_succ l key low t)
  have F0 := Lib.hid (fl_zero l key low)
  have HK := Lib.hid (fun (q : Nat) (u : World) (h : Pst PW W q (fl l key low 63) u) => pst_keys P (by rw [fl_len]; omega) h)
  have HZ := Lib.hid (fl_gone l (key := key) h0)
  have HM := Lib.hid (show key ∉ keys (fl l key low 63) from fun h => (keys_mem _ _).1 h HZ.out)
  have HKL := Lib.hid (show (keys (fl l key low 63)).length ≤ 200 from Nat.le_trans (keys_len _) (by rw [fl_len]; omega))
  clear ha hn P h0 nk nl
  generalize fl l key low = FL at *
  go_enter Try.func4, Try.ntmps4
  go_wp2_with (go_at_call 6; (with_reducible refine (c0 _).mono ?_); rintro e u0 ⟨q, rfl, h1, hb⟩; have L0 := Lib.hid (show Pst PW W q (l.take 0) u0 from ⟨h1, hb⟩); clear h1 hb c0)
  go_loopw [8] (fun i wr => ∃ j : Nat, j ≤ l.length ∧ i = .int .i64 (j : Int) ∧ Hid (Pst PW W q (l.take j) wr)) (fun i _ => l.length - (intOf i).toNat)
  case atStart => exact ⟨0, by omega, rfl, L0⟩
  case round =>
    obtain ⟨j, hj, rfl, L1⟩ := hrel
    clear L0
    by_cases hlt : j < l.length
    · have hlt' : (j : Int) < (l.length : Int) := by omega
      obtain ⟨b, o, rfl, hat⟩ := lies_at HA.out hlt
      have HAX := Lib.hid (fun u (hu : Below W.heap.size W u) => at2 (hat.below hu))
      obtain ⟨k0, k1⟩ := HAX.out _ L1.out.below
      have R1 := Lib.hid (fun u h => RD.out q j u hlt h)
      have HS := Lib.hid (SS.out j hlt)
      generalize l.getD j z = a at *
      obtain ⟨xk, xs⟩ := a
      simp only at *
      generalize of (l.take j ++ [⟨xk, xs⟩]) xk = nv at *
      clear hat SS RD HA ST HO RN HLO HE FS F0 HK HZ HM HKL HAL
      go_wp2
      have LD := Lib.hid (L1.out.on HP.out (Below.refl _ _).drew)
      go_region_held3 (fun u => u.cell? ⟨b, o + j * 2, none⟩ = some (.int .i64 xk) ∧ u.cell? ⟨b, o + j * 2 + 1, none⟩ = some (.int .i64 xs)) (first | assumption | exact ⟨k0, k1⟩) (first
        | (go_at_call 7; (with_reducible refine (R1.out _ LD.out).mono ?_); rintro e u2 ⟨rfl, h2⟩; have L2 := Lib.hid h2; have y2 := HAX.out _ h2.below; clear h2 R1))
      go_wp2
      go_roundw
      case rel => exact ⟨j + 1, by omega, by go_num, by rw [HS.out]; exact L2⟩
      case measure => simp only [intOf]; omega
    · have hlt' : ¬ (j : Int) < (l.length : Int) := by omega
      obtain rfl : j = l.length := by omega
      have L2 := Lib.hid (show Pst PW W q l wr from by have := L1.out; rwa [ST.out] at this)
      clear L1 RD SS HA ST
      go_wp2_with (go_at_call 9; (with_reducible refine (HO.out _ _ L2.out).mono ?_); rintro e w3 ⟨rfl, h3⟩; have L3 := Lib.hid (show Pst PW W q (FL 0) w3 by rw [F0.out]; exact h3); clear h3 HO L2)
      rename World => W9
      go_loopw [9, 10] (fun ws i wu => ∃ t : Nat, t ≤ 63 ∧ i = .int .i64 (t : Int) ∧ ws = .int .i64 (of (FL t) key) ∧ Hid (Pst PW W q (FL t) wu)) (fun _ i _ => 63 - (intOf i).toNat)
      case atStart => exact ⟨0, by omega, rfl, by rw [F0.out], L3⟩
      case round =>
        obtain ⟨t, ht, rfl, rfl, L4⟩ := hrel
        clear L3
        obtain ⟨e0, e1⟩ := HE.out t
        by_cases htm : t < 63
        · have h1 : (t : Int) < 63 := by omega
          have R1 := Lib.hid (fun u h => RN.out q t u htm h)
          have HV := Lib.hid (HLO.out t)
          have HFS := Lib.hid (FS.out t)
          rw [HV.out, ← HFS.out] at R1
          have HN := Lib.hid (show of (FL (t + 1)) key = of (FL t) key / 2 by rw [HFS.out, HV.out])
          generalize of (FL t) key = E at *
          have h2 : ¬ E < E / 2 := by omega
          have h3 : (E / 2 != E / 2) = false := by simp
          clear RN HLO HE FS F0 HK HZ HM HKL HAL HV HFS
          go_wp2_with (go_at_call 7; (with_reducible refine (R1.out _ L4.out).mono ?_); rintro e w5 ⟨rfl, h5⟩; have L5 := Lib.hid h5; clear h5 R1)
          go_roundw
          case rel => exact ⟨t + 1, by omega, by go_num, by rw [HN.out], L5⟩
          case measure => simp only [intOf]; omega
        · have h1 : ¬ (t : Int) < 63 := by omega
          obtain rfl : t = 63 := by omega
          rw [HZ.out]
          have HKQ := Lib.hid (fun u h => HK.out q u h)
          generalize keys (FL 63) = ks at *
          have hkl := HKL.out
          have HMM := Lib.hid (fun (j : Nat) (hj : j < ks.length) => show ks.getD j 0 ≠ key from fun e => HM.out (by rw [← e]; simp [List.getD, hj]))
          clear RN HLO HE FS F0 HK HM HP e0 e1
          go_wp2_with (go_at_call 14; (with_reducible refine (HKQ.out _ L4.out).mono ?_); rintro e w6 ⟨p6, c6, rfl, hp, hb⟩; have P6 := Lib.hid hp; have B6 := Lib.hid hb; clear hp hb HKQ L4)
          rename World => W8
          go_loop [13] (fun i => ∃ j : Nat, j ≤ ks.length ∧ i = .int .i64 (j : Int)) (fun i => ks.length - (intOf i).toNat)
          case atStart => exact ⟨0, by omega, rfl⟩
          case round =>
            obtain ⟨j, hj, rfl⟩ := hrel
            by_cases hlj : j < ks.length
            · have hlj' : (j : Int) < (ks.length : Int) := by omega
              obtain ⟨b, o, rfl, k0⟩ := ints_at' P6.out hlj
              have hne := HMM.out j hlj
              generalize ks.getD j 0 = x at *
              have hx : (x == key) = false := by simpa using hne
              clear hne HMM P6 HAL HZ
              go_wp2
              go_round
              case rel => exact ⟨j + 1, by omega, by go_num⟩
              case measure => simp only [intOf]; omega
            · have hlj' : ¬ (j : Int) < (ks.length : Int) := by omega
              clear HMM P6 HZ
              go_wp2_with (go_at_call 5; (with_reducible refine (HAL.out _).mono ?_); rintro e w7 ⟨rfl, hb⟩; have B7 := Lib.hid (B6.out.trans (hb.mono B6.out.size)); clear hb HAL)
              go_ret
              exact ⟨rfl, B7.out⟩
set_option maxRecDepth 100000 in
theorem fades_many {PW : Pw} (P : Way13 PW) (W : World) (p : Option Addr) (c n : Nat) (key low : Int) (h : 80 < n ∨ 0 < low) :
    Calls Try.prog 4 #[.slice p n c, .int .i64 key, .int .i64 low] W fun e w' => e = .returned (.bool true) ∧ Below W.heap.size W w' := by
  have ha := fun u => alive_way P u
  by_cases hn : (80 : Int) < (n : Int)
  · clear h
    go_enter Try.func4, Try.ntmps4
    go_wp2_with (go_at_call 5; (with_reducible refine (ha _).mono ?_); rintro e u6 ⟨rfl, hb⟩)
    go_ret
    exact ⟨rfl, hb⟩
  · have hlow : (0 : Int) < low := by omega
    clear h
    go_enter Try.func4, Try.ntmps4
    go_wp2_with (go_at_call 5; (with_reducible refine (ha _).mono ?_); rintro e u6 ⟨rfl, hb⟩)
    go_ret
    exact ⟨rfl, hb⟩
end Go.Proofs.Ytghbcknbkkhhpaa.Demand
