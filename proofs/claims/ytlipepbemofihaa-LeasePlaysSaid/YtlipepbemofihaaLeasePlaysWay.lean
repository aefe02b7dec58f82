/-
  LeasePlays returns true, whatever the program's wallet is, if its calls do what is asked of them.
-/
import Derived.Test.YtlipepbemofihaaLeaseWant
namespace Go.Proofs.Ytlipepbemofihaa.Lease
open Go.RowKit
open _root_.Go.Proofs.Ytlipepbemofihaa.Codec (lt_of_heap frozen_of heap_set below_new own_below)

def za : Ac := ⟨0, z, 0⟩
/-- The seven cells of an act. -/
def ActAt (w : World) (b o : Nat) (a : Ac) : Prop := w.cell? ⟨b, o, none⟩ = some (.int .u8 a.kind) ∧ w.cell? ⟨b, o + 1, none⟩ = some (.int .i64 a.l.key) ∧ w.cell? ⟨b, o + 2, none⟩ = some (.int .i64 a.l.gen) ∧ w.cell? ⟨b, o + 3, none⟩ = some (.int .i64 a.l.amount) ∧ w.cell? ⟨b, o + 4, none⟩ = some (.int .i64 a.l.spent) ∧ w.cell? ⟨b, o + 5, none⟩ = some (.int .i64 a.l.til) ∧ w.cell? ⟨b, o + 6, none⟩ = some (.int .i64 a.now)
def ActsAt (w : World) (p : Option Addr) (l : List Ac) : Prop := l = [] ∨ ∃ b o, p = some ⟨b, o, none⟩ ∧ ∀ j, j < l.length → ActAt w b (o + j * 7) (l.getD j za)
theorem ActAt.below {w w' : World} {b o : Nat} {a : Ac} (h : ActAt w b o a) (hb : Below w.heap.size w w') : ActAt w' b o a :=
  ⟨cell_on h.1 hb, cell_on h.2.1 hb, cell_on h.2.2.1 hb, cell_on h.2.2.2.1 hb, cell_on h.2.2.2.2.1 hb, cell_on h.2.2.2.2.2.1 hb, cell_on h.2.2.2.2.2.2 hb⟩
theorem acts_at {w : World} {p : Option Addr} {l : List Ac} (h : ActsAt w p l) {j : Nat} (hj : j < l.length) : ∃ b o, p = some ⟨b, o, none⟩ ∧ ActAt w b (o + j * 7) (l.getD j za) := by
  rcases h with h | ⟨b, o, e, hc⟩
  · rw [h] at hj; simp at hj
  · exact ⟨b, o, e, hc j hj⟩
/-- The leases behind the first j acts. -/
def st (l : List Ac) (j : Nat) : List Lz := (l.take j).foldl (fun s a => (actOf s a).1) []
theorem st_zero (l : List Ac) : st l 0 = [] := by simp [st]
theorem st_succ (l : List Ac) {j : Nat} (h : j < l.length) : st l (j + 1) = (actOf (st l j) (l.getD j za)).1 := by
  have e : l.take (j + 1) = l.take j ++ [l.getD j za] := by
    rw [List.take_add_one]
    simp [List.getD, h]
  unfold st
  rw [e, List.foldl_append]
  rfl
theorem st_good (l : List Ac) (hn : ∀ a ∈ l, AcNum a) : ∀ j, j ≤ l.length → Good (st l j) ∧ (st l j).length ≤ j
  | 0, _ => by rw [st_zero]; exact ⟨good_nil, Nat.le_refl _⟩
  | j + 1, h => by
    have ih := st_good l hn j (by omega)
    have hm : l.getD j za ∈ l := by simp [List.getD, show j < l.length by omega]
    rw [st_succ l (by omega)]
    refine ⟨good_act ih.1 (hn _ hm), Nat.le_trans (len_act _ _) (by omega)⟩

/-- Both wallets, while acts are done. -/
structure Lst (PW : Pw) (W : World) (q v : Nat) (s t : List Lz) (u : World) : Prop where
  pw : PW W.heap.size u q s
  wl : Wl W.heap.size u v t
  below : Below W.heap.size W u
section
variable {PW : Pw} {W u u' : World} {q v : Nat} {s t s' t' : List Lz}
theorem Lst.on (P : Way11 PW) (h : Lst PW W q v s t u) (hb : Below u.heap.size u u') : Lst PW W q v s t u' :=
  ⟨P.below h.pw hb, h.wl.below hb, h.below.trans (hb.mono h.below.size)⟩
theorem Lst.own (h : Lst PW W q v s t u) (hm : Moved PW W.heap.size u q s' u') : Lst PW W q v s' t u' :=
  ⟨hm.pw, hm.off.wl h.wl, h.below.trans hm.below⟩
theorem Lst.ref (P : Way11 PW) (h : Lst PW W q v s t u) (hm : Step W.heap.size u v t' u') : Lst PW W q v s t' u' :=
  ⟨P.kept h.pw hm.kept hm.below, hm.wl, h.below.trans hm.below⟩
end
/-- A round: all that is asked of it. -/
structure Round (PW : Pw) (W : World) (q v : Nat) (s : List Lz) (a : Ac) (key now : Int) : Prop where
  step : ∀ u, Lst PW W q v s s u → Calls Try.prog 7 #[.pointer (some ⟨q, 0, none⟩), actVal a] u fun e w' => e = .returned (.tuple #[.int .i64 (actOf s a).2.1, .bool (actOf s a).2.2]) ∧ Lst PW W q v (actOf s a).1 s w'
  want : ∀ u, Lst PW W q v (actOf s a).1 s u → Calls Try.prog 8 #[.pointer (some ⟨v, 0, none⟩), actVal a] u fun e w' => e = .returned (.tuple #[.int .i64 (actOf s a).2.1, .bool (actOf s a).2.2]) ∧ Lst PW W q v (actOf s a).1 (actOf s a).1 w'
  all : ∀ u, Lst PW W q v (actOf s a).1 (actOf s a).1 u → Calls Try.prog 11 #[.pointer (some ⟨q, 0, none⟩)] u fun e w' => ∃ p c, e = .returned (.slice p (actOf s a).1.length c) ∧ Lies w' p (actOf s a).1 ∧ Below u.heap.size u w'
  of : ∀ u p c, Lst PW W q v (actOf s a).1 (actOf s a).1 u → Lies u p (actOf s a).1 → Calls Try.prog 10 #[.slice p (actOf s a).1.length c] u fun e w' => ∃ p' c', e = .returned (.slice p' (actOf s a).1.length c') ∧ Lies w' p' (actOf s a).1 ∧ Below u.heap.size u w'
  same : ∀ u p c p' c', Lst PW W q v (actOf s a).1 (actOf s a).1 u → Lies u p (actOf s a).1 → Lies u p' (actOf s a).1 → Calls Try.prog 9 #[.slice p (actOf s a).1.length c, .slice p' (actOf s a).1.length c'] u fun e w' => e = .returned (.bool true) ∧ Below u.heap.size u w'
  pleft : ∀ u, Lst PW W q v (actOf s a).1 (actOf s a).1 u → Calls Try.prog 12 #[.pointer (some ⟨q, 0, none⟩), .int .i64 key, .int .i64 now] u fun e w' => e = .returned (.int .i64 (left (actOf s a).1 key now)) ∧ Below u.heap.size u w'
  rleft : ∀ u, Lst PW W q v (actOf s a).1 (actOf s a).1 u → Calls Try.prog 13 #[.pointer (some ⟨v, 0, none⟩), .int .i64 key, .int .i64 now] u fun e w' => e = .returned (.int .i64 (left (actOf s a).1 key now)) ∧ Below u.heap.size u w'
  pleft2 : ∀ u, Lst PW W q v (actOf s a).1 (actOf s a).1 u → Calls Try.prog 12 #[.pointer (some ⟨q, 0, none⟩), .int .i64 a.l.key, .int .i64 a.now] u fun e w' => e = .returned (.int .i64 (left (actOf s a).1 a.l.key a.now)) ∧ Below u.heap.size u w'
  rleft2 : ∀ u, Lst PW W q v (actOf s a).1 (actOf s a).1 u → Calls Try.prog 13 #[.pointer (some ⟨v, 0, none⟩), .int .i64 a.l.key, .int .i64 a.now] u fun e w' => e = .returned (.int .i64 (left (actOf s a).1 a.l.key a.now)) ∧ Below u.heap.size u w'
theorem round_any {PW : Pw} (P : Way11 PW) {W : World} {q v : Nat} {s : List Lz} (hg : Good s) (hl : s.length ≤ 90) {a : Ac} (ha : AcNum a) {key now : Int} (nk : Num key) (nn : Num now) : Round PW W q v s a key now := by
  have hg' := good_act hg ha
  have hl' : (actOf s a).1.length ≤ 100 := Nat.le_trans (len_act s a) (by omega)
  constructor
  · intro u h
    refine (step_way P h.pw h.below.size hg (by omega) a ha).mono ?_
    rintro e w' ⟨rfl, hm⟩
    exact ⟨rfl, h.own hm⟩
  · intro u h
    refine (want_any h.wl h.below.size hg (by omega) a ha.1.1 ha.1.2).mono ?_
    rintro e w' ⟨rfl, hm⟩
    exact ⟨rfl, h.ref P hm⟩
  · intro u h
    refine (P.all h.pw hg' hl').mono ?_
    rintro e w' ⟨p, c, rfl, hp, hb⟩
    exact ⟨p, c, rfl, hp, hb⟩
  · intro u p c h hp
    refine (of_any hp (by omega)).mono ?_
    rintro e w' ⟨p', c', rfl, hp', hb⟩
    exact ⟨p', c', rfl, hp', hb⟩
  · intro u p c p' c' h hp hp'
    refine (rsame_any hp hp' rfl (by omega)).mono ?_
    rintro e w' ⟨rfl, hb⟩
    exact ⟨rfl, hb⟩
  · intro u h
    refine (P.left h.pw hg' hl' key now nk nn).mono ?_
    rintro e w' ⟨rfl, hb⟩
    exact ⟨rfl, hb⟩
  · intro u h
    refine (rleft_any h.wl hg' (by omega) key now).mono ?_
    rintro e w' ⟨rfl, hb⟩
    exact ⟨rfl, hb⟩
  · intro u h
    refine (P.left h.pw hg' hl' a.l.key a.now ha.2.1.1 ha.2.2).mono ?_
    rintro e w' ⟨rfl, hb⟩
    exact ⟨rfl, hb⟩
  · intro u h
    refine (rleft_any h.wl hg' (by omega) a.l.key a.now).mono ?_
    rintro e w' ⟨rfl, hb⟩
    exact ⟨rfl, hb⟩

set_option maxRecDepth 100000 in
set_option maxHeartbeats 8000000 in
theorem plays_few {PW : Pw} (P : Way11 PW) (W : World) (p : Option Addr) (c : Nat) (l : List Ac) (ha : ActsAt W p l) (hn : ∀ a ∈ l, AcNum a) (hl : l.length ≤ 80) (key now : Int) (nk : Num key) (nn : Num now) :
    Calls Try.prog 3 #[.slice p l.length c, .int .i64 key, .int .i64 now] W fun e w' => e = .returned (.bool true) ∧ Below W.heap.size W w' := by
  have c0 := P.new W
  have RD := Lib.hid (fun (q v j : Nat) (hj : j < l.length) => round_any (W := W) (q := q) (v := v) P (st_good l hn j (by omega)).1 (Nat.le_trans (st_good l hn j (by omega)).2 (by omega)) (hn (l.getD j za) (by simp [List.getD, hj])) nk nn)
  have S0 := Lib.hid (st_zero l)
  have SS := Lib.hid (fun (j : Nat) (hj : j < l.length) => st_succ l hj)
  have HA := Lib.hid ha
  have HP := Lib.hid P
  have hl' : ¬ (80 : Int) < (l.length : Int) := by omega
  generalize st l = ST at *
  clear ha hn P
  go_enter Try.func3, Try.ntmps3
  go_wp2_with (go_at_call 6; (with_reducible refine c0.mono ?_); rintro e u0 ⟨q, rfl, h0, hb⟩; have L0 := Lib.hid (show Lst PW W q u0.heap.size (ST 0) (ST 0) (u0.alloc (.cells #[.slice none 0 0] 29)) from by (rw [S0.out]; exact ⟨HP.out.below h0 ((Below.refl _ _).alloc (Nat.le_refl _) _), ⟨hb.size, _, heap_alloc_new _ _, Own.none _ _ _⟩, hb.alloc hb.size _⟩)); clear h0 hb c0)
  go_loopw [9] (fun i wr => ∃ j : Nat, j ≤ l.length ∧ i = .int .i64 (j : Int) ∧ Hid (Lst PW W q u0.heap.size (ST j) (ST j) wr)) (fun i _ => l.length - (intOf i).toNat)
  case atStart => exact ⟨0, by omega, rfl, L0⟩
  case round =>
    obtain ⟨j, hj, rfl, L1⟩ := hrel
    clear L0
    by_cases hlt : j < l.length
    · have hlt' : (j : Int) < (l.length : Int) := by omega
      obtain ⟨b, o, rfl, hat⟩ := acts_at (by have := HA.out; exact this) hlt
      have HAT := Lib.hid (fun u (hu : Below W.heap.size W u) => hat.below hu)
      obtain ⟨k0, k1, k2, k3, k4, k5, k6⟩ := HAT.out _ L1.out.below
      obtain ⟨r1, r2, r3, r4, r5, r6, r7, r8, r9⟩ := RD.out q u0.heap.size j hlt
      have HS := Lib.hid (SS.out j hlt)
      generalize ST j = s at *
      generalize l.getD j za = a at *
      generalize actOf s a = T at *
      have R1 := Lib.hid r1
      have R2 := Lib.hid r2
      have R3 := Lib.hid r3
      have R4 := Lib.hid r4
      have R5 := Lib.hid r5
      have R6 := Lib.hid r6
      have R7 := Lib.hid r7
      have R8 := Lib.hid r8
      have R9 := Lib.hid r9
      clear r1 r2 r3 r4 r5 r6 r7 r8 r9 hat SS S0 RD
      obtain ⟨T, n, ok⟩ := T
      obtain ⟨kind, ⟨xk, xg, xa, xs, xt⟩, at_⟩ := a
      simp only [actVal] at *
      go_wp2_with (first
        | (go_at_call 7; (with_reducible refine (R1.out _ L1.out).mono ?_); rintro e u2 ⟨rfl, h2⟩; have L2 := Lib.hid h2; clear k0 k1 k2 k3 k4 k5 k6; obtain ⟨k0, k1, k2, k3, k4, k5, k6⟩ := HAT.out _ h2.below; clear h2 R1)
        | (go_at_call 8; (with_reducible refine (R2.out _ L2.out).mono ?_); rintro e u3 ⟨rfl, h3⟩; have L3 := Lib.hid h3; clear k0 k1 k2 k3 k4 k5 k6; clear h3 R2))
      have L4 := Lib.hid (L3.out.on HP.out (Below.refl _ _).drew)
      obtain ⟨pm, cm, g4, hm⟩ := L4.out.wl.cell
      have M4 := Lib.hid hm
      clear hm
      go_region_held3 (fun u => u.cell? ⟨u0.heap.size, 0, none⟩ = some (.slice pm T.length cm)) (first | assumption) (first
        | (go_at_call 11; (with_reducible refine (R3.out _ L4.out).mono ?_); rintro e u5 ⟨p5, c5, rfl, hp, hb⟩; have g5 := cell_on g4 hb; have P5 := Lib.hid hp; have M5 := Lib.hid (M4.out.below hb); have L5 := Lib.hid (L4.out.on HP.out hb); clear hb hp R3)
        | (go_at_call 10; (with_reducible refine (R4.out _ _ _ L5.out P5.out).mono ?_); rintro e u6 ⟨p6, c6, rfl, hp, hb⟩; have g6 := cell_on g5 hb; have P6 := Lib.hid hp; have M6 := Lib.hid (M5.out.below hb); have L6 := Lib.hid (L5.out.on HP.out hb); clear hb hp R4)
        | (go_at_call 9; (with_reducible refine (R5.out _ _ _ _ _ L6.out P6.out M6.out).mono ?_); rintro e u7 ⟨rfl, hb⟩; have g7 := cell_on g6 hb; have L7 := Lib.hid (L6.out.on HP.out hb); clear hb R5))
      clear g4 g5 g6 g7 P5 P6 M4 M5 M6 L3 L4 L5 L6
      go_wp2
      have L8 := Lib.hid (L7.out.on HP.out (Below.refl _ _).drew)
      obtain ⟨-, k1, -, -, -, -, k6⟩ := HAT.out _ L8.out.below
      simp only at k1 k6
      go_region_held3 (fun u => u.cell? ⟨b, o + j * 7 + 1, none⟩ = some (.int .i64 xk) ∧ u.cell? ⟨b, o + j * 7 + 6, none⟩ = some (.int .i64 at_)) (first | assumption | exact ⟨k1, k6⟩) (first
        | (go_at_call 12; (with_reducible refine (R6.out _ L8.out).mono ?_); rintro e u9 ⟨rfl, hb⟩; have y9 := And.intro (cell_on k1 hb) (cell_on k6 hb); have L9 := Lib.hid (L8.out.on HP.out hb); clear hb R6)
        | (go_at_call 13; (with_reducible refine (R7.out _ L9.out).mono ?_); rintro e u10 ⟨rfl, hb⟩; have y10 := And.intro (cell_on y9.1 hb) (cell_on y9.2 hb); have L10 := Lib.hid (L9.out.on HP.out hb); clear hb R7)
        | (go_at_call 12; (with_reducible refine (R8.out _ L10.out).mono ?_); rintro e u11 ⟨rfl, hb⟩; have y11 := And.intro (cell_on y10.1 hb) (cell_on y10.2 hb); have L11 := Lib.hid (L10.out.on HP.out hb); clear hb R8)
        | (go_at_call 13; (with_reducible refine (R9.out _ L11.out).mono ?_); rintro e u12 ⟨rfl, hb⟩; have y12 := And.intro (cell_on y11.1 hb) (cell_on y11.2 hb); have L12 := Lib.hid (L11.out.on HP.out hb); clear hb R9))
      go_wp2
      go_roundw
      case rel => exact ⟨j + 1, by omega, by go_num, by rw [HS.out]; exact L12⟩
      case measure => simp only [intOf]; omega
    · have hlt' : ¬ (j : Int) < (l.length : Int) := by omega
      have B1 := Lib.hid L1.out.below
      have d1 := HP.out.nspend 1 1 1
      have d2 := fun u => alive_way HP.out u
      have d3 := HP.out.nput ⟨0, 1, 1, 0, 0⟩
      have d4 := HP.out.nleft 1 1
      have d5 := HP.out.ndrop 1
      have d6 := HP.out.nall
      have d7 := HP.out.nclose 1 1
      simp only [val] at d3
      clear L1 RD S0 SS HA HP nk nn
      go_wp2_with (first
        | (go_at_call 14; (with_reducible refine (d1 _).mono ?_); rintro e u2 ⟨rfl, hb⟩; have B2 := Lib.hid (B1.out.trans (hb.mono B1.out.size)); clear hb d1)
        | (go_at_call 5; (with_reducible refine (d2 _).mono ?_); rintro e u3 ⟨rfl, hb⟩; have B3 := Lib.hid (B2.out.trans (hb.mono B2.out.size)); clear hb d2)
        | (go_at_call 15; (with_reducible refine (d3 _).mono ?_); rintro e u4 ⟨rfl, hb⟩; have B4 := Lib.hid (B3.out.trans (hb.mono B3.out.size)); clear hb d3)
        | (go_at_call 12; (with_reducible refine (d4 _).mono ?_); rintro e u5 ⟨rfl, hb⟩; have B5 := Lib.hid (B4.out.trans (hb.mono B4.out.size)); clear hb d4)
        | (go_at_call 16; (with_reducible refine (d5 _).mono ?_); rintro e u6 ⟨rfl, hb⟩; have B6 := Lib.hid (B5.out.trans (hb.mono B5.out.size)); clear hb d5)
        | (go_at_call 11; (with_reducible refine (d6 _).mono ?_); rintro e u7 ⟨pa, ca, rfl, hb⟩; have B7 := Lib.hid (B6.out.trans (hb.mono B6.out.size)); clear hb d6)
        | (go_at_call 17; (with_reducible refine (d7 _).mono ?_); rintro e u8 ⟨rfl, hb⟩; have B8 := Lib.hid (B7.out.trans (hb.mono B7.out.size)); clear hb d7))
      go_ret
      exact ⟨rfl, B8.out⟩
end Go.Proofs.Ytlipepbemofihaa.Lease
