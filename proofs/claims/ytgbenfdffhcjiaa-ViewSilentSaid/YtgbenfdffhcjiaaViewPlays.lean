/-
  ViewPlays returns true of any numbers, any hearings, whatever the program's view is, if its calls do what is asked of them.
-/
import Derived.Test.YtgbenfdffhcjiaaViewWay
import Derived.Test.YtgbenfdffhcjiaaViewRef2
namespace Go.Proofs.Ytgbenfdffhcjiaa.View
open Go.RowKit
open _root_.Go.Proofs.Ytgbenfdffhcjiaa.Codec (lt_of_heap frozen_of heap_set below_new own_below)
open _root_.Go.Proofs.Ytgbenfdffhcjiaa.Kit (Enc Lies Own At Kept Laid Off cell_on lt_heap take_snoc below_drewN ints)

/-- Pairs of numbers. -/
def pairs : Enc (Int × Int) := ⟨2, fun x => [.int .i64 x.1, .int .i64 x.2], (0, 0), by decide, fun _ => rfl, fun x u hu => by simp at hu; rcases hu with rfl | rfl <;> rfl⟩
theorem at2 {w : World} {b o : Nat} {x : Int × Int} (h : At pairs w b o x) : w.cell? ⟨b, o, none⟩ = some (.int .i64 x.1) ∧ w.cell? ⟨b, o + 1, none⟩ = some (.int .i64 x.2) := ⟨h 0 _ rfl, h 1 _ rfl⟩
theorem pairs_at {w : World} {p : Option Addr} {l : List (Int × Int)} (h : Lies pairs w p l) {j : Nat} (hj : j < l.length) : ∃ b o, p = some ⟨b, o, none⟩ ∧ At pairs w b (o + j * 2) (l.getD j (0, 0)) := Kit.lies_at h hj
/-- Hearings, one behind the other. -/
def runs (V : Vw) (l : List (Int × Int)) : Vw := l.foldl (fun v x => hear v x.1 x.2) V
theorem runs_snoc (V : Vw) (l : List (Int × Int)) (x : Int × Int) : runs V (l ++ [x]) = hear (runs V l) x.1 x.2 := by simp [runs]
theorem runs_len : ∀ (l : List (Int × Int)) (V : Vw), (runs V l).l.length = V.l.length
  | [], _ => rfl
  | x :: l, V => by
    show (runs (hear V x.1 x.2) l).l.length = _
    rw [runs_len l, hear_len]
/-- Both views, while they hear. -/
def Vst (PW : Pw) (W : World) (q v : Nat) (s t : Vw) (u : World) : Prop := ∃ F, PW F W.heap.size u q s ∧ Rv F W.heap.size u v t ∧ Below W.heap.size W u
section
variable {PW : Pw} {W u u' : World} {q v : Nat} {s t s' t' : Vw}
theorem Vst.below (h : Vst PW W q v s t u) : Below W.heap.size W u := by
  obtain ⟨_, _, _, h⟩ := h
  exact h
theorem Vst.on (P : Way16 PW) (h : Vst PW W q v s t u) (hb : Below u.heap.size u u') : Vst PW W q v s t u' := by
  obtain ⟨F, h1, h2, h3⟩ := h
  exact ⟨F, P.below h1 hb, h2.below hb, h3.trans (hb.mono h3.size)⟩
theorem Vst.cell (h : Vst PW W q v s t u) : ∃ p c, u.cell? ⟨v, 2, none⟩ = some (.slice p t.l.length c) ∧ Lies ints u p t.l := by
  obtain ⟨F, _, h2, _⟩ := h
  obtain ⟨p, c, _, _, k2, _, k⟩ := h2.cell
  exact ⟨p, c, k2, k⟩
end
/-- A round: all that is asked of it. -/
structure Round (PW : Pw) (W : World) (q v : Nat) (s s' : Vw) (i x now : Int) : Prop where
  hear : ∀ u, Vst PW W q v s s u → Calls Try.prog 8 #[.pointer (some ⟨q, 0, none⟩), .int .i64 i, .int .i64 x] u fun e w' => e = .returned (.tuple #[]) ∧ Vst PW W q v s' s w'
  rhear : ∀ u, Vst PW W q v s' s u → Calls Try.prog 9 #[.pointer (some ⟨v, 0, none⟩), .int .i64 i, .int .i64 x] u fun e w' => e = .returned (.tuple #[]) ∧ Vst PW W q v s' s' w'
  heard : ∀ u, Vst PW W q v s' s' u → Calls Try.prog 11 #[.pointer (some ⟨q, 0, none⟩)] u fun e w' => ∃ p c, e = .returned (.slice p s'.l.length c) ∧ Lies ints w' p s'.l ∧ Vst PW W q v s' s' w' ∧ Below u.heap.size u w'
  same : ∀ u p c p' c', Vst PW W q v s' s' u → Lies ints u p s'.l → Lies ints u p' s'.l → Calls Try.prog 10 #[.slice p s'.l.length c, .slice p' s'.l.length c'] u fun e w' => e = .returned (.bool true) ∧ Vst PW W q v s' s' w' ∧ Below u.heap.size u w'
  live : ∀ u, Vst PW W q v s' s' u → Calls Try.prog 12 #[.pointer (some ⟨q, 0, none⟩), .int .i64 now] u fun e w' => e = .returned (.int .u64 (live s' now)) ∧ Vst PW W q v s' s' w'
  rlive : ∀ u, Vst PW W q v s' s' u → Calls Try.prog 13 #[.pointer (some ⟨v, 0, none⟩), .int .i64 now] u fun e w' => e = .returned (.int .u64 (View.live s' now)) ∧ Vst PW W q v s' s' w'
  next : ∀ u, Vst PW W q v s' s' u → Calls Try.prog 14 #[.pointer (some ⟨q, 0, none⟩), .int .i64 now] u fun e w' => e = .returned (.int .i64 (next s' now)) ∧ Vst PW W q v s' s' w'
  rnext : ∀ u, Vst PW W q v s' s' u → Calls Try.prog 15 #[.pointer (some ⟨v, 0, none⟩), .int .i64 now] u fun e w' => e = .returned (.int .i64 (View.next s' now)) ∧ Vst PW W q v s' s' w'
theorem round_any {PW : Pw} (P : Way16 PW) {W : World} {q v : Nat} {s : Vw} (hl : s.l.length ≤ 64) {i x now : Int} (ni : Num i) (nx : Num x) (nn : Num now) : Round PW W q v s (View.hear s i x) i x now := by
  have hl' : (View.hear s i x).l.length ≤ 64 := by rw [hear_len]; exact hl
  refine ⟨fun u h => ?_, fun u h => ?_, fun u h => ?_, fun u p c p' c' h hp hp' => ?_, fun u h => ?_, fun u h => ?_, fun u h => ?_, fun u h => ?_⟩
  · obtain ⟨F, h1, h2, h3⟩ := h
    exact (P.hear h1 h3.size i x ni nx).mono fun e w' ⟨he, hm⟩ => ⟨he, F, hm.pw, h2.off hm.off hm.rest, h3.trans hm.below⟩
  · obtain ⟨F, h1, h2, h3⟩ := h
    exact (rhear_any h2 h3.size hl i x).mono fun e w' ⟨he, hm⟩ => ⟨he, _, P.turned h1 (.of_kept hm.kept) (fun g hg => hg.imp id fun k => k.1), hm.rv, h3.trans hm.below⟩
  · obtain ⟨F, h1, h2, h3⟩ := h
    exact (P.heard h1).mono fun e w' ⟨p, c, he, hp, hb⟩ => ⟨p, c, he, hp, Vst.on P ⟨F, h1, h2, h3⟩ hb, hb⟩
  · exact (same_ints hp hp' (by omega)).mono fun e w' ⟨he, hb⟩ => ⟨he, h.on P hb, hb⟩
  · obtain ⟨F, h1, h2, h3⟩ := h
    exact (P.live h1 now nn).mono fun e w' ⟨he, hb⟩ => ⟨he, Vst.on P ⟨F, h1, h2, h3⟩ hb⟩
  · obtain ⟨F, h1, h2, h3⟩ := h
    exact (rlive_any h2 hl' now).mono fun e w' ⟨he, hb⟩ => ⟨he, Vst.on P ⟨F, h1, h2, h3⟩ hb⟩
  · obtain ⟨F, h1, h2, h3⟩ := h
    exact (P.next h1 now nn).mono fun e w' ⟨he, hb⟩ => ⟨he, Vst.on P ⟨F, h1, h2, h3⟩ hb⟩
  · obtain ⟨F, h1, h2, h3⟩ := h
    exact (rnext_any h2 hl' now).mono fun e w' ⟨he, hb⟩ => ⟨he, Vst.on P ⟨F, h1, h2, h3⟩ hb⟩
set_option maxRecDepth 100000 in
set_option maxHeartbeats 4000000 in
theorem plays_many {PW : Pw} (P : Way16 PW) (W : World) (n node span at' : Int) (p : Option Addr) (c m : Nat) (now : Int) (hl : (100 : Int) < (m : Int)) :
    Calls Try.prog 3 #[.agg #[.int .i64 n, .int .i64 node, .int .i64 span, .int .i64 at'], .slice p m c, .int .i64 now] W fun e w' => e = .returned (.bool true) ∧ Below W.heap.size W w' := by
  have ca := fun u => alive_way P u
  have B0 := Lib.hid (lay W (.cells #[.int .i64 n, .int .i64 node, .int .i64 span, .int .i64 at'] 22))
  clear P
  go_enter Try.func3, Try.ntmps3
  go_wp2_with (go_at_call 5; (with_reducible refine (ca _).mono ?_); rintro e u2 ⟨rfl, hb⟩; have B2 := Lib.hid (B0.out.trans (hb.mono B0.out.size)); clear hb ca)
  go_ret
  exact ⟨rfl, B2.out⟩
set_option maxRecDepth 100000 in
set_option maxHeartbeats 8000000 in
theorem plays_ok {PW : Pw} (P : Way16 PW) (W : World) (n node span at' : Int) (hk : okNew n node = true) (ns : Num span) (na : Num at') (p : Option Addr) (c : Nat) (l : List (Int × Int)) (ha : Lies pairs W p l) (hn : ∀ x ∈ l, Num x.1 ∧ Num x.2) (hl : l.length ≤ 100) (now : Int) (nn : Num now) :
    Calls Try.prog 3 #[.agg #[.int .i64 n, .int .i64 node, .int .i64 span, .int .i64 at'], .slice p l.length c, .int .i64 now] W fun e w' => e = .returned (.bool true) ∧ Below W.heap.size W w' := by
  obtain ⟨h64, -⟩ := okNew_iff.1 hk
  have c0 := fun u => P.new n node span at' u hk ns na
  have c1 := fun u => rnew_ok n node span at' hk u
  have RD := Lib.hid (fun (W' : World) (q v j : Nat) (hj : j < l.length) => round_any (W := W') (q := q) (v := v) P (s := runs (start n node span at') (l.take j)) (by rw [runs_len, start_len]; omega) (hn (l.getD j (0, 0)) (by simp [List.getD, hj])).1 (hn (l.getD j (0, 0)) (by simp [List.getD, hj])).2 nn)
  have SS := Lib.hid (fun (j : Nat) (hj : j < l.length) => show runs (start n node span at') (l.take (j + 1)) = View.hear (runs (start n node span at') (l.take j)) (l.getD j (0, 0)).1 (l.getD j (0, 0)).2 by rw [take_snoc (0, 0) hj, runs_snoc])
  have HP := Lib.hid P
  have hl' : ¬ (100 : Int) < (l.length : Int) := by omega
  have B0 := Lib.hid (lay W (.cells #[.int .i64 n, .int .i64 node, .int .i64 span, .int .i64 at'] 22))
  have HAT := Lib.hid (ha.below B0.out)
  have hz := heap_alloc_new W (.cells #[.int .i64 n, .int .i64 node, .int .i64 span, .int .i64 at'] 22)
  have t0 : (W.alloc (.cells #[.int .i64 n, .int .i64 node, .int .i64 span, .int .i64 at'] 22)).cell? ⟨W.heap.size, 0, none⟩ = some (.int .i64 n) := by rw [cell_of_row _ _ 0 _ _ (0, 0) hz]; rfl
  have t1 : (W.alloc (.cells #[.int .i64 n, .int .i64 node, .int .i64 span, .int .i64 at'] 22)).cell? ⟨W.heap.size, 1, none⟩ = some (.int .i64 node) := by rw [cell_of_row _ _ 1 _ _ (0, 0) hz]; rfl
  have t2 : (W.alloc (.cells #[.int .i64 n, .int .i64 node, .int .i64 span, .int .i64 at'] 22)).cell? ⟨W.heap.size, 2, none⟩ = some (.int .i64 span) := by rw [cell_of_row _ _ 2 _ _ (0, 0) hz]; rfl
  have t3 : (W.alloc (.cells #[.int .i64 n, .int .i64 node, .int .i64 span, .int .i64 at'] 22)).cell? ⟨W.heap.size, 3, none⟩ = some (.int .i64 at') := by rw [cell_of_row _ _ 3 _ _ (0, 0) hz]; rfl
  have RL := Lib.hid (fun j => runs_len (l.take j) (start n node span at'))
  have R0 := Lib.hid (show runs (start n node span at') (l.take 0) = start n node span at' from rfl)
  generalize hRS : (fun j => runs (start n node span at') (l.take j)) = RS
  have hRS' : ∀ j, runs (start n node span at') (l.take j) = RS j := fun j => by rw [← hRS]
  simp only [hRS'] at RD SS RL R0
  generalize start n node span at' = S0 at *
  clear ha hn P hk ns na nn h64 hz hRS hRS'
  go_enter Try.func3, Try.ntmps3
  go_wp2_with (first
    | (go_at_call 6; (with_reducible refine (c0 _).mono ?_); rintro e u0 ⟨q, rfl, h0, hb⟩; have y0 := cell_on t0 hb; have y1 := cell_on t1 hb; have y2 := cell_on t2 hb; have y3 := cell_on t3 hb; have H0 := Lib.hid (And.intro h0 hb); clear h0 hb c0 t0 t1 t2 t3)
    | (go_at_call 7; (with_reducible refine (c1 _).mono ?_); rintro e u1 ⟨v, rfl, hv, hb⟩; have L0 := Lib.hid (show Vst PW _ q v S0 S0 u1 from ⟨_, HP.out.turned H0.out.1 (.of_below hb) (fun g hg => .inr hg.1), hv.lower H0.out.2.size, H0.out.2.trans (hb.mono H0.out.2.size)⟩); clear hv hb H0 c1 y0 y1 y2 y3))
  generalize W.alloc (.cells #[.int .i64 n, .int .i64 node, .int .i64 span, .int .i64 at'] 22) = W1 at *
  go_loopw [11] (fun i wr => ∃ j : Nat, j ≤ l.length ∧ i = .int .i64 (j : Int) ∧ Hid (Vst PW W1 q v (RS j) (RS j) wr)) (fun i _ => l.length - (intOf i).toNat)
  case atStart => exact ⟨0, by omega, rfl, by rw [R0.out]; exact L0⟩
  case round =>
    obtain ⟨j, hj, rfl, L1⟩ := hrel
    clear L0 R0
    by_cases hlt : j < l.length
    · have hlt' : (j : Int) < (l.length : Int) := by omega
      obtain ⟨b, o, rfl, hat⟩ := pairs_at HAT.out hlt
      have HAX := Lib.hid (fun u (hu : Below W1.heap.size W1 u) => at2 (hat.below hu))
      obtain ⟨k0, k1⟩ := HAX.out _ L1.out.below
      obtain ⟨r1, r2, r3, r4, r5, r6, r7, r8⟩ := RD.out W1 q v j hlt
      rw [← SS.out j hlt] at r1 r2 r3 r4 r5 r6 r7 r8
      generalize l.getD j (0, 0) = a at *
      obtain ⟨xi, xx⟩ := a
      have R1 := Lib.hid r1
      have R2 := Lib.hid r2
      have R3 := Lib.hid r3
      have R4 := Lib.hid r4
      have R5 := Lib.hid r5
      have R6 := Lib.hid r6
      have R7 := Lib.hid r7
      have R8 := Lib.hid r8
      clear r1 r2 r3 r4 r5 r6 r7 r8 hat SS RD RL
      simp only at *
      generalize hS2 : RS (j + 1) = s' at *
      have HS2 := Lib.hid hS2
      clear hS2
      generalize RS j = s at *
      have g2 : (View.live s' now != View.live s' now) = false := by simp
      have g3 : (View.next s' now != View.next s' now) = false := by simp
      generalize View.live s' now = lv at *
      generalize View.next s' now = nv at *
      go_wp2
      have LD := Lib.hid (L1.out.on HP.out (Below.refl _ _).drew)
      go_region_held3 (fun u => u.cell? ⟨b, o + j * 2, none⟩ = some (.int .i64 xi) ∧ u.cell? ⟨b, o + j * 2 + 1, none⟩ = some (.int .i64 xx)) (first | assumption | exact ⟨k0, k1⟩) (first
        | (go_at_call 8; (with_reducible refine (R1.out _ LD.out).mono ?_); rintro e u2 ⟨rfl, h2⟩; have L2 := Lib.hid h2; have y2 := HAX.out _ h2.below; clear h2 R1))
      go_wp2
      clear k0 k1
      have L3 := Lib.hid (L2.out.on HP.out (Below.refl _ _).drew)
      obtain ⟨k0, k1⟩ := y2
      go_region_held3 (fun u => u.cell? ⟨b, o + j * 2, none⟩ = some (.int .i64 xi) ∧ u.cell? ⟨b, o + j * 2 + 1, none⟩ = some (.int .i64 xx)) (first | assumption | exact ⟨k0, k1⟩) (first
        | (go_at_call 9; (with_reducible refine (R2.out _ L3.out).mono ?_); rintro e u4 ⟨rfl, h2⟩; have L4 := Lib.hid h2; have y4 := HAX.out _ h2.below; clear h2 R2))
      go_wp2
      clear k0 k1 y4 L1 LD L2 L3 HAX HAT
      obtain ⟨pm, cm, km, hm⟩ := L4.out.cell
      have HM := Lib.hid hm
      have L5 := Lib.hid (L4.out.on HP.out (Below.refl _ _).drew)
      clear hm
      go_region_held3 (fun u => u.cell? ⟨v, 2, none⟩ = some (.slice pm s'.l.length cm)) (first | assumption | exact km) (first
        | (go_at_call 11; (with_reducible refine (R3.out _ L5.out).mono ?_); rintro e u6 ⟨p6, c6, rfl, hp, h2, hb⟩; have L6 := Lib.hid h2; have P6 := Lib.hid hp; have Q6 := Lib.hid (HM.out.below (undrewV hb)); have y6 := cell_on km (undrewV hb); clear h2 hp hb R3)
        | (go_at_call 10; (with_reducible refine (R4.out _ _ _ _ _ L6.out P6.out Q6.out).mono ?_); rintro e u7 ⟨rfl, h2, hb⟩; have L7 := Lib.hid h2; have y7 := cell_on y6 hb; clear h2 hb R4))
      clear L4 L5 L6 HM P6 Q6 y6 y7 km
      go_wp2_with (first
        | (go_at_call 12; (with_reducible refine (R5.out _ L7.out).mono ?_); rintro e u9 ⟨rfl, h2⟩; have L9 := Lib.hid h2; clear h2 R5)
        | (go_at_call 13; (with_reducible refine (R6.out _ L9.out).mono ?_); rintro e u10 ⟨rfl, h2⟩; have L10 := Lib.hid h2; clear h2 R6)
        | (go_at_call 14; (with_reducible refine (R7.out _ L10.out).mono ?_); rintro e u11 ⟨rfl, h2⟩; have L11 := Lib.hid h2; clear h2 R7)
        | (go_at_call 15; (with_reducible refine (R8.out _ L11.out).mono ?_); rintro e u12 ⟨rfl, h2⟩; have L12 := Lib.hid h2; clear h2 R8))
      go_roundw
      case rel => exact ⟨j + 1, by omega, by go_num, by rw [HS2.out]; exact L12⟩
      case measure => simp only [intOf]; omega
    · have hlt' : ¬ (j : Int) < (l.length : Int) := by omega
      have B1 := Lib.hid (B0.out.trans (L1.out.below.mono B0.out.size))
      have d0 := fun u => alive_way HP.out u
      have d1 := HP.out.nhear 0 1
      have d2 := HP.out.nlive 1
      have d3 := HP.out.nnext 1
      have d4 := HP.out.nheard
      clear L1 RD SS HP HAT RL
      go_wp2_with (first
        | (go_at_call 8; (with_reducible refine (d1 _).mono ?_); rintro e u2 ⟨rfl, hb⟩; have B2 := Lib.hid (B1.out.trans (hb.mono B1.out.size)); clear hb d1)
        | (go_at_call 5; (with_reducible refine (d0 _).mono ?_); rintro e u3 ⟨rfl, hb⟩; have B3 := Lib.hid (B2.out.trans (hb.mono B2.out.size)); clear hb d0)
        | (go_at_call 12; (with_reducible refine (d2 _).mono ?_); rintro e u4 ⟨rfl, hb⟩; have B4 := Lib.hid (B3.out.trans (hb.mono B3.out.size)); clear hb d2)
        | (go_at_call 14; (with_reducible refine (d3 _).mono ?_); rintro e u5 ⟨rfl, hb⟩; have B5 := Lib.hid (B4.out.trans (hb.mono B4.out.size)); clear hb d3)
        | (go_at_call 11; (with_reducible refine (d4 _).mono ?_); rintro e u6 ⟨p6, c6, rfl, hb⟩; have B6 := Lib.hid (B5.out.trans (hb.mono B5.out.size)); clear hb d4))
      go_ret
      exact ⟨rfl, B6.out⟩
set_option maxRecDepth 100000 in
set_option maxHeartbeats 4000000 in
theorem plays_bad {PW : Pw} (P : Way16 PW) (W : World) (n node span at' : Int) (hk : okNew n node = false) (nn : Num n) (nd : Num node) (p : Option Addr) (c : Nat) (l : List (Int × Int)) (hl : l.length ≤ 100) (now : Int) :
    Calls Try.prog 3 #[.agg #[.int .i64 n, .int .i64 node, .int .i64 span, .int .i64 at'], .slice p l.length c, .int .i64 now] W fun e w' => e = .returned (.bool true) ∧ Below W.heap.size W w' := by
  have c0 := fun u => P.bad n node span at' u hk nn nd
  have c1 := fun u => rnew_bad n node span at' hk u
  have hl' : ¬ (100 : Int) < (l.length : Int) := by omega
  have B0 := Lib.hid (lay W (.cells #[.int .i64 n, .int .i64 node, .int .i64 span, .int .i64 at'] 22))
  have hz := heap_alloc_new W (.cells #[.int .i64 n, .int .i64 node, .int .i64 span, .int .i64 at'] 22)
  have t0 : (W.alloc (.cells #[.int .i64 n, .int .i64 node, .int .i64 span, .int .i64 at'] 22)).cell? ⟨W.heap.size, 0, none⟩ = some (.int .i64 n) := by rw [cell_of_row _ _ 0 _ _ (0, 0) hz]; rfl
  have t1 : (W.alloc (.cells #[.int .i64 n, .int .i64 node, .int .i64 span, .int .i64 at'] 22)).cell? ⟨W.heap.size, 1, none⟩ = some (.int .i64 node) := by rw [cell_of_row _ _ 1 _ _ (0, 0) hz]; rfl
  have t2 : (W.alloc (.cells #[.int .i64 n, .int .i64 node, .int .i64 span, .int .i64 at'] 22)).cell? ⟨W.heap.size, 2, none⟩ = some (.int .i64 span) := by rw [cell_of_row _ _ 2 _ _ (0, 0) hz]; rfl
  have t3 : (W.alloc (.cells #[.int .i64 n, .int .i64 node, .int .i64 span, .int .i64 at'] 22)).cell? ⟨W.heap.size, 3, none⟩ = some (.int .i64 at') := by rw [cell_of_row _ _ 3 _ _ (0, 0) hz]; rfl
  have d0 := fun u => alive_way P u
  have d1 := P.nhear 0 1
  have d2 := P.nlive 1
  have d3 := P.nnext 1
  have d4 := P.nheard
  clear hz P hk
  go_enter Try.func3, Try.ntmps3
  go_wp2_with (first
    | (go_at_call 6; (with_reducible refine (c0 _).mono ?_); rintro e u0 ⟨rfl, hb⟩; have y0 := cell_on t0 hb; have y1 := cell_on t1 hb; have y2 := cell_on t2 hb; have y3 := cell_on t3 hb; have C0 := Lib.hid (B0.out.trans (hb.mono B0.out.size)); clear hb c0 t0 t1 t2 t3)
    | (go_at_call 7; (with_reducible refine (c1 _).mono ?_); rintro e u1 ⟨rfl, hb⟩; have B1 := Lib.hid (C0.out.trans (hb.mono C0.out.size)); clear hb c1 y0 y1 y2 y3 C0))
  go_loopw [11] (fun i wr => i = .int .i64 0 ∧ Hid (Below W.heap.size W wr)) (fun _ _ => 0)
  case atStart => exact ⟨rfl, B1⟩
  case round =>
    obtain ⟨rfl, HW⟩ := hrel
    clear B1
    by_cases hlt : (0 : Int) < (l.length : Int)
    all_goals
      go_wp2_with (first
        | (go_at_call 8; (with_reducible refine (d1 _).mono ?_); rintro e u2 ⟨rfl, hb⟩; have B2 := Lib.hid (HW.out.trans (hb.mono HW.out.size)); clear hb d1)
        | (go_at_call 5; (with_reducible refine (d0 _).mono ?_); rintro e u3 ⟨rfl, hb⟩; have B3 := Lib.hid (B2.out.trans (hb.mono B2.out.size)); clear hb d0)
        | (go_at_call 12; (with_reducible refine (d2 _).mono ?_); rintro e u4 ⟨rfl, hb⟩; have B4 := Lib.hid (B3.out.trans (hb.mono B3.out.size)); clear hb d2)
        | (go_at_call 14; (with_reducible refine (d3 _).mono ?_); rintro e u5 ⟨rfl, hb⟩; have B5 := Lib.hid (B4.out.trans (hb.mono B4.out.size)); clear hb d3)
        | (go_at_call 11; (with_reducible refine (d4 _).mono ?_); rintro e u6 ⟨p6, c6, rfl, hb⟩; have B6 := Lib.hid (B5.out.trans (hb.mono B5.out.size)); clear hb d4))
      go_ret
      exact ⟨rfl, B6.out⟩
theorem plays_any {PW : Pw} (P : Way16 PW) (W : World) (n node span at' : Int) (nn : Num n) (nd : Num node) (ns : Num span) (na : Num at') (p : Option Addr) (c : Nat) (l : List (Int × Int)) (ha : Lies pairs W p l) (hn : ∀ x ∈ l, Num x.1 ∧ Num x.2) (now : Int) (nw : Num now) :
    Calls Try.prog 3 #[.agg #[.int .i64 n, .int .i64 node, .int .i64 span, .int .i64 at'], .slice p l.length c, .int .i64 now] W fun e w' => e = .returned (.bool true) ∧ Below W.heap.size W w' := by
  by_cases hl : l.length ≤ 100
  · cases hk : okNew n node
    · exact plays_bad P W n node span at' hk nn nd p c l hl now
    · exact plays_ok P W n node span at' hk ns na p c l ha hn hl now nw
  · exact plays_many P W n node span at' p c l.length now (by omega)
end Go.Proofs.Ytgbenfdffhcjiaa.View
