/-
  LeaseNever returns true, whatever the program's wallet is, if its calls do what is asked of them.
-/
import Derived.Test.YtlipepbemofihaaLeasePlaysWay
namespace Go.Proofs.Ytlipepbemofihaa.Lease
open Go.RowKit
open _root_.Go.Proofs.Ytlipepbemofihaa.Codec (lt_of_heap frozen_of heap_set below_new own_below)

theorem place_one (y : Lz) : place [y] y.key = 0 := by simp [place, Ledger.spot]
theorem the_one (y : Lz) : the [y] y.key = y := by unfold the; rw [place_one]; rfl
theorem put_one {x : Lz} (h : ¬ wrong x) : put [] x = ([x], 0) := by
  unfold put
  rw [if_neg h, if_neg (by simp [place, Ledger.spot])]
  rfl
theorem put_wrong {x : Lz} (h : wrong x) : put [] x = ([], 1) := by
  unfold put
  rw [if_pos h]
theorem spend_not {y : Lz} {c now : Int} (h : c < 1 ∨ y.til ≤ now ∨ y.amount - y.spent < c) : spend [y] y.key c now = ([y], 0, false) := by
  unfold spend
  refine if_pos ?_
  by_cases h1 : c < 1
  · exact .inl h1
  · refine .inr ?_
    unfold left
    rw [place_one, the_one]
    split
    · omega
    · omega
theorem spend_yes {y : Lz} {c now : Int} (h : ¬ (c < 1 ∨ y.til ≤ now ∨ y.amount - y.spent < c)) : spend [y] y.key c now = ([more y c], y.gen, true) := by
  unfold spend
  have h2 : ¬ (c < 1 ∨ left [y] y.key now < c) := by
    unfold left
    rw [place_one, the_one, if_neg (by omega)]
    omega
  rw [if_neg h2, place_one, the_one]
  rfl
theorem close_one (y : Lz) : close [y] y.key y.gen = ([], y.spent) := by
  unfold close
  rw [place_one, the_one]
  simp

set_option maxRecDepth 100000 in
set_option maxHeartbeats 8000000 in
theorem never_few {PW : Pw} (P : Way11 PW) (W : World) (x : Lz) (nx : Nums x) (p : Option Addr) (c : Nat) (l : List Ac) (ha : ActsAt W p l) (hn : ∀ a ∈ l, AcNum a) (hl : l.length ≤ 80) :
    Calls Try.prog 4 #[val x, .slice p l.length c] W fun e w' => e = .returned (.bool true) ∧ Below W.heap.size W w' := by
  have hl' : ¬ (80 : Int) < (l.length : Int) := by omega
  have hb := (Below.refl W.heap.size W).alloc (Nat.le_refl _) (.cells #[.int .i64 x.key, .int .i64 x.gen, .int .i64 x.amount, .int .i64 x.spent, .int .i64 x.til] 33)
  have K := heap_alloc_new W (.cells #[.int .i64 x.key, .int .i64 x.gen, .int .i64 x.amount, .int .i64 x.spent, .int .i64 x.til] 33)
  have c0 := P.new (W.alloc (.cells #[.int .i64 x.key, .int .i64 x.gen, .int .i64 x.amount, .int .i64 x.spent, .int .i64 x.til] 33))
  have HB := Lib.hid hb
  have HK := Lib.hid K
  have BX := Lib.hid (fun u (hu : Below (W.alloc (.cells #[.int .i64 x.key, .int .i64 x.gen, .int .i64 x.amount, .int .i64 x.spent, .int .i64 x.til] 33)).heap.size (W.alloc (.cells #[.int .i64 x.key, .int .i64 x.gen, .int .i64 x.amount, .int .i64 x.spent, .int .i64 x.til] 33)) u) => box5 ((hu.block _ (lt_of_heap HK.out)).trans HK.out))
  have HP := Lib.hid P
  have c1 := fun q u (h : PW (W.alloc (.cells #[.int .i64 x.key, .int .i64 x.gen, .int .i64 x.amount, .int .i64 x.spent, .int .i64 x.til] 33)).heap.size u q []) (hb : (W.alloc (.cells #[.int .i64 x.key, .int .i64 x.gen, .int .i64 x.amount, .int .i64 x.spent, .int .i64 x.til] 33)).heap.size ≤ u.heap.size) => P.put h hb good_nil (by simp) x nx
  have ca := fun u => alive_way P u
  by_cases hw : wrong x
  · have e := put_wrong hw
    rw [e] at c1
    obtain ⟨xk, xg, xa, xs, xt⟩ := x
    simp only [val] at *
    obtain ⟨b0, b1, b2, b3, b4⟩ := box5 K
    clear hb K e hw nx P ha hn
    go_enter Try.func4, Try.ntmps4
    go_wp2_with (first
      | (go_at_call 6; (with_reducible refine c0.mono ?_); rintro e u0 ⟨q, rfl, h0, hb⟩; have B0 := Lib.hid hb; have H0 := Lib.hid h0; clear b0 b1 b2 b3 b4; obtain ⟨b0, b1, b2, b3, b4⟩ := BX.out _ hb; clear h0 hb c0)
      | (go_at_call 15; (with_reducible refine (c1 _ _ H0.out B0.out.size).mono ?_); rintro e u1 ⟨rfl, hm⟩; have B1 := Lib.hid (B0.out.trans hm.below); clear hm c1 b0 b1 b2 b3 b4)
      | (go_at_call 5; (with_reducible refine (ca _).mono ?_); rintro e u2 ⟨rfl, hb⟩; have B2 := Lib.hid (B1.out.trans (hb.mono B1.out.size)); clear hb ca))
    go_ret
    exact ⟨rfl, HB.out.trans (B2.out.mono HB.out.size)⟩
  · have e := put_one hw
    rw [e] at c1
    have hx0 : x.spent = 0 ∧ 1 ≤ x.amount := by unfold wrong at hw; omega
    have nx2 := nx
    have HG : Hid (∀ A : Int, 0 ≤ A → A ≤ x.amount → Good [(⟨x.key, x.gen, x.amount, A, x.til⟩ : Lz)]) := fun A h0 h1 => ⟨List.pairwise_singleton _ _, fun y hy => by
      obtain rfl := List.mem_singleton.1 hy
      exact ⟨h0, h1, nx2.1, nx2.2.1, nx2.2.2.1, by unfold Nums Num at *; simp only; omega, nx2.2.2.2.2⟩⟩
    have HC := Lib.hid (fun q u (A : Int) (h0 : 0 ≤ A) (h1 : A ≤ x.amount) (h : PW (W.alloc (.cells #[.int .i64 x.key, .int .i64 x.gen, .int .i64 x.amount, .int .i64 x.spent, .int .i64 x.til] 33)).heap.size u q [⟨x.key, x.gen, x.amount, A, x.til⟩]) (hb : (W.alloc (.cells #[.int .i64 x.key, .int .i64 x.gen, .int .i64 x.amount, .int .i64 x.spent, .int .i64 x.til] 33)).heap.size ≤ u.heap.size) => P.close h hb (HG.out A h0 h1) (by simp) x.key x.gen nx.1 nx.2.1)
    have HS := Lib.hid (fun q u (A : Int) (h0 : 0 ≤ A) (h1 : A ≤ x.amount) (h : PW (W.alloc (.cells #[.int .i64 x.key, .int .i64 x.gen, .int .i64 x.amount, .int .i64 x.spent, .int .i64 x.til] 33)).heap.size u q [⟨x.key, x.gen, x.amount, A, x.til⟩]) (hb : (W.alloc (.cells #[.int .i64 x.key, .int .i64 x.gen, .int .i64 x.amount, .int .i64 x.spent, .int .i64 x.til] 33)).heap.size ≤ u.heap.size) (k n : Int) (nk : Num k) (nn : Num n) => P.spend h hb (HG.out A h0 h1) (by simp) x.key k n nx.1 nk nn)
    have HCO := Lib.hid (fun A => close_one ⟨x.key, x.gen, x.amount, A, x.til⟩)
    have HSN := Lib.hid (fun A k n => spend_not (y := ⟨x.key, x.gen, x.amount, A, x.til⟩) (c := k) (now := n))
    have HSY := Lib.hid (fun A k n => spend_yes (y := ⟨x.key, x.gen, x.amount, A, x.til⟩) (c := k) (now := n))
    have HAC := Lib.hid ha
    have HN := Lib.hid hn
    obtain ⟨xk, xg, xa, xs, xt⟩ := x
    unfold Nums Num at nx2
    simp only [val] at *
    obtain ⟨rfl, hx1⟩ := hx0
    obtain ⟨b0, b1, b2, b3, b4⟩ := box5 K
    clear hb K e hw nx P ha hn HG
    go_enter Try.func4, Try.ntmps4
    go_wp2_with (first
      | (go_at_call 6; (with_reducible refine c0.mono ?_); rintro e u0 ⟨q, rfl, h0, hb⟩; have B0 := Lib.hid hb; have H0 := Lib.hid h0; clear b0 b1 b2 b3 b4; obtain ⟨b0, b1, b2, b3, b4⟩ := BX.out _ hb; clear h0 hb c0)
      | (go_at_call 15; (with_reducible refine (c1 _ _ H0.out B0.out.size).mono ?_); rintro e u1 ⟨rfl, hm⟩; have B1 := Lib.hid (B0.out.trans hm.below); have H1 := Lib.hid hm.pw; clear hm c1 b0 b1 b2 b3 b4))
    go_loopw [6, 7] (fun al i wr => ∃ (j : Nat) (A : Int), j ≤ l.length ∧ i = .int .i64 (j : Int) ∧ al = .int .i64 A ∧ 0 ≤ A ∧ A ≤ xa ∧ Hid (PW (W.alloc (.cells #[.int .i64 xk, .int .i64 xg, .int .i64 xa, .int .i64 0, .int .i64 xt] 33)).heap.size wr q [⟨xk, xg, xa, A, xt⟩]) ∧ Hid (Below (W.alloc (.cells #[.int .i64 xk, .int .i64 xg, .int .i64 xa, .int .i64 0, .int .i64 xt] 33)).heap.size (W.alloc (.cells #[.int .i64 xk, .int .i64 xg, .int .i64 xa, .int .i64 0, .int .i64 xt] 33)) wr)) (fun _ i _ => l.length - (intOf i).toNat)
    case atStart => exact ⟨0, 0, by omega, rfl, rfl, by omega, by omega, H1, B1⟩
    case round =>
      obtain ⟨j, A, hj, rfl, rfl, hA0, hA1, H2, B2⟩ := hrel
      clear H0 B0 H1 B1
      by_cases hlt : j < l.length
      · have hlt' : (j : Int) < (l.length : Int) := by omega
        obtain ⟨b, o, rfl, hat⟩ := acts_at (by have := HAC.out; exact this) hlt
        have hm : l.getD j za ∈ l := by simp [List.getD, hlt]
        obtain ⟨-, ⟨-, -, nk, -, -⟩, nn⟩ := HN.out _ hm
        have HS2 := Lib.hid (HS.out)
        have HAT := Lib.hid (fun u (hu : Below W.heap.size W u) => hat.below hu)
        generalize l.getD j za = a at *
        obtain ⟨kind, ⟨yk, yg, ya, ys, yt⟩, yn⟩ := a
        simp only at nk nn
        have B3 := Lib.hid (B2.out.drew)
        have H3 := Lib.hid (HP.out.below H2.out (Below.refl _ _).drew)
        obtain ⟨b0, b1, b2, b3, b4⟩ := BX.out _ B3.out
        obtain ⟨-, -, -, k3, -, -, k6⟩ := HAT.out _ (HB.out.trans (B3.out.mono HB.out.size))
        simp only at k3 k6
        have cs := HS.out q _ A hA0 hA1 H3.out B3.out.size ya yn nk nn
        clear hat hm HS
        by_cases hc : ya < 1 ∨ xt ≤ yn ∨ xa - A < ya
        · rw [HSN.out A ya yn hc] at cs
          go_wp2
          go_region_held3 (fun u => u.cell? ⟨W.heap.size, 0, none⟩ = some (.int .i64 xk) ∧ u.cell? ⟨b, o + j * 7 + 3, none⟩ = some (.int .i64 ya) ∧ u.cell? ⟨b, o + j * 7 + 6, none⟩ = some (.int .i64 yn)) (first | assumption | exact ⟨b0, k3, k6⟩) (first
            | (go_at_call 14; (with_reducible refine cs.mono ?_); rintro e u4 ⟨rfl, hm⟩; have B4 := Lib.hid (B3.out.trans hm.below); have H4 := Lib.hid hm.pw; obtain ⟨d0, d1, d2, d3, d4⟩ := BX.out _ B4.out; obtain ⟨-, -, -, e3, -, -, e6⟩ := HAT.out _ (HB.out.trans (B4.out.mono HB.out.size)); simp only at e3 e6; have S4 := And.intro d0 (And.intro e3 e6); clear hm cs))
          go_wp2
          go_roundw
          case rel => exact ⟨j + 1, A, by omega, by go_num, rfl, hA0, hA1, H4, B4⟩
          case measure => simp only [intOf]; omega
        · rw [HSY.out A ya yn hc] at cs
          have hw1 : IntKind.i64.wrap (A + ya) = A + ya := IntWalk.i64_in _ (by omega)
          have q1 : ¬ ya < 1 := by omega
          have q2 : ¬ xt ≤ yn := by omega
          have q3 : ¬ xa < A + ya := by omega
          have q4 : ¬ A + ya < 0 := by omega
          go_wp2
          go_region_held3 (fun u => u.cell? ⟨W.heap.size, 0, none⟩ = some (.int .i64 xk) ∧ u.cell? ⟨b, o + j * 7 + 3, none⟩ = some (.int .i64 ya) ∧ u.cell? ⟨b, o + j * 7 + 6, none⟩ = some (.int .i64 yn)) (first | assumption | exact ⟨b0, k3, k6⟩) (first
            | (go_at_call 14; (with_reducible refine cs.mono ?_); rintro e u4 ⟨rfl, hm⟩; have B4 := Lib.hid (B3.out.trans hm.below); have H4 := Lib.hid hm.pw; obtain ⟨d0, d1, d2, d3, d4⟩ := BX.out _ B4.out; obtain ⟨-, -, -, e3, -, -, e6⟩ := HAT.out _ (HB.out.trans (B4.out.mono HB.out.size)); simp only at e3 e6; have S4 := And.intro d0 (And.intro e3 e6); clear hm cs))
          clear b0 b1 b2 b3 b4 k3 k6 S4
          go_wp2
          go_quiet (fail)
          go_wp2
          go_roundw
          case rel => exact ⟨j + 1, A + ya, by omega, by go_num, rfl, by omega, by omega, Lib.hid (HP.out.below H4.out (below_drewN _ _)), Lib.hid (B4.out.trans ((below_drewN _ _).mono B4.out.size))⟩
          case measure => simp only [intOf]; omega
      · have hlt' : ¬ (j : Int) < (l.length : Int) := by omega
        have HCC := Lib.hid (fun u (h : PW (W.alloc (.cells #[.int .i64 xk, .int .i64 xg, .int .i64 xa, .int .i64 0, .int .i64 xt] 33)).heap.size u q [⟨xk, xg, xa, A, xt⟩]) (hb : (W.alloc (.cells #[.int .i64 xk, .int .i64 xg, .int .i64 xa, .int .i64 0, .int .i64 xt] 33)).heap.size ≤ u.heap.size) => HC.out q u A hA0 hA1 h hb)
        have hco := HCO.out A
        rw [hco] at HCC
        clear HC HS HSN HSY hco
        go_wp2_with (first
          | (go_at_call 5; (with_reducible refine (ca _).mono ?_); rintro e u4 ⟨rfl, hb⟩; have B4 := Lib.hid (B2.out.trans (hb.mono B2.out.size)); have H4 := Lib.hid (HP.out.below H2.out hb); obtain ⟨b0, b1, b2, b3, b4⟩ := BX.out _ B4.out; clear hb ca)
          | (go_at_call 17; (with_reducible refine (HCC.out _ H4.out B4.out.size).mono ?_); rintro e u5 ⟨rfl, hm⟩; have B5 := Lib.hid (B4.out.trans hm.below); clear hm HCC))
        go_ret
        exact ⟨rfl, HB.out.trans (B5.out.mono HB.out.size)⟩

set_option maxRecDepth 100000 in
/-- Both laws, of more acts than are gone through. -/
theorem plays_many {PW : Pw} (P : Way11 PW) (W : World) (p : Option Addr) (c n : Nat) (hl : (80 : Int) < (n : Int)) (key now : Int) :
    Calls Try.prog 3 #[.slice p n c, .int .i64 key, .int .i64 now] W fun e w' => e = .returned (.bool true) ∧ Below W.heap.size W w' := by
  have ca := fun u => alive_way P u
  clear P
  go_enter Try.func3, Try.ntmps3
  go_wp2_with (go_at_call 5; (with_reducible refine (ca _).mono ?_); rintro e u2 ⟨rfl, hb⟩; have B2 := Lib.hid hb; clear hb ca)
  go_ret
  exact ⟨rfl, B2.out⟩
set_option maxRecDepth 100000 in
theorem never_many {PW : Pw} (P : Way11 PW) (W : World) (p : Option Addr) (c n : Nat) (hl : (80 : Int) < (n : Int)) (x : Lz) :
    Calls Try.prog 4 #[val x, .slice p n c] W fun e w' => e = .returned (.bool true) ∧ Below W.heap.size W w' := by
  have ca := fun u => alive_way P u
  have HB := Lib.hid ((Below.refl W.heap.size W).alloc (Nat.le_refl _) (.cells #[.int .i64 x.key, .int .i64 x.gen, .int .i64 x.amount, .int .i64 x.spent, .int .i64 x.til] 33))
  simp only [val]
  clear P
  go_enter Try.func4, Try.ntmps4
  go_wp2_with (go_at_call 5; (with_reducible refine (ca _).mono ?_); rintro e u2 ⟨rfl, hb⟩; have B2 := Lib.hid (HB.out.trans (hb.mono HB.out.size)); clear hb ca)
  go_ret
  exact ⟨rfl, B2.out⟩
end Go.Proofs.Ytlipepbemofihaa.Lease
