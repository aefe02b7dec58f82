/-
  ElectAlone returns true of any size, any moves, whatever the program's elections are, if their calls do what is asked of them; what a move does is handed in.
-/
import Derived.Test.YthehbphpchmdiaaElectBorn
import Derived.Deep.QuietTactic
import Derived.Deep.RegionLaw
namespace Go.Proofs.Ythehbphpchmdiaa.Elect
open Go.RowKit
open _root_.Go.Proofs.Ythehbphpchmdiaa.Codec (lt_of_heap frozen_of heap_set below_new)
open _root_.Go.Proofs.Ythehbphpchmdiaa.Kit (Enc Lies Own At Laid cell_on lt_heap take_snoc below_drewN ints)

/-- A move: its kind, who, what. -/
structure Mv where
  kind : Int
  who : Int
  what : Int
def MvNum (m : Mv) : Prop := (0 ≤ m.kind ∧ m.kind ≤ 255) ∧ (0 ≤ m.who ∧ m.who ≤ 255) ∧ (0 ≤ m.what ∧ m.what ≤ 65535)
def movesE : Enc Mv := ⟨3, fun m => [.int .u8 m.kind, .int .u8 m.who, .int .u16 m.what], ⟨0, 0, 0⟩, by decide, fun _ => rfl, fun x u hu => by simp at hu; rcases hu with rfl | rfl | rfl <;> rfl⟩
theorem mv_at {w : World} {p : Option Addr} {l : List Mv} (h : Lies movesE w p l) {j : Nat} (hj : j < l.length) : ∃ b o, p = some ⟨b, o, none⟩ ∧ At movesE w b (o + j * 3) (l.getD j ⟨0, 0, 0⟩) := Kit.lies_at h hj
theorem mv_three {w : World} {b o : Nat} {a : Mv} (h : At movesE w b o a) : w.cell? ⟨b, o, none⟩ = some (.int .u8 a.kind) ∧ w.cell? ⟨b, o + 1, none⟩ = some (.int .u8 a.who) ∧ w.cell? ⟨b, o + 2, none⟩ = some (.int .u16 a.what) := ⟨h 0 _ rfl, h 1 _ rfl, h 2 _ rfl⟩
/-- What a move does. -/
def Moves (PW : Pw) : Prop := ∀ {W u : World} {hb : Nat} {qs : List Nat} {H : Hl}, Hst PW W hb qs H [] u → Inv H → H.frames.length ≤ 1000 → H.won.length ≤ 1000 → ∀ kd who what : Int, 0 ≤ kd ∧ kd ≤ 255 → 0 ≤ who ∧ who ≤ 255 → 0 ≤ what ∧ what ≤ 65535 →
    Calls Try.prog 15 #[.pointer (some ⟨hb, 0, none⟩), .agg #[.int .u8 kd, .int .u8 who, .int .u16 what]] u fun y w' => y = .returned (.bool true) ∧ ∃ qs' H', Inv H' ∧ H'.n = H.n ∧ H'.frames.length ≤ H.frames.length + 1 ∧ H'.won.length ≤ H.won.length + 1 ∧ Hst PW W hb qs' H' [] w'
theorem infoP : (Try.prog.info? 25).map (fun i => (i.zero, i.size, i.bytes)) = some (some (.pointer none), 1, 8) := by kernel_rfl
set_option maxRecDepth 100000 in
theorem alone_many {PW : Pw} (P : Way17 PW) (W : World) (size : Int) (p : Option Addr) (c m : Nat) (hl : (120 : Int) < (m : Int)) :
    Calls Try.prog 4 #[.int .u8 size, .slice p m c] W fun e w' => e = .returned (.bool true) ∧ Below W.heap.size W w' := by
  have ca := fun u => alive_way P u
  clear P
  go_enter Try.func4, Try.ntmps4
  go_wp2_with (go_at_call 5; (with_reducible refine (ca _).mono ?_); rintro e u2 ⟨rfl, hb⟩; have B2 := Lib.hid hb; clear hb ca)
  go_ret
  exact ⟨rfl, B2.out⟩
set_option maxRecDepth 100000 in
set_option maxHeartbeats 8000000 in
theorem alone_few {PW : Pw} (P : Way17 PW) (MV : Moves PW) (W : World) (size : Int) (s0 : 0 ≤ size ∧ size ≤ 255) (p : Option Addr) (c : Nat) (l : List Mv) (ha : Lies movesE W p l) (hn : ∀ a ∈ l, MvNum a) (hl : l.length ≤ 120) :
    Calls Try.prog 4 #[.int .u8 size, .slice p l.length c] W fun e w' => e = .returned (.bool true) ∧ Below W.heap.size W w' := by
  obtain ⟨s0, s1⟩ := s0
  obtain ⟨n, hn0⟩ : ∃ n : Nat, size % 9 + 1 = (n : Int) := ⟨(size % 9 + 1).toNat, by omega⟩
  have hn9 : 1 ≤ n ∧ n ≤ 9 := by omega
  have hl' : ¬ (120 : Int) < (l.length : Int) := by omega
  have HZ := Lib.hid (hpt_none (PW := PW) W n)
  have HP := Lib.hid P
  have HM := Lib.hid (fun u hb qs H => MV (W := W) (u := u) (hb := hb) (qs := qs) (H := H))
  have HAT := Lib.hid ha
  have HN := Lib.hid (fun (j : Nat) (hj : j < l.length) => hn (l.getD j ⟨0, 0, 0⟩) (by simp [List.getD, hj]))
  have HC := Lib.hid (fun k (hk : k < n) u => P.new (n : Int) (k : Int) 0 0 u (born_ok hn9 hk))
  have HI := Lib.hid (inv_start hn9)
  clear P MV ha hn
  go_enter Try.func4, Try.ntmps4
  go_wp2
  go_loopw [6] (fun i wr => ∃ (j : Nat) (qs : List Nat), qs.length = j ∧ j ≤ n ∧ i = .int .i64 (j : Int) ∧ Hid (Hpt PW W W.heap.size n qs wr)) (fun i _ => n - (intOf i).toNat)
  case atStart => exact ⟨0, [], rfl, by omega, rfl, HZ⟩
  case round =>
    obtain ⟨j, qs, hqj, hj, rfl, L1⟩ := hrel
    clear HZ
    obtain ⟨p1, c1, ⟨x0, x1, xf⟩, push⟩ := L1.out.push HP.out
    by_cases hlt : j < n
    · have hlt' : (j : Int) < (n : Int) := by omega
      have hc := HC.out j hlt
      have hbl := L1.out.lt
      have hC := L1.out.below.size
      have PU := Lib.hid push
      clear push HC HI HN HAT HM
      rw [hqj] at x1 PU
      go_wp2_with (first
        | (go_at_call 6; (with_reducible refine (hc _).mono ?_); rintro y u1 ⟨q, rfl, hpw, hb1⟩; have B1 := Lib.hid hb1; have y0 := cell_on x0 hb1; have y1 := cell_on x1 hb1; have yf : ∀ o, u1.frozen? ⟨W.heap.size, o, none⟩ = false := (fun o => (hb1.frozen (p := ⟨W.heap.size, o, none⟩) hbl).trans (xf o)); have PW1 := Lib.hid hpw; have SZ := Lib.hid (fun o => Nat.le_trans (Nat.le_trans hC hb1.size) (lay u1 o).size); clear hpw hb1 hc x0 x1 xf)
        | (at_builtin; refine push_own laidP rfl _ _ rfl W.heap.size (.slice p1 j c1) rfl qs j hqj (PU.out _ _ _ B1.out (lay _ _) PW1.out).1 (SZ.out _) u1.heap.size q rfl (heap_alloc_new _ _) (by omega) ?_; intro p3 c3 w3 R3 S3 T3 B3; have hd := (PU.out _ _ _ B1.out (lay _ _) PW1.out).2 p3 c3 w3 R3.out S3 T3 B3; obtain ⟨⟨z0, z1, zf⟩, hd⟩ := hd; have D := Lib.hid hd; clear hd R3 S3 T3 B3 PU B1 PW1 SZ y0 y1 yf))
      go_roundw
      case rel => exact ⟨j + 1, qs ++ [q], by simp [hqj], by omega, by go_num, D⟩
      case measure => simp only [intOf]; omega
    · have hlt' : ¬ (j : Int) < (n : Int) := by omega
      obtain rfl : j = n := by omega
      have L2 := Lib.hid (L1.out.done hqj)
      have HA := Lib.hid (fun u => alive_way HP.out u)
      clear push HC L1
      rename World => W9
      go_wp2
      go_loopw [9] (fun i wr => ∃ (t : Nat) (qs' : List Nat) (H' : Hl), t ≤ l.length ∧ i = .int .i64 (t : Int) ∧ Hid (Inv H' ∧ H'.n = j ∧ H'.frames.length ≤ t ∧ H'.won.length ≤ t) ∧ Hid (Hst PW W W.heap.size qs' H' [] wr)) (fun i _ => l.length - (intOf i).toNat)
      case atStart => exact ⟨0, qs, _, by omega, rfl, Lib.hid ⟨HI.out, rfl, Nat.le_refl _, Nat.le_refl _⟩, L2⟩
      case round =>
        obtain ⟨t, qs', H', ht, rfl, HI2, L3⟩ := hrel
        clear HI L2
        obtain ⟨i1, i2, i3, i4⟩ := HI2.out
        by_cases hlt2 : t < l.length
        · have hlt3 : (t : Int) < (l.length : Int) := by omega
          obtain ⟨b, o, rfl, hat⟩ := mv_at (HAT.out.below L3.out.below) hlt2
          obtain ⟨k0, k1, k2⟩ := mv_three hat
          obtain ⟨m1, m2, m3⟩ := HN.out t hlt2
          have MVC := Lib.hid (HM.out _ _ _ _ L3.out i1 (by omega) (by omega) _ _ _ m1 m2 m3)
          generalize l.getD t ⟨0, 0, 0⟩ = a at *
          obtain ⟨kd, who, what⟩ := a
          simp only at k0 k1 k2 MVC
          clear hat HN HAT HM HI2 L3 m1 m2 m3
          go_wp2_with (first
            | (go_at_call 15; (with_reducible refine MVC.out.mono ?_); rintro y u2 ⟨rfl, qs2, H2, e1, e2, e3, e4, e5⟩; have D := Lib.hid (And.intro (show Inv H2 ∧ H2.n = j ∧ H2.frames.length ≤ t + 1 ∧ H2.won.length ≤ t + 1 from ⟨e1, by omega, by omega, by omega⟩) e5); clear MVC e1 e2 e3 e4 e5))
          go_roundw
          case rel => exact ⟨t + 1, qs2, H2, by omega, by go_num, Lib.hid D.out.1, Lib.hid D.out.2⟩
          case measure => simp only [intOf]; omega
        · have hlt3 : ¬ (t : Int) < (l.length : Int) := by omega
          obtain rfl : t = l.length := by omega
          have BB := Lib.hid L3.out.below
          clear HI2 L3 HN HAT HM i1 i2 i3 i4
          go_wp2_with (go_at_call 5; (with_reducible refine (HA.out _).mono ?_); rintro e u2 ⟨rfl, hb⟩; have B2 := Lib.hid (BB.out.trans (hb.mono BB.out.size)); clear hb HA)
          go_ret
          exact ⟨rfl, B2.out⟩
theorem alone_any {PW : Pw} (P : Way17 PW) (MV : Moves PW) (W : World) (size : Int) (s0 : 0 ≤ size ∧ size ≤ 255) (p : Option Addr) (c : Nat) (l : List Mv) (ha : Lies movesE W p l) (hn : ∀ a ∈ l, MvNum a) :
    Calls Try.prog 4 #[.int .u8 size, .slice p l.length c] W fun e w' => e = .returned (.bool true) ∧ Below W.heap.size W w' := by
  by_cases hl : l.length ≤ 120
  · exact alone_few P MV W size s0 p c l ha hn hl
  · exact alone_many P W size p c l.length (by omega)
end Go.Proofs.Ythehbphpchmdiaa.Elect
