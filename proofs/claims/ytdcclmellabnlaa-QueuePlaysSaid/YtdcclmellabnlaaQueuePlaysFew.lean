/-
  QueuePlays returns true, whatever the program's queue is, of at most 80 acts and of more.
-/
import Derived.Test.YtdcclmellabnlaaQueuePlaysWay
import Derived.Deep.RegionHeld3
namespace Go.Proofs.Ytdcclmellabnlaa.Queue
open Go.RowKit
open _root_.Go.Proofs.Ytdcclmellabnlaa.Codec (lt_of_heap frozen_of heap_set below_new own_below)
open _root_.Go.Proofs.Ytdcclmellabnlaa.Kit (Enc Lies Own At Kept Laid Off cell_on lt_heap take_snoc below_drewN box5 ints)

theorem held_more {P : Program} {md : Region.Mode} {ops : Array Oper} {Q : Exit → Act → World → Prop} {S S' : World → Prop} : ∀ (fuel : Nat) (listed : Array Bool) (a : Act) (w : World), wpAnyH P md ops Q (fun u => S u ∧ S' u) fuel listed a w → wpAnyH P md ops Q S fuel listed a w
  | 0, _, _, _, h => h
  | fuel + 1, _, _, _, h => ⟨h.1, fun i hi => wpOp_mono (fun a' w' h' => ⟨h'.1.1, held_more fuel _ a' w' h'.2⟩) (h.2 i hi)⟩
set_option maxRecDepth 100000 in
set_option maxHeartbeats 4000000 in
theorem plays_wrong {PW : Pw} (P : Way12 PW) (W : World) (p : Option Addr) (c n : Nat) (hl : ¬ (80 : Int) < (n : Int)) (room key : Int) (hr : room < 0 ∨ 16 < room) :
    Calls Try.prog 3 #[.int .i64 room, .slice p n c, .int .i64 key] W fun e w' => e = .returned (.bool true) ∧ Below W.heap.size W w' := by
  have ca := fun u => alive_way P u
  have c0 := P.newno room W hr
  have cr := fun u => rright_any room u
  rw [show decide (0 ≤ room ∧ room ≤ 16) = false by simp; omega] at cr
  clear P hr
  go_enter Try.func3, Try.ntmps3
  go_wp2_with (first
    | (go_at_call 6; (with_reducible refine c0.mono ?_); rintro e u0 ⟨rfl, hb⟩; have B0 := Lib.hid hb; clear hb c0)
    | (go_at_call 7; (with_reducible refine (cr _).mono ?_); rintro e u1 ⟨rfl, rfl⟩)
    | (go_at_call 5; (with_reducible refine (ca _).mono ?_); rintro e u2 ⟨rfl, hb⟩; have B2 := Lib.hid (B0.out.trans (hb.mono B0.out.size)); clear hb ca))
  go_ret
  exact ⟨rfl, B2.out⟩
set_option maxRecDepth 100000 in
set_option maxHeartbeats 8000000 in
theorem plays_few {PW : Pw} (P : Way12 PW) (W : World) (p : Option Addr) (c : Nat) (l : List Ac) (ha : ActsAt W p l) (hn : ∀ a ∈ l, AcNum a) (hl : l.length ≤ 80) (room key : Int) (h0 : 0 ≤ room) (h1 : room ≤ 16) (nk : Num key) :
    Calls Try.prog 3 #[.int .i64 room, .slice p l.length c, .int .i64 key] W fun e w' => e = .returned (.bool true) ∧ Below W.heap.size W w' := by
  have c0 := P.new room W h0 h1
  have cr := fun u => rright_any room u
  rw [show decide (0 ≤ room ∧ room ≤ 16) = true by simp; omega] at cr
  have RD := Lib.hid (fun (q v j : Nat) (hj : j < l.length) => round_any (W := W) (q := q) (v := v) P h1 (st_good h0 l hn j (by omega)) (hn (l.getD j za) (by simp [List.getD, hj])) nk)
  have S0 := Lib.hid (st_zero room l)
  have SS := Lib.hid (fun (j : Nat) (hj : j < l.length) => st_succ room l hj)
  have HA := Lib.hid ha
  have HP := Lib.hid P
  have hl' : ¬ (80 : Int) < (l.length : Int) := by omega
  generalize st room l = ST at *
  clear ha hn P
  go_enter Try.func3, Try.ntmps3
  go_wp2_with (first
    | (go_at_call 6; (with_reducible refine c0.mono ?_); rintro e u0 ⟨q, rfl, h0, hb⟩; have L0 := Lib.hid (show Qst PW (fun _ => False) W q u0.heap.size room (ST 0) (ST 0) (u0.alloc (.cells #[.int .i64 room, .slice none 0 0] 32)) from by (rw [S0.out]; exact ⟨HP.out.sub (HP.out.below h0 (lay u0 _)) (fun _ h => h.elim), ⟨hb.size, _, heap_alloc_new _ _, Own.none _ _ _ _⟩, hb.trans ((lay u0 _).mono hb.size)⟩)); clear h0 hb c0)
    | (go_at_call 7; (with_reducible refine (cr _).mono ?_); rintro e u1 ⟨rfl, rfl⟩))
  go_loopw [11] (fun i wr => ∃ j : Nat, j ≤ l.length ∧ i = .int .i64 (j : Int) ∧ Hid (Qst PW (fun _ => False) W q u0.heap.size room (ST j) (ST j) wr)) (fun i _ => l.length - (intOf i).toNat)
  case atStart => exact ⟨0, by omega, rfl, L0⟩
  case round =>
    obtain ⟨j, hj, rfl, L1⟩ := hrel
    clear L0
    by_cases hlt : j < l.length
    · have hlt' : (j : Int) < (l.length : Int) := by omega
      obtain ⟨b, o, rfl, hat⟩ := acts_at (by have := HA.out; exact this) hlt
      have HAT := Lib.hid (fun u (hu : Below W.heap.size W u) => hat.below hu)
      obtain ⟨k0, k1, k2, k3, k4, k5⟩ := HAT.out _ L1.out.below
      obtain ⟨r1, r2, r3, r4, r5, r6, r7, r8, r9, r10, r11, r12, r13, r14⟩ := RD.out q u0.heap.size j hlt
      have HS := Lib.hid (SS.out j hlt)
      generalize ST j = s at *
      generalize l.getD j za = a at *
      generalize actOf room s a = T at *
      generalize keys T = KT at *
      generalize sum T key = SM at *
      generalize of T key = OF at *
      generalize hhd : head OF = hd at *
      obtain ⟨⟨fi, fk, fc, fs, ft⟩, ok⟩ := hd
      have R1 := Lib.hid r1
      have R2 := Lib.hid r2
      have R3 := Lib.hid r3
      have R4 := Lib.hid r4
      have R5 := Lib.hid r5
      have R6 := Lib.hid r6
      have R7 := Lib.hid r7
      have R8 := Lib.hid r8
      have R9 := Lib.hid r9
      have R10 := Lib.hid r10
      have R11 := Lib.hid r11
      have R12 := Lib.hid r12
      have R13 := Lib.hid r13
      have R14 := Lib.hid r14
      clear r1 r2 r3 r4 r5 r6 r7 r8 r9 r10 r11 r12 r13 r14 hat SS S0 RD HAT HA
      obtain ⟨kind, ⟨xi, xk, xc, xs, xt⟩⟩ := a
      simp only [actVal, val] at *
      go_wp2_with (first
        | (go_at_call 8; (with_reducible refine (R1.out _ L1.out).mono ?_); rintro e u2 ⟨rfl, h2⟩; have L2 := Lib.hid h2; clear k0 k1 k2 k3 k4 k5; clear h2 R1))
      have L4 := Lib.hid (L2.out.on HP.out (Below.refl _ _).drew)
      obtain ⟨pm, cm, g4, hm, -, -⟩ := L4.out.qu.cell
      have M4 := Lib.hid hm
      clear hm
      go_region_held3 (fun u => u.cell? ⟨u0.heap.size, 1, none⟩ = some (.slice pm T.length cm)) (first | assumption) (first
        | (go_at_call 11; (with_reducible refine (R2.out _ L4.out).mono ?_); rintro e u5 ⟨p5, c5, rfl, hp, hb⟩; have g5 := cell_on g4 hb; have P5 := Lib.hid hp; have M5 := Lib.hid (M4.out.below hb); have L5 := Lib.hid (L4.out.on HP.out hb); clear hb hp R2)
        | (go_at_call 10; (with_reducible refine (R3.out _ _ _ P5.out).mono ?_); rintro e u6 ⟨p6, c6, rfl, hp, hb⟩; have g6 := cell_on g5 hb; have P6 := Lib.hid hp; have M6 := Lib.hid (M5.out.below hb); have L6 := Lib.hid (L5.out.on HP.out hb); clear hb hp R3)
        | (go_at_call 9; (with_reducible refine (R4.out _ _ _ _ _ P6.out M6.out).mono ?_); rintro e u7 ⟨rfl, hb⟩; have g7 := cell_on g6 hb; have L7 := Lib.hid (L6.out.on HP.out hb); clear hb R4))
      clear g4 g5 g6 g7 P5 P6 M4 M5 M6 L4 L5 L6 L1 L2
      have R5b := R5
      have R7b := R7
      go_wp2_with (first
        | (go_at_call 12; (with_reducible refine (R5.out _ L7.out).mono ?_); rintro e u8 ⟨p8, c8, rfl, hp, hb⟩; have P8 := Lib.hid hp; have L8 := Lib.hid (L7.out.on HP.out hb); clear hb hp R5)
        | (go_at_call 10; (with_reducible refine (R7.out _ _ _ P8.out).mono ?_); rintro e u9 ⟨p9, c9, rfl, hp, hb⟩; have P9 := Lib.hid hp; have L9 := Lib.hid (L8.out.on HP.out hb); clear hb hp R7)
        | (go_at_call 13; (with_reducible refine (R6.out _ L9.out).mono ?_); rintro e u10 ⟨p10, c10, rfl, hp, hb⟩; have P10 := Lib.hid hp; have Q10 := Lib.hid (P9.out.below hb); have L10 := Lib.hid (L9.out.on HP.out hb); clear hb hp R6)
        | (go_at_call 9; (with_reducible refine (R8.out _ _ _ _ _ Q10.out P10.out).mono ?_); rintro e u11 ⟨rfl, hb⟩; have L11 := Lib.hid (L10.out.on HP.out hb); clear hb R8)
        | (go_at_call 15; (with_reducible refine (R9.out _ L11.out).mono ?_); rintro e u12 ⟨p12, c12, rfl, hp, hb⟩; have P12 := Lib.hid hp; have L12 := Lib.hid (L11.out.on HP.out hb); clear hb hp R9)
        | (go_at_call 16; (with_reducible refine (R10.out _ L12.out).mono ?_); rintro e u13 ⟨p13, c13, rfl, hp, hb⟩; have P13 := Lib.hid hp; have Q13 := Lib.hid (P12.out.below hb); have L13 := Lib.hid (L12.out.on HP.out hb); clear hb hp R10)
        | (go_at_call 14; (with_reducible refine (R11.out _ _ _ _ _ Q13.out P13.out).mono ?_); rintro e u14 ⟨rfl, hb⟩; have L14 := Lib.hid (L13.out.on HP.out hb); clear hb R11)
        | (go_at_call 17; (with_reducible refine (R12.out _ L14.out).mono ?_); rintro e u15 ⟨rfl, hb⟩; have L15 := Lib.hid (L14.out.on HP.out hb); have L16 := Lib.hid (L15.out.on HP.out (lay u15 (.cells #[.int .i64 fi, .int .i64 fk, .int .i64 fc, .int .i64 fs, .int .i64 ft] 35))); have K16 := Lib.hid (heap_alloc_new u15 (.cells #[.int .i64 fi, .int .i64 fk, .int .i64 fc, .int .i64 fs, .int .i64 ft] 35)); clear hb R12)
        | (go_at_call 12; (with_reducible refine (R5b.out _ L16.out).mono ?_); rintro e u17 ⟨p17, c17, rfl, hp, hb⟩; have P17 := Lib.hid hp; have L17 := Lib.hid (L16.out.on HP.out hb); have K17 := Lib.hid ((hb.block _ (lt_heap K16.out)).trans K16.out); clear hb hp R5b)
        | (go_at_call 10; (with_reducible refine (R7b.out _ _ _ P17.out).mono ?_); rintro e u18 ⟨p18, c18, rfl, hp, hb⟩; have P18 := Lib.hid hp; have L18 := Lib.hid (L17.out.on HP.out hb); have K18 := Lib.hid ((hb.block _ (lt_heap K17.out)).trans K17.out); clear hb hp R7b))
      clear L7 P8 L8 P9 L9 P10 Q10 L10 L11 P12 L12 P13 Q13 L13 L14 L15 L16 K16 P17 L17 K17
      have L18d := Lib.hid (L18.out.on HP.out (Below.refl _ _).drew)
      have g9 : (SM != SM) = false := by simp
      have hcase : (OF = [] ∧ ok = false) ∨ ok = true ∧ 0 < OF.length ∧ OF.getD 0 z = ⟨fi, fk, fc, fs, ft⟩ := by
        cases OF with
        | nil =>
          simp only [head, Prod.mk.injEq] at hhd
          exact .inl ⟨rfl, hhd.2.symm⟩
        | cons y t =>
          simp only [head, Prod.mk.injEq] at hhd
          exact .inr ⟨hhd.2.symm, by simp, by simpa using hhd.1⟩
      clear hhd
      rcases hcase with ⟨rfl, rfl⟩ | ⟨rfl, hO, hy⟩
      · simp only [List.length_nil]
        clear L18 P18 K18
        refine wp_region_held_drew (S := fun _ => True) (by kernel_rfl) trivial (fun hHeld => ?_)
        refine wpAnyH_take (i := 0) (oi := { dst := some 99, op := Op.move (Operand.tmp 12), type := 4, pos := "law.go:78", after := #[], guard := none }) (v := ?_) rfl (by kernel_rfl) (by kernel_rfl) (by kernel_rfl) (fun _ _ _ h => h) (Or.inl ⟨by rfl, ?_⟩) (by assumption) ?_
        rotate_left
        · (intro w hSw; (try dsimp only at hSw); go_simp; try with_reducible rfl)
        simp only [Act.put, List.setIfInBounds_toArray, List.set_cons_zero, List.set_cons_succ]
        refine wpAnyH_take (i := 1) (oi := { dst := some 100, op := Op.unOp UnOp.not 4 (Operand.tmp 99), type := 4, pos := "law.go:78", after := #[{ on := 0, ground := Ground.data }], guard := none }) (v := ?_) rfl (by kernel_rfl) (by kernel_rfl) (by kernel_rfl) (fun _ _ _ h => h) (Or.inl ⟨by rfl, ?_⟩) (by assumption) ?_
        rotate_left
        · (intro w hSw; (try dsimp only at hSw); go_simp; try with_reducible rfl)
        simp only [Act.put, List.setIfInBounds_toArray, List.set_cons_zero, List.set_cons_succ]
        refine wpAnyH_take (i := 2) (oi := { dst := some 101, op := Op.move (Operand.tmp 100), type := 4, pos := "law.go:78", after := #[{ on := 1, ground := Ground.data }], guard := none }) (v := ?_) rfl (by kernel_rfl) (by kernel_rfl) (by kernel_rfl) (fun _ _ _ h => h) (Or.inl ⟨by rfl, ?_⟩) (by assumption) ?_
        rotate_left
        · (intro w hSw; (try dsimp only at hSw); go_simp; try with_reducible rfl)
        simp only [Act.put, List.setIfInBounds_toArray, List.set_cons_zero, List.set_cons_succ]
        refine wpAnyH_take (i := 3) (oi := { dst := some 102, op := Op.move (Operand.tmp 13), type := 4, pos := "law.go:78", after := #[{ on := 2, ground := Ground.guard }], guard := some (2, false) }) (v := ?_) rfl (by kernel_rfl) (by kernel_rfl) (by kernel_rfl) (fun _ _ _ h => h) (Or.inl ⟨by rfl, ?_⟩) (by assumption) ?_
        rotate_left
        · (intro w hSw; (try dsimp only at hSw); go_simp; try with_reducible rfl)
        simp only [Act.put, List.setIfInBounds_toArray, List.set_cons_zero, List.set_cons_succ]
        refine wpAnyH_take (i := 4) (oi := { dst := some 103, op := Op.unOp UnOp.not 4 (Operand.tmp 102), type := 4, pos := "law.go:78", after := #[{ on := 3, ground := Ground.data }, { on := 2, ground := Ground.guard }], guard := some (2, false) }) (v := ?_) rfl (by kernel_rfl) (by kernel_rfl) (by kernel_rfl) (fun _ _ _ h => h) (Or.inl ⟨by rfl, ?_⟩) (by assumption) ?_
        rotate_left
        · (intro w hSw; (try dsimp only at hSw); go_simp; try with_reducible rfl)
        simp only [Act.put, List.setIfInBounds_toArray, List.set_cons_zero, List.set_cons_succ]
        refine wpAnyH_take (i := 5) (oi := { dst := some 104, op := Op.pick (Operand.tmp 101) (Operand.const (Value.bool true)) (Operand.tmp 103), type := 4, pos := "law.go:78", after := #[{ on := 2, ground := Ground.data }, { on := 4, ground := Ground.data }], guard := none }) (v := ?_) rfl (by kernel_rfl) (by kernel_rfl) (by kernel_rfl) (fun _ _ _ h => h) (Or.inl ⟨by rfl, ?_⟩) (by assumption) ?_
        rotate_left
        · (intro w hSw; (try dsimp only at hSw); go_simp; try with_reducible rfl)
        simp only [Act.put, List.setIfInBounds_toArray, List.set_cons_zero, List.set_cons_succ]
        refine wpAnyH_take (i := 6) (oi := { dst := some 105, op := Op.move (Operand.tmp 104), type := 4, pos := "law.go:78", after := #[{ on := 5, ground := Ground.data }, { on := 2, ground := Ground.chain }], guard := none }) (v := ?_) rfl (by kernel_rfl) (by kernel_rfl) (by kernel_rfl) (fun _ _ _ h => h) (Or.inl ⟨by rfl, ?_⟩) (by assumption) ?_
        rotate_left
        · (intro w hSw; (try dsimp only at hSw); go_simp; try with_reducible rfl)
        simp only [Act.put, List.setIfInBounds_toArray, List.set_cons_zero, List.set_cons_succ]
        refine wpAnyH_take (i := 7) (oi := { dst := some 106, op := Op.move (Operand.tmp 14), type := 4, pos := "law.go:78", after := #[{ on := 6, ground := Ground.guard }], guard := some (6, false) }) (v := ?_) rfl (by kernel_rfl) (by kernel_rfl) (by kernel_rfl) (fun _ _ _ h => h) (Or.inl ⟨by rfl, ?_⟩) (by assumption) ?_
        rotate_left
        · (intro w hSw; (try dsimp only at hSw); go_simp; try with_reducible rfl)
        simp only [Act.put, List.setIfInBounds_toArray, List.set_cons_zero, List.set_cons_succ]
        refine wpAnyH_take (i := 8) (oi := { dst := some 107, op := Op.unOp UnOp.not 4 (Operand.tmp 106), type := 4, pos := "law.go:78", after := #[{ on := 7, ground := Ground.data }, { on := 6, ground := Ground.guard }], guard := some (6, false) }) (v := ?_) rfl (by kernel_rfl) (by kernel_rfl) (by kernel_rfl) (fun _ _ _ h => h) (Or.inl ⟨by rfl, ?_⟩) (by assumption) ?_
        rotate_left
        · (intro w hSw; (try dsimp only at hSw); go_simp; try with_reducible rfl)
        simp only [Act.put, List.setIfInBounds_toArray, List.set_cons_zero, List.set_cons_succ]
        refine wpAnyH_take (i := 9) (oi := { dst := some 108, op := Op.pick (Operand.tmp 105) (Operand.const (Value.bool true)) (Operand.tmp 107), type := 4, pos := "law.go:78", after := #[{ on := 6, ground := Ground.data }, { on := 8, ground := Ground.data }], guard := none }) (v := ?_) rfl (by kernel_rfl) (by kernel_rfl) (by kernel_rfl) (fun _ _ _ h => h) (Or.inl ⟨by rfl, ?_⟩) (by assumption) ?_
        rotate_left
        · (intro w hSw; (try dsimp only at hSw); go_simp; try with_reducible rfl)
        simp only [Act.put, List.setIfInBounds_toArray, List.set_cons_zero, List.set_cons_succ]
        refine wpAnyH_take (i := 10) (oi := { dst := some 109, op := Op.move (Operand.tmp 108), type := 4, pos := "law.go:78", after := #[{ on := 9, ground := Ground.data }, { on := 6, ground := Ground.chain }], guard := none }) (v := ?_) rfl (by kernel_rfl) (by kernel_rfl) (by kernel_rfl) (fun _ _ _ h => h) (Or.inl ⟨by rfl, ?_⟩) (by assumption) ?_
        rotate_left
        · (intro w hSw; (try dsimp only at hSw); go_simp; try with_reducible rfl)
        simp only [Act.put, List.setIfInBounds_toArray, List.set_cons_zero, List.set_cons_succ]
        refine wpAnyH_take (i := 11) (oi := { dst := some 110, op := Op.move (Operand.tmp 15), type := 4, pos := "law.go:78", after := #[{ on := 10, ground := Ground.guard }], guard := some (10, false) }) (v := ?_) rfl (by kernel_rfl) (by kernel_rfl) (by kernel_rfl) (fun _ _ _ h => h) (Or.inl ⟨by rfl, ?_⟩) (by assumption) ?_
        rotate_left
        · (intro w hSw; (try dsimp only at hSw); go_simp; try with_reducible rfl)
        simp only [Act.put, List.setIfInBounds_toArray, List.set_cons_zero, List.set_cons_succ]
        refine wpAnyH_take (i := 12) (oi := { dst := some 111, op := Op.unOp UnOp.not 4 (Operand.tmp 110), type := 4, pos := "law.go:78", after := #[{ on := 11, ground := Ground.data }, { on := 10, ground := Ground.guard }], guard := some (10, false) }) (v := ?_) rfl (by kernel_rfl) (by kernel_rfl) (by kernel_rfl) (fun _ _ _ h => h) (Or.inl ⟨by rfl, ?_⟩) (by assumption) ?_
        rotate_left
        · (intro w hSw; (try dsimp only at hSw); go_simp; try with_reducible rfl)
        simp only [Act.put, List.setIfInBounds_toArray, List.set_cons_zero, List.set_cons_succ]
        refine wpAnyH_take (i := 13) (oi := { dst := some 112, op := Op.pick (Operand.tmp 109) (Operand.const (Value.bool true)) (Operand.tmp 111), type := 4, pos := "law.go:78", after := #[{ on := 10, ground := Ground.data }, { on := 12, ground := Ground.data }], guard := none }) (v := ?_) rfl (by kernel_rfl) (by kernel_rfl) (by kernel_rfl) (fun _ _ _ h => h) (Or.inl ⟨by rfl, ?_⟩) (by assumption) ?_
        rotate_left
        · (intro w hSw; (try dsimp only at hSw); go_simp; try with_reducible rfl)
        simp only [Act.put, List.setIfInBounds_toArray, List.set_cons_zero, List.set_cons_succ]
        refine wpAnyH_take (i := 14) (oi := { dst := some 113, op := Op.move (Operand.tmp 112), type := 4, pos := "law.go:78", after := #[{ on := 13, ground := Ground.data }, { on := 10, ground := Ground.chain }], guard := none }) (v := ?_) rfl (by kernel_rfl) (by kernel_rfl) (by kernel_rfl) (fun _ _ _ h => h) (Or.inl ⟨by rfl, ?_⟩) (by assumption) ?_
        rotate_left
        · (intro w hSw; (try dsimp only at hSw); go_simp; try with_reducible rfl)
        simp only [Act.put, List.setIfInBounds_toArray, List.set_cons_zero, List.set_cons_succ]
        refine wpAnyH_take (i := 15) (oi := { dst := some 114, op := Op.move (Operand.tmp 17), type := 4, pos := "law.go:78", after := #[{ on := 14, ground := Ground.guard }], guard := some (14, false) }) (v := ?_) rfl (by kernel_rfl) (by kernel_rfl) (by kernel_rfl) (fun _ _ _ h => h) (Or.inl ⟨by rfl, ?_⟩) (by assumption) ?_
        rotate_left
        · (intro w hSw; (try dsimp only at hSw); go_simp; try with_reducible rfl)
        simp only [Act.put, List.setIfInBounds_toArray, List.set_cons_zero, List.set_cons_succ]
        refine wpAnyH_take (i := 16) (oi := { dst := some 115, op := Op.move (Operand.tmp 18), type := 30, pos := "law.go:78", after := #[{ on := 14, ground := Ground.guard }], guard := some (14, false) }) (v := ?_) rfl (by kernel_rfl) (by kernel_rfl) (by kernel_rfl) (fun _ _ _ h => h) (Or.inl ⟨by rfl, ?_⟩) (by assumption) ?_
        rotate_left
        · (intro w hSw; (try dsimp only at hSw); go_simp; try with_reducible rfl)
        simp only [Act.put, List.setIfInBounds_toArray, List.set_cons_zero, List.set_cons_succ]
        refine wpAnyH_take (i := 17) (oi := { dst := some 116, op := Op.call { callee := Callee.builtin Builtin.len, args := #[Operand.tmp 115], argTypes := #[30] }, type := 3, pos := "law.go:78", after := #[{ on := 16, ground := Ground.data }, { on := 14, ground := Ground.guard }], guard := some (14, false) }) (v := ?_) rfl (by kernel_rfl) (by kernel_rfl) (by kernel_rfl) (fun _ _ _ h => h) (Or.inl ⟨by rfl, ?_⟩) (by assumption) ?_
        rotate_left
        · (intro w hSw; (try dsimp only at hSw); go_simp; try with_reducible rfl)
        simp only [Act.put, List.setIfInBounds_toArray, List.set_cons_zero, List.set_cons_succ]
        refine wpAnyH_take (i := 18) (oi := { dst := some 117, op := Op.binOp BinOp.gtr 3 (Operand.tmp 116) (Operand.const (Value.int IntKind.i64 0)) 3, type := 4, pos := "law.go:78", after := #[{ on := 17, ground := Ground.data }, { on := 14, ground := Ground.guard }], guard := some (14, false) }) (v := ?_) rfl (by kernel_rfl) (by kernel_rfl) (by kernel_rfl) (fun _ _ _ h => h) (Or.inl ⟨by rfl, ?_⟩) (by assumption) ?_
        rotate_left
        · (intro w hSw; (try dsimp only at hSw); go_simp; try with_reducible rfl)
        simp only [Act.put, List.setIfInBounds_toArray, List.set_cons_zero, List.set_cons_succ]
        refine wpAnyH_take (i := 19) (oi := { dst := some 118, op := Op.binOp BinOp.neq 4 (Operand.tmp 114) (Operand.tmp 117) 4, type := 4, pos := "law.go:78", after := #[{ on := 15, ground := Ground.data }, { on := 18, ground := Ground.data }, { on := 14, ground := Ground.guard }], guard := some (14, false) }) (v := ?_) rfl (by kernel_rfl) (by kernel_rfl) (by kernel_rfl) (fun _ _ _ h => h) (Or.inl ⟨by rfl, ?_⟩) (by assumption) ?_
        rotate_left
        · (intro w hSw; (try dsimp only at hSw); go_simp; try with_reducible rfl)
        simp only [Act.put, List.setIfInBounds_toArray, List.set_cons_zero, List.set_cons_succ]
        refine wpAnyH_take (i := 20) (oi := { dst := some 119, op := Op.pick (Operand.tmp 113) (Operand.const (Value.bool true)) (Operand.tmp 118), type := 4, pos := "law.go:78", after := #[{ on := 14, ground := Ground.data }, { on := 19, ground := Ground.data }], guard := none }) (v := ?_) rfl (by kernel_rfl) (by kernel_rfl) (by kernel_rfl) (fun _ _ _ h => h) (Or.inl ⟨by rfl, ?_⟩) (by assumption) ?_
        rotate_left
        · (intro w hSw; (try dsimp only at hSw); go_simp; try with_reducible rfl)
        simp only [Act.put, List.setIfInBounds_toArray, List.set_cons_zero, List.set_cons_succ]
        refine wpAnyH_take (i := 21) (oi := { dst := some 120, op := Op.move (Operand.tmp 119), type := 4, pos := "law.go:78", after := #[{ on := 20, ground := Ground.data }, { on := 14, ground := Ground.chain }], guard := none }) (v := ?_) rfl (by kernel_rfl) (by kernel_rfl) (by kernel_rfl) (fun _ _ _ h => h) (Or.inl ⟨by rfl, ?_⟩) (by assumption) ?_
        rotate_left
        · (intro w hSw; (try dsimp only at hSw); go_simp; try with_reducible rfl)
        simp only [Act.put, List.setIfInBounds_toArray, List.set_cons_zero, List.set_cons_succ]
        refine wpAnyH_take (i := 22) (oi := { dst := some 121, op := Op.move (Operand.tmp 17), type := 4, pos := "law.go:78", after := #[{ on := 21, ground := Ground.guard }], guard := some (21, false) }) (v := ?_) rfl (by kernel_rfl) (by kernel_rfl) (by kernel_rfl) (fun _ _ _ h => h) (Or.inl ⟨by rfl, ?_⟩) (by assumption) ?_
        rotate_left
        · (intro w hSw; (try dsimp only at hSw); go_simp; try with_reducible rfl)
        simp only [Act.put, List.setIfInBounds_toArray, List.set_cons_zero, List.set_cons_succ]
        refine wpAnyH_take (i := 23) (oi := { dst := some 122, op := Op.move (Operand.tmp 121), type := 4, pos := "law.go:78", after := #[{ on := 22, ground := Ground.data }, { on := 21, ground := Ground.chain }, { on := 21, ground := Ground.guard }], guard := some (21, false) }) (v := ?_) rfl (by kernel_rfl) (by kernel_rfl) (by kernel_rfl) (fun _ _ _ h => h) (Or.inl ⟨by rfl, ?_⟩) (by assumption) ?_
        rotate_left
        · (intro w hSw; (try dsimp only at hSw); go_simp; try with_reducible rfl)
        simp only [Act.put, List.setIfInBounds_toArray, List.set_cons_zero, List.set_cons_succ]
        refine wpAnyH_take (i := 24) (oi := { dst := some 123, op := Op.load 35 (Operand.tmp 16), type := 35, pos := "law.go:78", after := #[{ on := 23, ground := Ground.guard }], guard := some (23, true) }) (v := undef) rfl (by kernel_rfl) (by kernel_rfl) (by kernel_rfl) (fun _ _ _ h => h) (Or.inr ⟨by rfl, rfl⟩) (by assumption) ?_
        simp only [Act.put, List.setIfInBounds_toArray, List.set_cons_zero, List.set_cons_succ]
        refine wpAnyH_take (i := 25) (oi := { dst := some 124, op := Op.buildSlice 40 1 #[(0, Operand.tmp 123)], type := 40, pos := "law.go:78", after := #[{ on := 24, ground := Ground.data }, { on := 23, ground := Ground.guard }], guard := some (23, true) }) (v := undef) rfl (by kernel_rfl) (by kernel_rfl) (by kernel_rfl) (fun _ _ _ h => h) (Or.inr ⟨by rfl, rfl⟩) (by assumption) ?_
        simp only [Act.put, List.setIfInBounds_toArray, List.set_cons_zero, List.set_cons_succ]
        refine wpAnyH_take (i := 26) (oi := { dst := some 125, op := Op.call { callee := Callee.value (Operand.func 10), args := #[Operand.tmp 124], argTypes := #[40] }, type := 30, pos := "law.go:78", after := #[{ on := 25, ground := Ground.data }, { on := 23, ground := Ground.chain }, { on := 23, ground := Ground.guard }], guard := some (23, true) }) (v := undef) rfl (by kernel_rfl) (by kernel_rfl) (by kernel_rfl) (fun _ _ _ h => h) (Or.inr ⟨by rfl, rfl⟩) (by assumption) ?_
        simp only [Act.put, List.setIfInBounds_toArray, List.set_cons_zero, List.set_cons_succ]
        refine wpAnyH_take (i := 27) (oi := { dst := some 126, op := Op.indexAddr 30 (Operand.tmp 125) (Operand.const (Value.int IntKind.i64 0)), type := 0, pos := "law.go:78", after := #[{ on := 26, ground := Ground.data }, { on := 23, ground := Ground.guard }], guard := some (23, true) }) (v := undef) rfl (by kernel_rfl) (by kernel_rfl) (by kernel_rfl) (fun _ _ _ h => h) (Or.inr ⟨by rfl, rfl⟩) (by assumption) ?_
        simp only [Act.put, List.setIfInBounds_toArray, List.set_cons_zero, List.set_cons_succ]
        refine wpAnyH_take (i := 28) (oi := { dst := some 127, op := Op.load 49 (Operand.tmp 126), type := 49, pos := "law.go:78", after := #[{ on := 27, ground := Ground.data }, { on := 23, ground := Ground.guard }], guard := some (23, true) }) (v := undef) rfl (by kernel_rfl) (by kernel_rfl) (by kernel_rfl) (fun _ _ _ h => h) (Or.inr ⟨by rfl, rfl⟩) (by assumption) ?_
        simp only [Act.put, List.setIfInBounds_toArray, List.set_cons_zero, List.set_cons_succ]
        refine wpAnyH_take (i := 29) (oi := { dst := some 128, op := Op.move (Operand.tmp 18), type := 30, pos := "law.go:78", after := #[{ on := 23, ground := Ground.guard }], guard := some (23, true) }) (v := undef) rfl (by kernel_rfl) (by kernel_rfl) (by kernel_rfl) (fun _ _ _ h => h) (Or.inr ⟨by rfl, rfl⟩) (by assumption) ?_
        simp only [Act.put, List.setIfInBounds_toArray, List.set_cons_zero, List.set_cons_succ]
        refine wpAnyH_take (i := 30) (oi := { dst := some 129, op := Op.indexAddr 30 (Operand.tmp 128) (Operand.const (Value.int IntKind.i64 0)), type := 0, pos := "law.go:78", after := #[{ on := 29, ground := Ground.data }, { on := 23, ground := Ground.guard }], guard := some (23, true) }) (v := undef) rfl (by kernel_rfl) (by kernel_rfl) (by kernel_rfl) (fun _ _ _ h => h) (Or.inr ⟨by rfl, rfl⟩) (by assumption) ?_
        simp only [Act.put, List.setIfInBounds_toArray, List.set_cons_zero, List.set_cons_succ]
        refine wpAnyH_take (i := 31) (oi := { dst := some 130, op := Op.load 49 (Operand.tmp 129), type := 49, pos := "law.go:78", after := #[{ on := 30, ground := Ground.data }, { on := 23, ground := Ground.guard }], guard := some (23, true) }) (v := undef) rfl (by kernel_rfl) (by kernel_rfl) (by kernel_rfl) (fun _ _ _ h => h) (Or.inr ⟨by rfl, rfl⟩) (by assumption) ?_
        simp only [Act.put, List.setIfInBounds_toArray, List.set_cons_zero, List.set_cons_succ]
        refine wpAnyH_take (i := 32) (oi := { dst := some 131, op := Op.binOp BinOp.neq 49 (Operand.tmp 127) (Operand.tmp 130) 49, type := 4, pos := "law.go:78", after := #[{ on := 28, ground := Ground.data }, { on := 31, ground := Ground.data }, { on := 23, ground := Ground.guard }], guard := some (23, true) }) (v := undef) rfl (by kernel_rfl) (by kernel_rfl) (by kernel_rfl) (fun _ _ _ h => h) (Or.inr ⟨by rfl, rfl⟩) (by assumption) ?_
        simp only [Act.put, List.setIfInBounds_toArray, List.set_cons_zero, List.set_cons_succ]
        refine wpAnyH_take (i := 33) (oi := { dst := some 132, op := Op.pick (Operand.tmp 122) (Operand.tmp 131) (Operand.const (Value.bool false)), type := 4, pos := "law.go:78", after := #[{ on := 23, ground := Ground.data }, { on := 32, ground := Ground.data }, { on := 21, ground := Ground.guard }], guard := some (21, false) }) (v := ?_) rfl (by kernel_rfl) (by kernel_rfl) (by kernel_rfl) (fun _ _ _ h => h) (Or.inl ⟨by rfl, ?_⟩) (by assumption) ?_
        rotate_left
        · (intro w hSw; (try dsimp only at hSw); go_simp; try with_reducible rfl)
        simp only [Act.put, List.setIfInBounds_toArray, List.set_cons_zero, List.set_cons_succ]
        refine wpAnyH_take (i := 34) (oi := { dst := some 133, op := Op.pick (Operand.tmp 120) (Operand.const (Value.bool true)) (Operand.tmp 132), type := 4, pos := "law.go:78", after := #[{ on := 21, ground := Ground.data }, { on := 33, ground := Ground.data }], guard := none }) (v := ?_) rfl (by kernel_rfl) (by kernel_rfl) (by kernel_rfl) (fun _ _ _ h => h) (Or.inl ⟨by rfl, ?_⟩) (by assumption) ?_
        rotate_left
        · (intro w hSw; (try dsimp only at hSw); go_simp; try with_reducible rfl)
        simp only [Act.put, List.setIfInBounds_toArray, List.set_cons_zero, List.set_cons_succ]
        refine wpAnyH_take (i := 35) (oi := { dst := some 134, op := Op.move (Operand.tmp 133), type := 4, pos := "law.go:78", after := #[{ on := 34, ground := Ground.data }, { on := 26, ground := Ground.chain }], guard := none }) (v := ?_) rfl (by kernel_rfl) (by kernel_rfl) (by kernel_rfl) (fun _ _ _ h => h) (Or.inl ⟨by rfl, ?_⟩) (by assumption) ?_
        rotate_left
        · (intro w hSw; (try dsimp only at hSw); go_simp; try with_reducible rfl)
        simp only [Act.put, List.setIfInBounds_toArray, List.set_cons_zero, List.set_cons_succ]
        refine wpAnyH_take (i := 36) (oi := { dst := some 135, op := Op.move (Operand.tmp 7), type := 24, pos := "law.go:78", after := #[{ on := 35, ground := Ground.guard }], guard := some (35, false) }) (v := ?_) rfl (by kernel_rfl) (by kernel_rfl) (by kernel_rfl) (fun _ _ _ h => h) (Or.inl ⟨by rfl, ?_⟩) (by assumption) ?_
        rotate_left
        · (intro w hSw; (try dsimp only at hSw); go_simp; try with_reducible rfl)
        simp only [Act.put, List.setIfInBounds_toArray, List.set_cons_zero, List.set_cons_succ]
        refine wpAnyH_take (i := 37) (oi := { dst := some 136, op := Op.move (Operand.tmp 2), type := 3, pos := "law.go:78", after := #[{ on := 35, ground := Ground.guard }], guard := some (35, false) }) (v := ?_) rfl (by kernel_rfl) (by kernel_rfl) (by kernel_rfl) (fun _ _ _ h => h) (Or.inl ⟨by rfl, ?_⟩) (by assumption) ?_
        rotate_left
        · (intro w hSw; (try dsimp only at hSw); go_simp; try with_reducible rfl)
        simp only [Act.put, List.setIfInBounds_toArray, List.set_cons_zero, List.set_cons_succ]
        refine wpAnyH_take (i := 39) (oi := { dst := some 138, op := Op.move (Operand.tmp 10), type := 29, pos := "law.go:78", after := #[{ on := 35, ground := Ground.guard }], guard := some (35, false) }) (v := ?_) rfl (by kernel_rfl) (by kernel_rfl) (by kernel_rfl) (fun _ _ _ h => h) (Or.inl ⟨by rfl, ?_⟩) (by assumption) ?_
        rotate_left
        · (intro w hSw; (try dsimp only at hSw); go_simp; try with_reducible rfl)
        simp only [Act.put, List.setIfInBounds_toArray, List.set_cons_zero, List.set_cons_succ]
        refine wpAnyH_take (i := 40) (oi := { dst := some 139, op := Op.move (Operand.tmp 2), type := 3, pos := "law.go:78", after := #[{ on := 35, ground := Ground.guard }], guard := some (35, false) }) (v := ?_) rfl (by kernel_rfl) (by kernel_rfl) (by kernel_rfl) (fun _ _ _ h => h) (Or.inl ⟨by rfl, ?_⟩) (by assumption) ?_
        rotate_left
        · (intro w hSw; (try dsimp only at hSw); go_simp; try with_reducible rfl)
        simp only [Act.put, List.setIfInBounds_toArray, List.set_cons_zero, List.set_cons_succ]
        refine wpAnyH_ready (rs := [38]) (by kernel_rfl) (by simp) ?_
        refine AllReadyH.cons (o := { dst := some 137, op := Op.call { callee := Callee.value (Operand.func 18), args := #[Operand.tmp 135, Operand.tmp 136], argTypes := #[24, 3] }, type := 3, pos := "law.go:78", after := #[{ on := 36, ground := Ground.data }, { on := 37, ground := Ground.data }, { on := 35, ground := Ground.chain }, { on := 35, ground := Ground.guard }], guard := some (35, false) }) rfl (fun K hK => ?_) AllReadyH.nil
        go_simp
        go_at_call 18
        refine (R13.out _ L18d.out).mono ?_
        rintro e u20 ⟨rfl, hb⟩
        have L20 := Lib.hid (L18d.out.on HP.out hb)
        refine hK.out _ _ trivial ?_
        intro hHeld
        clear hK K
        try simp only [Act.put, List.setIfInBounds_toArray, List.set_cons_zero, List.set_cons_succ]
        refine wpAnyH_ready (rs := [41]) (by kernel_rfl) (by simp) ?_
        refine AllReadyH.cons (o := { dst := some 140, op := Op.call { callee := Callee.value (Operand.func 19), args := #[Operand.tmp 138, Operand.tmp 139], argTypes := #[29, 3] }, type := 3, pos := "law.go:78", after := #[{ on := 39, ground := Ground.data }, { on := 40, ground := Ground.data }, { on := 38, ground := Ground.chain }, { on := 35, ground := Ground.guard }], guard := some (35, false) }) rfl (fun K hK => ?_) AllReadyH.nil
        go_simp
        go_at_call 19
        refine (R14.out _ L20.out).mono ?_
        rintro e u21 ⟨rfl, hb2⟩
        have L21 := Lib.hid (L20.out.on HP.out hb2)
        refine hK.out _ _ trivial ?_
        intro hHeld
        clear hK K
        try simp only [Act.put, List.setIfInBounds_toArray, List.set_cons_zero, List.set_cons_succ]
        refine wpAnyH_take (i := 42) (oi := { dst := some 141, op := Op.binOp BinOp.neq 3 (Operand.tmp 137) (Operand.tmp 140) 3, type := 4, pos := "law.go:78", after := #[{ on := 38, ground := Ground.data }, { on := 41, ground := Ground.data }, { on := 35, ground := Ground.guard }], guard := some (35, false) }) (v := ?_) rfl (by kernel_rfl) (by kernel_rfl) (by kernel_rfl) (fun _ _ _ h => h) (Or.inl ⟨by rfl, ?_⟩) (by assumption) ?_
        rotate_left
        · (intro w hSw; (try dsimp only at hSw); go_simp; try with_reducible rfl)
        simp only [Act.put, List.setIfInBounds_toArray, List.set_cons_zero, List.set_cons_succ]
        refine wpAnyH_take (i := 43) (oi := { dst := some 142, op := Op.pick (Operand.tmp 134) (Operand.const (Value.bool true)) (Operand.tmp 141), type := 4, pos := "law.go:78", after := #[{ on := 35, ground := Ground.data }, { on := 42, ground := Ground.data }], guard := none }) (v := ?_) rfl (by kernel_rfl) (by kernel_rfl) (by kernel_rfl) (fun _ _ _ h => h) (Or.inl ⟨by rfl, ?_⟩) (by assumption) ?_
        rotate_left
        · (intro w hSw; (try dsimp only at hSw); go_simp; try with_reducible rfl)
        simp only [Act.put, List.setIfInBounds_toArray, List.set_cons_zero, List.set_cons_succ]
        refine wpAnyH_done (by kernel_rfl) ?_ _
        go_wp2
        go_roundw
        case rel => exact ⟨j + 1, by omega, by go_num, by rw [HS.out]; exact L21⟩
        case measure => simp only [intOf]; omega
      · obtain ⟨b1, o1, rfl, ha1⟩ := lies_at P18.out hO
        rw [hy, Nat.zero_mul, Nat.add_zero] at ha1
        have hs : u18.cell? ⟨u15.heap.size, 0, none⟩ = some (.int .i64 fi) ∧ u18.cell? ⟨u15.heap.size, 1, none⟩ = some (.int .i64 fk) ∧ u18.cell? ⟨u15.heap.size, 2, none⟩ = some (.int .i64 fc) ∧ u18.cell? ⟨u15.heap.size, 3, none⟩ = some (.int .i64 fs) ∧ u18.cell? ⟨u15.heap.size, 4, none⟩ = some (.int .i64 ft) ∧ u18.cell? ⟨b1, o1, none⟩ = some (.int .i64 fi) ∧ u18.cell? ⟨b1, o1 + 1, none⟩ = some (.int .i64 fk) ∧ u18.cell? ⟨b1, o1 + 2, none⟩ = some (.int .i64 fc) ∧ u18.cell? ⟨b1, o1 + 3, none⟩ = some (.int .i64 fs) ∧ u18.cell? ⟨b1, o1 + 4, none⟩ = some (.int .i64 ft) := ⟨(box5 K18.out).1, (box5 K18.out).2.1, (box5 K18.out).2.2.1, (box5 K18.out).2.2.2.1, (box5 K18.out).2.2.2.2, at5 ha1⟩
        have KAH := Lib.hid (fun (u u' : World) (hb : Below u.heap.size u u') (h : u.cell? ⟨u15.heap.size, 0, none⟩ = some (.int .i64 fi) ∧ u.cell? ⟨u15.heap.size, 1, none⟩ = some (.int .i64 fk) ∧ u.cell? ⟨u15.heap.size, 2, none⟩ = some (.int .i64 fc) ∧ u.cell? ⟨u15.heap.size, 3, none⟩ = some (.int .i64 fs) ∧ u.cell? ⟨u15.heap.size, 4, none⟩ = some (.int .i64 ft) ∧ u.cell? ⟨b1, o1, none⟩ = some (.int .i64 fi) ∧ u.cell? ⟨b1, o1 + 1, none⟩ = some (.int .i64 fk) ∧ u.cell? ⟨b1, o1 + 2, none⟩ = some (.int .i64 fc) ∧ u.cell? ⟨b1, o1 + 3, none⟩ = some (.int .i64 fs) ∧ u.cell? ⟨b1, o1 + 4, none⟩ = some (.int .i64 ft)) => show u'.cell? ⟨u15.heap.size, 0, none⟩ = some (.int .i64 fi) ∧ u'.cell? ⟨u15.heap.size, 1, none⟩ = some (.int .i64 fk) ∧ u'.cell? ⟨u15.heap.size, 2, none⟩ = some (.int .i64 fc) ∧ u'.cell? ⟨u15.heap.size, 3, none⟩ = some (.int .i64 fs) ∧ u'.cell? ⟨u15.heap.size, 4, none⟩ = some (.int .i64 ft) ∧ u'.cell? ⟨b1, o1, none⟩ = some (.int .i64 fi) ∧ u'.cell? ⟨b1, o1 + 1, none⟩ = some (.int .i64 fk) ∧ u'.cell? ⟨b1, o1 + 2, none⟩ = some (.int .i64 fc) ∧ u'.cell? ⟨b1, o1 + 3, none⟩ = some (.int .i64 fs) ∧ u'.cell? ⟨b1, o1 + 4, none⟩ = some (.int .i64 ft) from ⟨cell_on h.1 hb, cell_on h.2.1 hb, cell_on h.2.2.1 hb, cell_on h.2.2.2.1 hb, cell_on h.2.2.2.2.1 hb, cell_on h.2.2.2.2.2.1 hb, cell_on h.2.2.2.2.2.2.1 hb, cell_on h.2.2.2.2.2.2.2.1 hb, cell_on h.2.2.2.2.2.2.2.2.1 hb, cell_on h.2.2.2.2.2.2.2.2.2 hb⟩)
        have co := Lib.hid (of_one_drew ⟨fi, fk, fc, fs, ft⟩ u18 35)
        have S19 := Lib.hid (fun (u : World) (hb : Below (u18.alloc (.cells #[.int .i64 fi, .int .i64 fk, .int .i64 fc, .int .i64 fs, .int .i64 ft] 35)).heap.size (u18.alloc (.cells #[.int .i64 fi, .int .i64 fk, .int .i64 fc, .int .i64 fs, .int .i64 ft] 35)).drew u) => KAH.out _ _ hb (KAH.out _ _ (lay u18 (.cells #[.int .i64 fi, .int .i64 fk, .int .i64 fc, .int .i64 fs, .int .i64 ft] 35)).drew hs))
        have Q19 := Lib.hid (fun (u : World) (hb : Below (u18.alloc (.cells #[.int .i64 fi, .int .i64 fk, .int .i64 fc, .int .i64 fs, .int .i64 ft] 35)).heap.size (u18.alloc (.cells #[.int .i64 fi, .int .i64 fk, .int .i64 fc, .int .i64 fs, .int .i64 ft] 35)).drew u) => (L18.out.on HP.out (lay u18 (.cells #[.int .i64 fi, .int .i64 fk, .int .i64 fc, .int .i64 fs, .int .i64 ft] 35)).drew).on HP.out hb)
        have eq' := fun (u : World) => neq5 ⟨fi, fk, fc, fs, ft⟩ ⟨fi, fk, fc, fs, ft⟩ u
        rw [same5_iff.2 rfl] at eq'
        simp only [val, Bool.not_true] at eq' co
        have hlen : (0 : Int) < (OF.length : Int) := by omega
        have hlen2 : (true != true) = false := rfl
        have hnat := hO
        clear hO hy ha1 L18 K18
        generalize OF.length = n18 at *
        have hdec : decide (0 < n18) = true := by simpa using hnat
        refine wp_region_held_drew (S := fun u => u.cell? ⟨u15.heap.size, 0, none⟩ = some (.int .i64 fi) ∧ u.cell? ⟨u15.heap.size, 1, none⟩ = some (.int .i64 fk) ∧ u.cell? ⟨u15.heap.size, 2, none⟩ = some (.int .i64 fc) ∧ u.cell? ⟨u15.heap.size, 3, none⟩ = some (.int .i64 fs) ∧ u.cell? ⟨u15.heap.size, 4, none⟩ = some (.int .i64 ft) ∧ u.cell? ⟨b1, o1, none⟩ = some (.int .i64 fi) ∧ u.cell? ⟨b1, o1 + 1, none⟩ = some (.int .i64 fk) ∧ u.cell? ⟨b1, o1 + 2, none⟩ = some (.int .i64 fc) ∧ u.cell? ⟨b1, o1 + 3, none⟩ = some (.int .i64 fs) ∧ u.cell? ⟨b1, o1 + 4, none⟩ = some (.int .i64 ft)) (by kernel_rfl) hs (fun hHeld => ?_)
        refine wpAnyH_take (i := 0) (oi := { dst := some 99, op := Op.move (Operand.tmp 12), type := 4, pos := "law.go:78", after := #[], guard := none }) (v := ?_) rfl (by kernel_rfl) (by kernel_rfl) (by kernel_rfl) (fun _ _ _ h => h) (Or.inl ⟨by rfl, ?_⟩) (by assumption) ?_
        rotate_left
        · (intro w hSw; (try dsimp only at hSw); go_simp; try with_reducible rfl)
        simp only [Act.put, List.setIfInBounds_toArray, List.set_cons_zero, List.set_cons_succ]
        refine wpAnyH_take (i := 1) (oi := { dst := some 100, op := Op.unOp UnOp.not 4 (Operand.tmp 99), type := 4, pos := "law.go:78", after := #[{ on := 0, ground := Ground.data }], guard := none }) (v := ?_) rfl (by kernel_rfl) (by kernel_rfl) (by kernel_rfl) (fun _ _ _ h => h) (Or.inl ⟨by rfl, ?_⟩) (by assumption) ?_
        rotate_left
        · (intro w hSw; (try dsimp only at hSw); go_simp; try with_reducible rfl)
        simp only [Act.put, List.setIfInBounds_toArray, List.set_cons_zero, List.set_cons_succ]
        refine wpAnyH_take (i := 2) (oi := { dst := some 101, op := Op.move (Operand.tmp 100), type := 4, pos := "law.go:78", after := #[{ on := 1, ground := Ground.data }], guard := none }) (v := ?_) rfl (by kernel_rfl) (by kernel_rfl) (by kernel_rfl) (fun _ _ _ h => h) (Or.inl ⟨by rfl, ?_⟩) (by assumption) ?_
        rotate_left
        · (intro w hSw; (try dsimp only at hSw); go_simp; try with_reducible rfl)
        simp only [Act.put, List.setIfInBounds_toArray, List.set_cons_zero, List.set_cons_succ]
        refine wpAnyH_take (i := 3) (oi := { dst := some 102, op := Op.move (Operand.tmp 13), type := 4, pos := "law.go:78", after := #[{ on := 2, ground := Ground.guard }], guard := some (2, false) }) (v := ?_) rfl (by kernel_rfl) (by kernel_rfl) (by kernel_rfl) (fun _ _ _ h => h) (Or.inl ⟨by rfl, ?_⟩) (by assumption) ?_
        rotate_left
        · (intro w hSw; (try dsimp only at hSw); go_simp; try with_reducible rfl)
        simp only [Act.put, List.setIfInBounds_toArray, List.set_cons_zero, List.set_cons_succ]
        refine wpAnyH_take (i := 4) (oi := { dst := some 103, op := Op.unOp UnOp.not 4 (Operand.tmp 102), type := 4, pos := "law.go:78", after := #[{ on := 3, ground := Ground.data }, { on := 2, ground := Ground.guard }], guard := some (2, false) }) (v := ?_) rfl (by kernel_rfl) (by kernel_rfl) (by kernel_rfl) (fun _ _ _ h => h) (Or.inl ⟨by rfl, ?_⟩) (by assumption) ?_
        rotate_left
        · (intro w hSw; (try dsimp only at hSw); go_simp; try with_reducible rfl)
        simp only [Act.put, List.setIfInBounds_toArray, List.set_cons_zero, List.set_cons_succ]
        refine wpAnyH_take (i := 5) (oi := { dst := some 104, op := Op.pick (Operand.tmp 101) (Operand.const (Value.bool true)) (Operand.tmp 103), type := 4, pos := "law.go:78", after := #[{ on := 2, ground := Ground.data }, { on := 4, ground := Ground.data }], guard := none }) (v := ?_) rfl (by kernel_rfl) (by kernel_rfl) (by kernel_rfl) (fun _ _ _ h => h) (Or.inl ⟨by rfl, ?_⟩) (by assumption) ?_
        rotate_left
        · (intro w hSw; (try dsimp only at hSw); go_simp; try with_reducible rfl)
        simp only [Act.put, List.setIfInBounds_toArray, List.set_cons_zero, List.set_cons_succ]
        refine wpAnyH_take (i := 6) (oi := { dst := some 105, op := Op.move (Operand.tmp 104), type := 4, pos := "law.go:78", after := #[{ on := 5, ground := Ground.data }, { on := 2, ground := Ground.chain }], guard := none }) (v := ?_) rfl (by kernel_rfl) (by kernel_rfl) (by kernel_rfl) (fun _ _ _ h => h) (Or.inl ⟨by rfl, ?_⟩) (by assumption) ?_
        rotate_left
        · (intro w hSw; (try dsimp only at hSw); go_simp; try with_reducible rfl)
        simp only [Act.put, List.setIfInBounds_toArray, List.set_cons_zero, List.set_cons_succ]
        refine wpAnyH_take (i := 7) (oi := { dst := some 106, op := Op.move (Operand.tmp 14), type := 4, pos := "law.go:78", after := #[{ on := 6, ground := Ground.guard }], guard := some (6, false) }) (v := ?_) rfl (by kernel_rfl) (by kernel_rfl) (by kernel_rfl) (fun _ _ _ h => h) (Or.inl ⟨by rfl, ?_⟩) (by assumption) ?_
        rotate_left
        · (intro w hSw; (try dsimp only at hSw); go_simp; try with_reducible rfl)
        simp only [Act.put, List.setIfInBounds_toArray, List.set_cons_zero, List.set_cons_succ]
        refine wpAnyH_take (i := 8) (oi := { dst := some 107, op := Op.unOp UnOp.not 4 (Operand.tmp 106), type := 4, pos := "law.go:78", after := #[{ on := 7, ground := Ground.data }, { on := 6, ground := Ground.guard }], guard := some (6, false) }) (v := ?_) rfl (by kernel_rfl) (by kernel_rfl) (by kernel_rfl) (fun _ _ _ h => h) (Or.inl ⟨by rfl, ?_⟩) (by assumption) ?_
        rotate_left
        · (intro w hSw; (try dsimp only at hSw); go_simp; try with_reducible rfl)
        simp only [Act.put, List.setIfInBounds_toArray, List.set_cons_zero, List.set_cons_succ]
        refine wpAnyH_take (i := 9) (oi := { dst := some 108, op := Op.pick (Operand.tmp 105) (Operand.const (Value.bool true)) (Operand.tmp 107), type := 4, pos := "law.go:78", after := #[{ on := 6, ground := Ground.data }, { on := 8, ground := Ground.data }], guard := none }) (v := ?_) rfl (by kernel_rfl) (by kernel_rfl) (by kernel_rfl) (fun _ _ _ h => h) (Or.inl ⟨by rfl, ?_⟩) (by assumption) ?_
        rotate_left
        · (intro w hSw; (try dsimp only at hSw); go_simp; try with_reducible rfl)
        simp only [Act.put, List.setIfInBounds_toArray, List.set_cons_zero, List.set_cons_succ]
        refine wpAnyH_take (i := 10) (oi := { dst := some 109, op := Op.move (Operand.tmp 108), type := 4, pos := "law.go:78", after := #[{ on := 9, ground := Ground.data }, { on := 6, ground := Ground.chain }], guard := none }) (v := ?_) rfl (by kernel_rfl) (by kernel_rfl) (by kernel_rfl) (fun _ _ _ h => h) (Or.inl ⟨by rfl, ?_⟩) (by assumption) ?_
        rotate_left
        · (intro w hSw; (try dsimp only at hSw); go_simp; try with_reducible rfl)
        simp only [Act.put, List.setIfInBounds_toArray, List.set_cons_zero, List.set_cons_succ]
        refine wpAnyH_take (i := 11) (oi := { dst := some 110, op := Op.move (Operand.tmp 15), type := 4, pos := "law.go:78", after := #[{ on := 10, ground := Ground.guard }], guard := some (10, false) }) (v := ?_) rfl (by kernel_rfl) (by kernel_rfl) (by kernel_rfl) (fun _ _ _ h => h) (Or.inl ⟨by rfl, ?_⟩) (by assumption) ?_
        rotate_left
        · (intro w hSw; (try dsimp only at hSw); go_simp; try with_reducible rfl)
        simp only [Act.put, List.setIfInBounds_toArray, List.set_cons_zero, List.set_cons_succ]
        refine wpAnyH_take (i := 12) (oi := { dst := some 111, op := Op.unOp UnOp.not 4 (Operand.tmp 110), type := 4, pos := "law.go:78", after := #[{ on := 11, ground := Ground.data }, { on := 10, ground := Ground.guard }], guard := some (10, false) }) (v := ?_) rfl (by kernel_rfl) (by kernel_rfl) (by kernel_rfl) (fun _ _ _ h => h) (Or.inl ⟨by rfl, ?_⟩) (by assumption) ?_
        rotate_left
        · (intro w hSw; (try dsimp only at hSw); go_simp; try with_reducible rfl)
        simp only [Act.put, List.setIfInBounds_toArray, List.set_cons_zero, List.set_cons_succ]
        refine wpAnyH_take (i := 13) (oi := { dst := some 112, op := Op.pick (Operand.tmp 109) (Operand.const (Value.bool true)) (Operand.tmp 111), type := 4, pos := "law.go:78", after := #[{ on := 10, ground := Ground.data }, { on := 12, ground := Ground.data }], guard := none }) (v := ?_) rfl (by kernel_rfl) (by kernel_rfl) (by kernel_rfl) (fun _ _ _ h => h) (Or.inl ⟨by rfl, ?_⟩) (by assumption) ?_
        rotate_left
        · (intro w hSw; (try dsimp only at hSw); go_simp; try with_reducible rfl)
        simp only [Act.put, List.setIfInBounds_toArray, List.set_cons_zero, List.set_cons_succ]
        refine wpAnyH_take (i := 14) (oi := { dst := some 113, op := Op.move (Operand.tmp 112), type := 4, pos := "law.go:78", after := #[{ on := 13, ground := Ground.data }, { on := 10, ground := Ground.chain }], guard := none }) (v := ?_) rfl (by kernel_rfl) (by kernel_rfl) (by kernel_rfl) (fun _ _ _ h => h) (Or.inl ⟨by rfl, ?_⟩) (by assumption) ?_
        rotate_left
        · (intro w hSw; (try dsimp only at hSw); go_simp; try with_reducible rfl)
        simp only [Act.put, List.setIfInBounds_toArray, List.set_cons_zero, List.set_cons_succ]
        refine wpAnyH_take (i := 15) (oi := { dst := some 114, op := Op.move (Operand.tmp 17), type := 4, pos := "law.go:78", after := #[{ on := 14, ground := Ground.guard }], guard := some (14, false) }) (v := ?_) rfl (by kernel_rfl) (by kernel_rfl) (by kernel_rfl) (fun _ _ _ h => h) (Or.inl ⟨by rfl, ?_⟩) (by assumption) ?_
        rotate_left
        · (intro w hSw; (try dsimp only at hSw); go_simp; try with_reducible rfl)
        simp only [Act.put, List.setIfInBounds_toArray, List.set_cons_zero, List.set_cons_succ]
        refine wpAnyH_take (i := 16) (oi := { dst := some 115, op := Op.move (Operand.tmp 18), type := 30, pos := "law.go:78", after := #[{ on := 14, ground := Ground.guard }], guard := some (14, false) }) (v := ?_) rfl (by kernel_rfl) (by kernel_rfl) (by kernel_rfl) (fun _ _ _ h => h) (Or.inl ⟨by rfl, ?_⟩) (by assumption) ?_
        rotate_left
        · (intro w hSw; (try dsimp only at hSw); go_simp; try with_reducible rfl)
        simp only [Act.put, List.setIfInBounds_toArray, List.set_cons_zero, List.set_cons_succ]
        refine wpAnyH_take (i := 17) (oi := { dst := some 116, op := Op.call { callee := Callee.builtin Builtin.len, args := #[Operand.tmp 115], argTypes := #[30] }, type := 3, pos := "law.go:78", after := #[{ on := 16, ground := Ground.data }, { on := 14, ground := Ground.guard }], guard := some (14, false) }) (v := ?_) rfl (by kernel_rfl) (by kernel_rfl) (by kernel_rfl) (fun _ _ _ h => h) (Or.inl ⟨by rfl, ?_⟩) (by assumption) ?_
        rotate_left
        · (intro w hSw; (try dsimp only at hSw); go_simp; try with_reducible rfl)
        simp only [Act.put, List.setIfInBounds_toArray, List.set_cons_zero, List.set_cons_succ]
        refine wpAnyH_take (i := 18) (oi := { dst := some 117, op := Op.binOp BinOp.gtr 3 (Operand.tmp 116) (Operand.const (Value.int IntKind.i64 0)) 3, type := 4, pos := "law.go:78", after := #[{ on := 17, ground := Ground.data }, { on := 14, ground := Ground.guard }], guard := some (14, false) }) (v := ?_) rfl (by kernel_rfl) (by kernel_rfl) (by kernel_rfl) (fun _ _ _ h => h) (Or.inl ⟨by rfl, ?_⟩) (by assumption) ?_
        rotate_left
        · (intro w hSw; (try dsimp only at hSw); go_simp; try with_reducible rfl)
        simp only [Act.put, List.setIfInBounds_toArray, List.set_cons_zero, List.set_cons_succ]
        refine wpAnyH_take (i := 19) (oi := { dst := some 118, op := Op.binOp BinOp.neq 4 (Operand.tmp 114) (Operand.tmp 117) 4, type := 4, pos := "law.go:78", after := #[{ on := 15, ground := Ground.data }, { on := 18, ground := Ground.data }, { on := 14, ground := Ground.guard }], guard := some (14, false) }) (v := ?_) rfl (by kernel_rfl) (by kernel_rfl) (by kernel_rfl) (fun _ _ _ h => h) (Or.inl ⟨by rfl, ?_⟩) (by assumption) ?_
        rotate_left
        · (intro w hSw; (try dsimp only at hSw); go_simp; try with_reducible rfl)
        simp only [Act.put, List.setIfInBounds_toArray, List.set_cons_zero, List.set_cons_succ]
        refine wpAnyH_take (i := 20) (oi := { dst := some 119, op := Op.pick (Operand.tmp 113) (Operand.const (Value.bool true)) (Operand.tmp 118), type := 4, pos := "law.go:78", after := #[{ on := 14, ground := Ground.data }, { on := 19, ground := Ground.data }], guard := none }) (v := ?_) rfl (by kernel_rfl) (by kernel_rfl) (by kernel_rfl) (fun _ _ _ h => h) (Or.inl ⟨by rfl, ?_⟩) (by assumption) ?_
        rotate_left
        · (intro w hSw; (try dsimp only at hSw); go_simp; try with_reducible rfl)
        simp only [Act.put, List.setIfInBounds_toArray, List.set_cons_zero, List.set_cons_succ]
        refine wpAnyH_take (i := 21) (oi := { dst := some 120, op := Op.move (Operand.tmp 119), type := 4, pos := "law.go:78", after := #[{ on := 20, ground := Ground.data }, { on := 14, ground := Ground.chain }], guard := none }) (v := ?_) rfl (by kernel_rfl) (by kernel_rfl) (by kernel_rfl) (fun _ _ _ h => h) (Or.inl ⟨by rfl, ?_⟩) (by assumption) ?_
        rotate_left
        · (intro w hSw; (try dsimp only at hSw); go_simp; try with_reducible rfl)
        simp only [Act.put, List.setIfInBounds_toArray, List.set_cons_zero, List.set_cons_succ]
        refine wpAnyH_take (i := 22) (oi := { dst := some 121, op := Op.move (Operand.tmp 17), type := 4, pos := "law.go:78", after := #[{ on := 21, ground := Ground.guard }], guard := some (21, false) }) (v := ?_) rfl (by kernel_rfl) (by kernel_rfl) (by kernel_rfl) (fun _ _ _ h => h) (Or.inl ⟨by rfl, ?_⟩) (by assumption) ?_
        rotate_left
        · (intro w hSw; (try dsimp only at hSw); go_simp; try with_reducible rfl)
        simp only [Act.put, List.setIfInBounds_toArray, List.set_cons_zero, List.set_cons_succ]
        refine wpAnyH_take (i := 23) (oi := { dst := some 122, op := Op.move (Operand.tmp 121), type := 4, pos := "law.go:78", after := #[{ on := 22, ground := Ground.data }, { on := 21, ground := Ground.chain }, { on := 21, ground := Ground.guard }], guard := some (21, false) }) (v := ?_) rfl (by kernel_rfl) (by kernel_rfl) (by kernel_rfl) (fun _ _ _ h => h) (Or.inl ⟨by rfl, ?_⟩) (by assumption) ?_
        rotate_left
        · (intro w hSw; (try dsimp only at hSw); go_simp; try with_reducible rfl)
        simp only [Act.put, List.setIfInBounds_toArray, List.set_cons_zero, List.set_cons_succ]
        refine wpAnyH_take (i := 24) (oi := { dst := some 123, op := Op.load 35 (Operand.tmp 16), type := 35, pos := "law.go:78", after := #[{ on := 23, ground := Ground.guard }], guard := some (23, true) }) (v := ?_) rfl (by kernel_rfl) (by kernel_rfl) (by kernel_rfl) (fun _ _ _ h => h) (Or.inl ⟨by rfl, ?_⟩) (by assumption) ?_
        rotate_left
        · (intro w hSw; (try dsimp only at hSw); go_simp; try with_reducible rfl)
        simp only [Act.put, List.setIfInBounds_toArray, List.set_cons_zero, List.set_cons_succ]
        refine wpAnyH_take (i := 29) (oi := { dst := some 128, op := Op.move (Operand.tmp 18), type := 30, pos := "law.go:78", after := #[{ on := 23, ground := Ground.guard }], guard := some (23, true) }) (v := ?_) rfl (by kernel_rfl) (by kernel_rfl) (by kernel_rfl) (fun _ _ _ h => h) (Or.inl ⟨by rfl, ?_⟩) (by assumption) ?_
        rotate_left
        · (intro w hSw; (try dsimp only at hSw); go_simp; try with_reducible rfl)
        simp only [Act.put, List.setIfInBounds_toArray, List.set_cons_zero, List.set_cons_succ]
        refine wpAnyH_take (i := 30) (oi := { dst := some 129, op := Op.indexAddr 30 (Operand.tmp 128) (Operand.const (Value.int IntKind.i64 0)), type := 0, pos := "law.go:78", after := #[{ on := 29, ground := Ground.data }, { on := 23, ground := Ground.guard }], guard := some (23, true) }) (v := ?_) rfl (by kernel_rfl) (by kernel_rfl) (by kernel_rfl) (fun _ _ _ h => h) (Or.inl ⟨by rfl, ?_⟩) (by assumption) ?_
        rotate_left
        · (intro w hSw; (try dsimp only at hSw); go_simp; try with_reducible rfl)
        simp only [Act.put, List.setIfInBounds_toArray, List.set_cons_zero, List.set_cons_succ]
        refine wpAnyH_take (i := 31) (oi := { dst := some 130, op := Op.load 49 (Operand.tmp 129), type := 49, pos := "law.go:78", after := #[{ on := 30, ground := Ground.data }, { on := 23, ground := Ground.guard }], guard := some (23, true) }) (v := ?_) rfl (by kernel_rfl) (by kernel_rfl) (by kernel_rfl) (fun _ _ _ h => h) (Or.inl ⟨by rfl, ?_⟩) (by assumption) ?_
        rotate_left
        · (intro w hSw; (try dsimp only at hSw); go_simp; try with_reducible rfl)
        simp only [Act.put, List.setIfInBounds_toArray, List.set_cons_zero, List.set_cons_succ]
        refine wpAnyH_ready (rs := [25]) (by kernel_rfl) (by simp) ?_
        refine AllReadyH.cons (o := { dst := some 124, op := Op.buildSlice 40 1 #[(0, Operand.tmp 123)], type := 40, pos := "law.go:78", after := #[{ on := 24, ground := Ground.data }, { on := 23, ground := Ground.guard }], guard := some (23, true) }) rfl (fun K hK => ?_) AllReadyH.nil
        go_simp
        refine hK.out _ _ (KAH.out _ _ (lay u18 (.cells #[.int .i64 fi, .int .i64 fk, .int .i64 fc, .int .i64 fs, .int .i64 ft] 35)).drew hs) ?_
        intro hHeld
        clear hK K
        try simp only [Act.put, List.setIfInBounds_toArray, List.set_cons_zero, List.set_cons_succ]
        refine wpAnyH_ready (rs := [26]) (by kernel_rfl) (by simp) ?_
        refine AllReadyH.cons (o := { dst := some 125, op := Op.call { callee := Callee.value (Operand.func 10), args := #[Operand.tmp 124], argTypes := #[40] }, type := 30, pos := "law.go:78", after := #[{ on := 25, ground := Ground.data }, { on := 23, ground := Ground.chain }, { on := 23, ground := Ground.guard }], guard := some (23, true) }) rfl (fun K hK => ?_) AllReadyH.nil
        go_simp
        go_at_call 10
        refine co.out.mono ?_
        rintro e u19 ⟨p19, c19, rfl, hq, hb⟩
        obtain ⟨qb, qo, rfl, y0, y1, y2, y3, y4⟩ := lies_first hq
        have s19 := S19.out _ hb
        have L19 := Lib.hid (Q19.out _ hb)
        refine hK.out _ _ s19 ?_
        intro hHeld
        clear hK K
        try simp only [Act.put, List.setIfInBounds_toArray, List.set_cons_zero, List.set_cons_succ]
        refine held_more (S' := fun u => u.cell? ⟨qb, qo, none⟩ = some (.int .i64 fi) ∧ u.cell? ⟨qb, qo + 1, none⟩ = some (.int .i64 fk) ∧ u.cell? ⟨qb, qo + 2, none⟩ = some (.int .i64 fc) ∧ u.cell? ⟨qb, qo + 3, none⟩ = some (.int .i64 fs) ∧ u.cell? ⟨qb, qo + 4, none⟩ = some (.int .i64 ft)) _ _ _ _ ?_
        have hHeld2 : (fun u : World => (u.cell? ⟨u15.heap.size, 0, none⟩ = some (.int .i64 fi) ∧ u.cell? ⟨u15.heap.size, 1, none⟩ = some (.int .i64 fk) ∧ u.cell? ⟨u15.heap.size, 2, none⟩ = some (.int .i64 fc) ∧ u.cell? ⟨u15.heap.size, 3, none⟩ = some (.int .i64 fs) ∧ u.cell? ⟨u15.heap.size, 4, none⟩ = some (.int .i64 ft) ∧ u.cell? ⟨b1, o1, none⟩ = some (.int .i64 fi) ∧ u.cell? ⟨b1, o1 + 1, none⟩ = some (.int .i64 fk) ∧ u.cell? ⟨b1, o1 + 2, none⟩ = some (.int .i64 fc) ∧ u.cell? ⟨b1, o1 + 3, none⟩ = some (.int .i64 fs) ∧ u.cell? ⟨b1, o1 + 4, none⟩ = some (.int .i64 ft)) ∧ u.cell? ⟨qb, qo, none⟩ = some (.int .i64 fi) ∧ u.cell? ⟨qb, qo + 1, none⟩ = some (.int .i64 fk) ∧ u.cell? ⟨qb, qo + 2, none⟩ = some (.int .i64 fc) ∧ u.cell? ⟨qb, qo + 3, none⟩ = some (.int .i64 fs) ∧ u.cell? ⟨qb, qo + 4, none⟩ = some (.int .i64 ft)) u19 := ⟨s19, y0, y1, y2, y3, y4⟩
        refine wpAnyH_take (i := 27) (oi := { dst := some 126, op := Op.indexAddr 30 (Operand.tmp 125) (Operand.const (Value.int IntKind.i64 0)), type := 0, pos := "law.go:78", after := #[{ on := 26, ground := Ground.data }, { on := 23, ground := Ground.guard }], guard := some (23, true) }) (v := ?_) rfl (by kernel_rfl) (by kernel_rfl) (by kernel_rfl) (fun _ _ _ h => h) (Or.inl ⟨by rfl, ?_⟩) (by assumption) ?_
        rotate_left
        · (intro w hSw; (try dsimp only at hSw); go_simp; try with_reducible rfl)
        simp only [Act.put, List.setIfInBounds_toArray, List.set_cons_zero, List.set_cons_succ]
        refine wpAnyH_take (i := 28) (oi := { dst := some 127, op := Op.load 49 (Operand.tmp 126), type := 49, pos := "law.go:78", after := #[{ on := 27, ground := Ground.data }, { on := 23, ground := Ground.guard }], guard := some (23, true) }) (v := ?_) rfl (by kernel_rfl) (by kernel_rfl) (by kernel_rfl) (fun _ _ _ h => h) (Or.inl ⟨by rfl, ?_⟩) (by assumption) ?_
        rotate_left
        · (intro w hSw; (try dsimp only at hSw); go_simp; try with_reducible rfl)
        simp only [Act.put, List.setIfInBounds_toArray, List.set_cons_zero, List.set_cons_succ]
        refine wpAnyH_take (i := 32) (oi := { dst := some 131, op := Op.binOp BinOp.neq 49 (Operand.tmp 127) (Operand.tmp 130) 49, type := 4, pos := "law.go:78", after := #[{ on := 28, ground := Ground.data }, { on := 31, ground := Ground.data }, { on := 23, ground := Ground.guard }], guard := some (23, true) }) (v := ?_) rfl (by kernel_rfl) (by kernel_rfl) (by kernel_rfl) (fun _ _ _ h => h) (Or.inl ⟨by rfl, ?_⟩) (by assumption) ?_
        rotate_left
        · (intro w hSw; (try dsimp only at hSw); go_simp; try with_reducible rfl)
        simp only [Act.put, List.setIfInBounds_toArray, List.set_cons_zero, List.set_cons_succ]
        refine wpAnyH_take (i := 33) (oi := { dst := some 132, op := Op.pick (Operand.tmp 122) (Operand.tmp 131) (Operand.const (Value.bool false)), type := 4, pos := "law.go:78", after := #[{ on := 23, ground := Ground.data }, { on := 32, ground := Ground.data }, { on := 21, ground := Ground.guard }], guard := some (21, false) }) (v := ?_) rfl (by kernel_rfl) (by kernel_rfl) (by kernel_rfl) (fun _ _ _ h => h) (Or.inl ⟨by rfl, ?_⟩) (by assumption) ?_
        rotate_left
        · (intro w hSw; (try dsimp only at hSw); go_simp; try with_reducible rfl)
        simp only [Act.put, List.setIfInBounds_toArray, List.set_cons_zero, List.set_cons_succ]
        refine wpAnyH_take (i := 34) (oi := { dst := some 133, op := Op.pick (Operand.tmp 120) (Operand.const (Value.bool true)) (Operand.tmp 132), type := 4, pos := "law.go:78", after := #[{ on := 21, ground := Ground.data }, { on := 33, ground := Ground.data }], guard := none }) (v := ?_) rfl (by kernel_rfl) (by kernel_rfl) (by kernel_rfl) (fun _ _ _ h => h) (Or.inl ⟨by rfl, ?_⟩) (by assumption) ?_
        rotate_left
        · (intro w hSw; (try dsimp only at hSw); go_simp; try with_reducible rfl)
        simp only [Act.put, List.setIfInBounds_toArray, List.set_cons_zero, List.set_cons_succ]
        refine wpAnyH_take (i := 35) (oi := { dst := some 134, op := Op.move (Operand.tmp 133), type := 4, pos := "law.go:78", after := #[{ on := 34, ground := Ground.data }, { on := 26, ground := Ground.chain }], guard := none }) (v := ?_) rfl (by kernel_rfl) (by kernel_rfl) (by kernel_rfl) (fun _ _ _ h => h) (Or.inl ⟨by rfl, ?_⟩) (by assumption) ?_
        rotate_left
        · (intro w hSw; (try dsimp only at hSw); go_simp; try with_reducible rfl)
        simp only [Act.put, List.setIfInBounds_toArray, List.set_cons_zero, List.set_cons_succ]
        refine wpAnyH_take (i := 36) (oi := { dst := some 135, op := Op.move (Operand.tmp 7), type := 24, pos := "law.go:78", after := #[{ on := 35, ground := Ground.guard }], guard := some (35, false) }) (v := ?_) rfl (by kernel_rfl) (by kernel_rfl) (by kernel_rfl) (fun _ _ _ h => h) (Or.inl ⟨by rfl, ?_⟩) (by assumption) ?_
        rotate_left
        · (intro w hSw; (try dsimp only at hSw); go_simp; try with_reducible rfl)
        simp only [Act.put, List.setIfInBounds_toArray, List.set_cons_zero, List.set_cons_succ]
        refine wpAnyH_take (i := 37) (oi := { dst := some 136, op := Op.move (Operand.tmp 2), type := 3, pos := "law.go:78", after := #[{ on := 35, ground := Ground.guard }], guard := some (35, false) }) (v := ?_) rfl (by kernel_rfl) (by kernel_rfl) (by kernel_rfl) (fun _ _ _ h => h) (Or.inl ⟨by rfl, ?_⟩) (by assumption) ?_
        rotate_left
        · (intro w hSw; (try dsimp only at hSw); go_simp; try with_reducible rfl)
        simp only [Act.put, List.setIfInBounds_toArray, List.set_cons_zero, List.set_cons_succ]
        refine wpAnyH_take (i := 39) (oi := { dst := some 138, op := Op.move (Operand.tmp 10), type := 29, pos := "law.go:78", after := #[{ on := 35, ground := Ground.guard }], guard := some (35, false) }) (v := ?_) rfl (by kernel_rfl) (by kernel_rfl) (by kernel_rfl) (fun _ _ _ h => h) (Or.inl ⟨by rfl, ?_⟩) (by assumption) ?_
        rotate_left
        · (intro w hSw; (try dsimp only at hSw); go_simp; try with_reducible rfl)
        simp only [Act.put, List.setIfInBounds_toArray, List.set_cons_zero, List.set_cons_succ]
        refine wpAnyH_take (i := 40) (oi := { dst := some 139, op := Op.move (Operand.tmp 2), type := 3, pos := "law.go:78", after := #[{ on := 35, ground := Ground.guard }], guard := some (35, false) }) (v := ?_) rfl (by kernel_rfl) (by kernel_rfl) (by kernel_rfl) (fun _ _ _ h => h) (Or.inl ⟨by rfl, ?_⟩) (by assumption) ?_
        rotate_left
        · (intro w hSw; (try dsimp only at hSw); go_simp; try with_reducible rfl)
        simp only [Act.put, List.setIfInBounds_toArray, List.set_cons_zero, List.set_cons_succ]
        refine wpAnyH_ready (rs := [38]) (by kernel_rfl) (by simp) ?_
        refine AllReadyH.cons (o := { dst := some 137, op := Op.call { callee := Callee.value (Operand.func 18), args := #[Operand.tmp 135, Operand.tmp 136], argTypes := #[24, 3] }, type := 3, pos := "law.go:78", after := #[{ on := 36, ground := Ground.data }, { on := 37, ground := Ground.data }, { on := 35, ground := Ground.chain }, { on := 35, ground := Ground.guard }], guard := some (35, false) }) rfl (fun K hK => ?_) AllReadyH.nil
        go_simp
        go_at_call 18
        refine (R13.out _ L19.out).mono ?_
        rintro e u20 ⟨rfl, hb3⟩
        have L20 := Lib.hid (L19.out.on HP.out hb3)
        refine hK.out _ _ ⟨KAH.out _ _ hb3 s19, cell_on y0 hb3, cell_on y1 hb3, cell_on y2 hb3, cell_on y3 hb3, cell_on y4 hb3⟩ ?_
        intro hHeld
        clear hK K
        try simp only [Act.put, List.setIfInBounds_toArray, List.set_cons_zero, List.set_cons_succ]
        refine wpAnyH_ready (rs := [41]) (by kernel_rfl) (by simp) ?_
        refine AllReadyH.cons (o := { dst := some 140, op := Op.call { callee := Callee.value (Operand.func 19), args := #[Operand.tmp 138, Operand.tmp 139], argTypes := #[29, 3] }, type := 3, pos := "law.go:78", after := #[{ on := 39, ground := Ground.data }, { on := 40, ground := Ground.data }, { on := 38, ground := Ground.chain }, { on := 35, ground := Ground.guard }], guard := some (35, false) }) rfl (fun K hK => ?_) AllReadyH.nil
        go_simp
        go_at_call 19
        refine (R14.out _ L20.out).mono ?_
        rintro e u21 ⟨rfl, hb2⟩
        have L21 := Lib.hid (L20.out.on HP.out hb2)
        refine hK.out _ _ ⟨KAH.out _ _ hb2 hHeld.1, cell_on hHeld.2.1 hb2, cell_on hHeld.2.2.1 hb2, cell_on hHeld.2.2.2.1 hb2, cell_on hHeld.2.2.2.2.1 hb2, cell_on hHeld.2.2.2.2.2 hb2⟩ ?_
        intro hHeld
        clear hK K
        try simp only [Act.put, List.setIfInBounds_toArray, List.set_cons_zero, List.set_cons_succ]
        refine wpAnyH_take (i := 42) (oi := { dst := some 141, op := Op.binOp BinOp.neq 3 (Operand.tmp 137) (Operand.tmp 140) 3, type := 4, pos := "law.go:78", after := #[{ on := 38, ground := Ground.data }, { on := 41, ground := Ground.data }, { on := 35, ground := Ground.guard }], guard := some (35, false) }) (v := ?_) rfl (by kernel_rfl) (by kernel_rfl) (by kernel_rfl) (fun _ _ _ h => h) (Or.inl ⟨by rfl, ?_⟩) (by assumption) ?_
        rotate_left
        · (intro w hSw; (try dsimp only at hSw); go_simp; try with_reducible rfl)
        simp only [Act.put, List.setIfInBounds_toArray, List.set_cons_zero, List.set_cons_succ]
        refine wpAnyH_take (i := 43) (oi := { dst := some 142, op := Op.pick (Operand.tmp 134) (Operand.const (Value.bool true)) (Operand.tmp 141), type := 4, pos := "law.go:78", after := #[{ on := 35, ground := Ground.data }, { on := 42, ground := Ground.data }], guard := none }) (v := ?_) rfl (by kernel_rfl) (by kernel_rfl) (by kernel_rfl) (fun _ _ _ h => h) (Or.inl ⟨by rfl, ?_⟩) (by assumption) ?_
        rotate_left
        · (intro w hSw; (try dsimp only at hSw); go_simp; try with_reducible rfl)
        simp only [Act.put, List.setIfInBounds_toArray, List.set_cons_zero, List.set_cons_succ]
        refine wpAnyH_done (by kernel_rfl) ?_ _
        go_wp2
        go_roundw
        case rel => exact ⟨j + 1, by omega, by go_num, by rw [HS.out]; exact L21⟩
        case measure => simp only [intOf]; omega
    · have hlt' : ¬ (j : Int) < (l.length : Int) := by omega
      have B1 := Lib.hid L1.out.below
      have d1 := HP.out.nfirst 1
      have d2 := HP.out.ntake 1
      have d3 := fun u => alive_way HP.out u
      have d4 := HP.out.nput ⟨0, 0, 1, 0, 0⟩
      have d5 := HP.out.nexpire 1
      have d6 := HP.out.nof 1
      have d7 := HP.out.nkeys
      have d8 := HP.out.nall
      have d9 := HP.out.nsum 1
      simp only [val, z] at d1 d2 d4
      clear L1 RD S0 SS HA HP nk
      go_wp2_with (first
        | (go_at_call 17; (with_reducible refine (d1 _).mono ?_); rintro e u2 ⟨rfl, hb⟩; have C2 := Lib.hid (B1.out.trans (hb.mono B1.out.size)); have B2 := Lib.hid (C2.out.trans ((lay u2 (.cells #[.int .i64 0, .int .i64 0, .int .i64 0, .int .i64 0, .int .i64 0] 35)).mono C2.out.size)); clear hb C2 d1)
        | (go_at_call 20; (with_reducible refine (d2 _).mono ?_); rintro e u3 ⟨rfl, hb⟩; have C3 := Lib.hid (B2.out.trans (hb.mono B2.out.size)); have B3 := Lib.hid (C3.out.trans ((lay u3 (.cells #[.int .i64 0, .int .i64 0, .int .i64 0, .int .i64 0, .int .i64 0] 35)).mono C3.out.size)); clear hb C3 d2)
        | (go_at_call 5; (with_reducible refine (d3 _).mono ?_); rintro e u4 ⟨rfl, hb⟩; have B4 := Lib.hid (B3.out.trans (hb.mono B3.out.size)); clear hb d3)
        | (go_at_call 21; (with_reducible refine (d4 _).mono ?_); rintro e u5 ⟨rfl, hb⟩; have B5 := Lib.hid (B4.out.trans (hb.mono B4.out.size)); clear hb d4)
        | (go_at_call 22; (with_reducible refine (d5 _).mono ?_); rintro e u6 ⟨p6, c6, rfl, hb⟩; have B6 := Lib.hid (B5.out.trans (hb.mono B5.out.size)); clear hb d5)
        | (go_at_call 12; (with_reducible refine (d6 _).mono ?_); rintro e u7 ⟨p7, c7, rfl, hb⟩; have B7 := Lib.hid (B6.out.trans (hb.mono B6.out.size)); clear hb d6)
        | (go_at_call 15; (with_reducible refine (d7 _).mono ?_); rintro e u8 ⟨p8, c8, rfl, hb⟩; have B8 := Lib.hid (B7.out.trans (hb.mono B7.out.size)); clear hb d7)
        | (go_at_call 11; (with_reducible refine (d8 _).mono ?_); rintro e u9 ⟨p9, c9, rfl, hb⟩; have B9 := Lib.hid (B8.out.trans (hb.mono B8.out.size)); clear hb d8)
        | (go_at_call 18; (with_reducible refine (d9 _).mono ?_); rintro e u10 ⟨rfl, hb⟩; have B10 := Lib.hid (B9.out.trans (hb.mono B9.out.size)); clear hb d9))
      go_ret
      exact ⟨rfl, B10.out⟩
set_option maxRecDepth 100000 in
set_option maxHeartbeats 4000000 in
theorem plays_many {PW : Pw} (P : Way12 PW) (W : World) (p : Option Addr) (c n : Nat) (hl : (80 : Int) < (n : Int)) (room key : Int) :
    Calls Try.prog 3 #[.int .i64 room, .slice p n c, .int .i64 key] W fun e w' => e = .returned (.bool true) ∧ Below W.heap.size W w' := by
  have ca := fun u => alive_way P u
  clear P
  go_enter Try.func3, Try.ntmps3
  go_wp2_with (go_at_call 5; (with_reducible refine (ca _).mono ?_); rintro e u2 ⟨rfl, hb⟩; have B2 := Lib.hid hb; clear hb ca)
  go_ret
  exact ⟨rfl, B2.out⟩
end Go.Proofs.Ytdcclmellabnlaa.Queue
