/-
  EdgeOnce returns true, whatever the program's edge is, if its calls do what is asked of them.
-/
import Derived.Test.YtlbpeeelgpjciaaGreatEdgeOnceWay
namespace Go.Proofs.YtlbpeeelgpjciaaGreat.Edge
open Go.RowKit
open _root_.Go.Proofs.YtlbpeeelgpjciaaGreat.Codec (lt_of_heap frozen_of heap_set below_new)
open _root_.Go.Proofs.YtlbpeeelgpjciaaGreat.Kit (Enc Lies At Kept Laid Off cell_on lt_heap take_snoc below_drewN box5)
open _root_.Go.Proofs.YtlbpeeelgpjciaaGreat.Lease (Lz Num)
open _root_.Go.Proofs.YtlbpeeelgpjciaaGreat.Queue (It)

set_option maxRecDepth 100000 in
set_option maxHeartbeats 4000000 in
theorem once_many {PW : Pw} (P : Way14 PW) (W : World) (c : Cf) (p : Option Addr) (k : Nat) (p' : Option Addr) (k' n : Nat) (hl : (80 : Int) < (c.zs.length : Int) ∨ (80 : Int) < (n : Int)) :
    Calls Tryz.prog 4 #[c.val p k, .slice p' n k'] W fun e w' => e = .returned (.bool true) ∧ Below W.heap.size W w' := by
  have ca := fun u => alive_way P u
  clear P
  obtain ⟨cn, csk, ctl, cva, clo, che, cke, cqu, zs⟩ := c
  simp only [Cf.val] at *
  have HB := Lib.hid (lay W (.cells #[.int .i64 cn, .int .i64 csk, .int .i64 ctl, .int .i64 cva, .int .i64 clo, .int .i64 che, .int .i64 cke, .int .i64 cqu, .slice p zs.length k] 24))
  generalize zs.length = z at *
  by_cases hz : (80 : Int) < (z : Int)
  · clear hl
    go_enter Tryz.func4, Tryz.ntmps4
    go_wp2_with (go_at_call 5; (with_reducible refine (ca _).mono ?_); rintro e u2 ⟨rfl, hb⟩; have B2 := Lib.hid (HB.out.trans (hb.mono HB.out.size)); clear hb ca)
    go_ret
    exact ⟨rfl, B2.out⟩
  · have hn : (80 : Int) < (n : Int) := hl.resolve_left hz
    clear hl
    go_enter Tryz.func4, Tryz.ntmps4
    go_wp2_with (go_at_call 5; (with_reducible refine (ca _).mono ?_); rintro e u2 ⟨rfl, hb⟩; have B2 := Lib.hid (HB.out.trans (hb.mono HB.out.size)); clear hb ca)
    go_ret
    exact ⟨rfl, B2.out⟩
set_option maxRecDepth 100000 in
set_option maxHeartbeats 4000000 in
theorem once_no {PW : Pw} (P : Way14 PW) (W : World) (c : Cf) (p : Option Addr) (k : Nat) (p' : Option Addr) (k' n : Nat) (hz : c.zs.length ≤ 80) (hn : n ≤ 80) (hr : RatesB W.heap.size W p c.zs) (hc : CfNum c) (hk : c.check ≠ 0) :
    Calls Tryz.prog 4 #[c.val p k, .slice p' n k'] W fun e w' => e = .returned (.bool true) ∧ Below W.heap.size W w' := by
  have HB := Lib.hid (lay W (.cells #[.int .i64 c.n, .int .i64 c.sk, .int .i64 c.tl, .int .i64 c.va, .int .i64 c.lo, .int .i64 c.he, .int .i64 c.ke, .int .i64 c.qu, .slice p c.zs.length k] 24))
  have HRB := Lib.hid (fun u (hu : Below W.heap.size W u) => show RatesB u.heap.size u p c.zs from by
    rcases hr with hr | ⟨b, o, e, hlt, hcs⟩
    · exact .inl hr
    · exact .inr ⟨b, o, e, Nat.lt_of_lt_of_le hlt hu.size, fun i hi => ⟨(hu.cell (p := ⟨b, _, none⟩) hlt).trans (hcs i hi).1, (hu.cell (p := ⟨b, _, none⟩) hlt).trans (hcs i hi).2⟩⟩)
  have c0 := fun u (hu : RatesB u.heap.size u p c.zs) => P.newno c p k u hu (by omega) hc hk
  have d9 := fun u => alive_way P u
  generalize c.check = ck at *
  obtain ⟨cn, csk, ctl, cva, clo, che, cke, cqu, zs⟩ := c
  simp only [Cf.val] at *
  have hz2 : ¬ (80 : Int) < (zs.length : Int) := by omega
  have hn2 : ¬ (80 : Int) < (n : Int) := by omega
  have hck2 : (ck != 0) = true := by simpa using hk
  generalize zs.length = z at *
  clear P hr hc hk hz hn
  go_enter Tryz.func4, Tryz.ntmps4
  go_wp2_with (first
    | (go_at_call 6; (with_reducible refine (c0 _ (HRB.out _ HB.out)).mono ?_); rintro e u0 ⟨rfl, hb⟩; have B0 := Lib.hid (HB.out.trans (hb.mono HB.out.size)); clear hb c0)
    | (go_at_call 5; (with_reducible refine (d9 _).mono ?_); rintro e u1 ⟨rfl, hb⟩; have B1 := Lib.hid (B0.out.trans (hb.mono B0.out.size)); clear hb d9))
  go_ret
  exact ⟨rfl, B1.out⟩
theorem waits_at {Q : List It} {j : Nat} (h : j < Q.length) : (waits Q).take (j + 1) = (waits Q).take j ++ [⟨(Q.getD j Queue.z).id, 0, 0⟩] := by
  unfold waits
  rw [take_snoc az (by simpa using h)]
  simp [List.getD, h]
theorem kept_more {w w' : World} (h : Kept [79] w w') : Kept [60, 79] w w' :=
  ⟨h.size, fun g o e ht => h.obj g o e fun cs t z eo hin => ht cs t z eo (by simp only [List.mem_singleton] at hin; simp [hin])⟩
set_option maxRecDepth 100000 in
set_option maxHeartbeats 8000000 in
theorem once_few {PW : Pw} (P : Way14 PW) (W : World) (c : Cf) (p : Option Addr) (k : Nat) (p' : Option Addr) (k' : Nat) (l : List Ac) (ha : ActsAt W p' l) (hn : ∀ a ∈ l, AcNum a) (hz : c.zs.length ≤ 80) (hl : l.length ≤ 80) (hr : RatesB W.heap.size W p c.zs) (hc : CfNum c) (hk : c.check = 0) :
    Calls Tryz.prog 4 #[c.val p k, .slice p' l.length k'] W fun e w' => e = .returned (.bool true) ∧ Below W.heap.size W w' := by
  obtain ⟨q0, q16⟩ := check_room hk
  have hb0 := lay W (.cells #[.int .i64 c.n, .int .i64 c.sk, .int .i64 c.tl, .int .i64 c.va, .int .i64 c.lo, .int .i64 c.he, .int .i64 c.ke, .int .i64 c.qu, .slice p c.zs.length k] 24)
  obtain ⟨WB, hWB⟩ : ∃ WB, WB = W.alloc (.cells #[.int .i64 c.n, .int .i64 c.sk, .int .i64 c.tl, .int .i64 c.va, .int .i64 c.lo, .int .i64 c.he, .int .i64 c.ke, .int .i64 c.qu, .slice p c.zs.length k] 24) := ⟨_, rfl⟩
  have HB : Hid (Below W.heap.size W WB) := by rw [hWB]; exact Lib.hid hb0
  have hrW : RatesB WB.heap.size WB p c.zs := by
    rcases hr with hr | ⟨b, o, e, hlt, hcs⟩
    · exact .inl hr
    · exact .inr ⟨b, o, e, Nat.lt_of_lt_of_le hlt HB.out.size, fun i hi => ⟨(HB.out.cell (p := ⟨b, _, none⟩) hlt).trans (hcs i hi).1, (HB.out.cell (p := ⟨b, _, none⟩) hlt).trans (hcs i hi).2⟩⟩
  have haW := ha.below HB.out
  have c0 := P.new c p k WB hrW (by omega) hc hk
  have HA := Lib.hid haW
  have HP := Lib.hid P
  have d9 := Lib.hid (fun u => alive_way P u)
  have GF := Lib.hid (fun (j : Nat) (hj : j ≤ l.length) => st_good q0 (nameds l) (nameds_num hn (by omega)) j (by rw [nameds_len]; omega))
  have STP := Lib.hid (fun (q j : Nat) (hj : j < l.length) (u : World) (hu : PW WB.heap.size u q c (st c (nameds l) j)) (hs : WB.heap.size ≤ u.heap.size) => step_way P hu hs (GF.out j (by omega)).1 (good_few (GF.out j (by omega)).1 (GF.out j (by omega)).2 q16 (by omega)) (named (l.getD j za) j) (named_num (hn _ (by simp [List.getD, hj])) (by omega)))
  have STS := Lib.hid (fun (j : Nat) (hj : j < l.length) => show st c (nameds l) (j + 1) = (actOf c (st c (nameds l) j) (named (l.getD j za) j)).1 from by rw [st_succ c (nameds l) (by rw [nameds_len]; exact hj), nameds_at hj])
  have TLS := Lib.hid (fun (j : Nat) (hj : j < l.length) => show told c (nameds l) (j + 1) = told c (nameds l) j ++ (actOf c (st c (nameds l) j) (named (l.getD j za) j)).2.1 from by rw [told, nameds_at hj])
  have TLN := Lib.hid (fun (j : Nat) (hj : j ≤ l.length) => show (told c (nameds l) j).length ≤ 100 from by
    have h1 := (once_all q0 hn (by omega) j hj).length_eq
    have h2 := asked_len l j
    simp only [List.length_append, ids, List.length_map] at h1
    omega)
  have ASK := Lib.hid (fun (j : Nat) => show (asked l (j + 1)).length = if (l.getD j za).kind % 10 < 4 then (asked l j).length + 1 else (asked l j).length from by
    have e : asked l (j + 1) = if asks (l.getD j za) then (j : Int) :: asked l j else asked l j := rfl
    rw [e]
    by_cases hA : asks (l.getD j za)
    · rw [if_pos hA, if_pos (show (l.getD j za).kind % 10 < 4 from hA)]; rfl
    · rw [if_neg hA, if_neg (show ¬ (l.getD j za).kind % 10 < 4 from hA)])
  have ASN := Lib.hid (asked_len l)
  have KND := Lib.hid (fun (j : Nat) (hj : j < l.length) => (hn (l.getD j za) (by simp [List.getD, hj])).1)
  have ST0 := Lib.hid (st_zero c (nameds l))
  have WAI := Lib.hid (fun (q : Nat) (u : World) (hu : PW WB.heap.size u q c (st c (nameds l) l.length)) => P.waiting hu (GF.out l.length (Nat.le_refl _)).1 (good_few (GF.out l.length (Nat.le_refl _)).1 (GF.out l.length (Nat.le_refl _)).2 q16 (by omega)))
  have WHL := Lib.hid (show (told c (nameds l) l.length ++ waits (st c (nameds l) l.length).Q).length = (asked l l.length).length from whole_len q0 hn (by omega))
  have WHO := Lib.hid (fun (j : Nat) (hj : j < (told c (nameds l) l.length ++ waits (st c (nameds l) l.length).Q).length) => show cnt ((told c (nameds l) l.length ++ waits (st c (nameds l) l.length).Q).getD j az).id (told c (nameds l) l.length ++ waits (st c (nameds l) l.length).Q) = 1 ∧ ∃ i : Nat, ((told c (nameds l) l.length ++ waits (st c (nameds l) l.length).Q).getD j az).id = (i : Int) ∧ i < l.length ∧ asks (l.getD i za) from whole_one q0 hn (by omega) hj)
  have hz2 : ¬ (80 : Int) < (c.zs.length : Int) := by omega
  have hl2 : ¬ (80 : Int) < (l.length : Int) := by omega
  rw [hWB] at c0
  clear P hr hrW hc hk ha haW hn hz hb0 q0 q16
  simp only [Cf.val] at *
  go_enter Tryz.func4, Tryz.ntmps4
  go_wp2_with (go_at_call 6; (with_reducible refine c0.mono ?_); rintro e u0 ⟨q, rfl, h0, hb⟩; rw [← hWB] at h0 hb; have H0 := Lib.hid h0; have B0 := Lib.hid hb; clear h0 hb c0)
  go_loopw [7, 8, 9] (fun y m i wr => ∃ (j n mm : Nat) (pa : Option Addr) (ka : Nat), j ≤ l.length ∧ i = .int .i64 (j : Int) ∧ m = .int .i64 (mm : Int) ∧ y = .slice pa n ka ∧ mm ≤ j ∧ Hid ((asked l j).length = mm) ∧ Hid ((told c (nameds l) j).length = n) ∧ Hid (PW WB.heap.size wr q c (st c (nameds l) j)) ∧ Hid (Kit.Own ans 79 WB.heap.size wr y (told c (nameds l) j)) ∧ Hid (Below WB.heap.size WB wr)) (fun _ _ i _ => l.length - (intOf i).toNat)
  case atStart => exact ⟨0, 0, 0, none, 0, by omega, rfl, rfl, rfl, by omega, Lib.hid rfl, Lib.hid rfl, by rw [ST0.out]; exact H0, Lib.hid (Kit.Own.none _ _ _ _), B0⟩
  case round =>
    obtain ⟨j, n, mm, pa, ka, hj, rfl, rfl, rfl, hmm, ham, htn, hpw, hown, hbw⟩ := hrel
    clear H0 B0
    by_cases hlt : j < l.length
    · have hlt' : (j : Int) < (l.length : Int) := by omega
      obtain ⟨b, o, rfl, hat⟩ := acts_at (by have := HA.out; exact this) hlt
      obtain ⟨k0, k1, k2, k3, k4, k5, k6, k7, k8, k9, k10, k11, k12⟩ := hat.below hbw.out
      have R1 := Lib.hid (STP.out q j hlt)
      have HS := Lib.hid (STS.out j hlt)
      have HT := Lib.hid (TLS.out j hlt)
      have HTN := Lib.hid (TLN.out j (by omega))
      have HTN2 := Lib.hid (TLN.out (j + 1) (by omega))
      have HAS := Lib.hid (ASK.out j)
      obtain ⟨kk0, kk1⟩ := KND.out j hlt
      have hmod : 0 ≤ (l.getD j za).kind % 10 ∧ (l.getD j za).kind % 10 ≤ 9 := by omega
      generalize st c (nameds l) j = s at *
      generalize told c (nameds l) j = TL at *
      generalize l.getD j za = a at *
      generalize actOf c s (named a j) = RR at *
      obtain ⟨T, L, nn⟩ := RR
      simp only at R1 HS HT
      have hll : n + L.length ≤ 100 := by have h1 := HTN2.out; rw [HT.out, List.length_append, htn.out] at h1; exact h1
      clear STP STS TLS TLN ASK KND ST0 GF HA hat
      have HBX := Lib.hid (lay wr (actBox (named a j)))
      obtain ⟨kind, ⟨ri, rk, rc, rs, rw'⟩, ⟨xk, xg, xa, xs, xt⟩, why, now⟩ := a
      simp only [actVal, actBox, named] at *
      by_cases hq : kind % 10 < 4
      · have HAJ := Lib.hid (show (asked l (j + 1)).length = mm + 1 by rw [HAS.out, if_pos hq, ham.out])
        clear HAS
        go_wp2_with (first
          | (go_at_call 8; (with_reducible refine (R1.out _ (HP.out.below hpw.out HBX.out) (Nat.le_trans hbw.out.size HBX.out.size)).mono ?_); rintro e u2 ⟨y2, rfl, hs, hm⟩; have H2 := Lib.hid hm.pw; have O2 := Lib.hid (Kit.Own.off (hown.out.on HBX.out) hm.off (by simp [mine])); have W2 := Lib.hid (hbw.out.trans ((HBX.out.mono hbw.out.size).trans hm.below)); obtain ⟨po, ko, rfl, lo, -, no⟩ := hs; have LO := Lib.hid lo; have NO := Lib.hid no; clear lo no hm R1)
          | (at_builtin; refine pushes_at laidA rfl _ _ rfl WB.heap.size (.slice pa n ka) rfl TL n htn.out O2.out W2.out.size L L.length ko po rfl rfl LO.out NO.out (by omega) ?_; intro p6 c6 w6 R6 K6 B6))
        go_roundw
        case rel => exact ⟨j + 1, n + L.length, mm + 1, p6, c6, by omega, by go_num, by go_num, rfl, by omega, HAJ, Lib.hid (by rw [HT.out, List.length_append, htn.out]), by rw [HS.out]; exact Lib.hid (HP.out.kept H2.out (kept_more K6) B6), by rw [HT.out]; exact R6, Lib.hid (W2.out.trans B6)⟩
        case measure => simp only [intOf]; omega
      · have HAJ := Lib.hid (show (asked l (j + 1)).length = mm by rw [HAS.out, if_neg hq, ham.out])
        clear HAS
        go_wp2_with (first
          | (go_at_call 8; (with_reducible refine (R1.out _ (HP.out.below hpw.out HBX.out) (Nat.le_trans hbw.out.size HBX.out.size)).mono ?_); rintro e u2 ⟨y2, rfl, hs, hm⟩; have H2 := Lib.hid hm.pw; have O2 := Lib.hid (Kit.Own.off (hown.out.on HBX.out) hm.off (by simp [mine])); have W2 := Lib.hid (hbw.out.trans ((HBX.out.mono hbw.out.size).trans hm.below)); obtain ⟨po, ko, rfl, lo, -, no⟩ := hs; have LO := Lib.hid lo; have NO := Lib.hid no; clear lo no hm R1)
          | (at_builtin; refine pushes_at laidA rfl _ _ rfl WB.heap.size (.slice pa n ka) rfl TL n htn.out O2.out W2.out.size L L.length ko po rfl rfl LO.out NO.out (by omega) ?_; intro p6 c6 w6 R6 K6 B6))
        go_roundw
        case rel => exact ⟨j + 1, n + L.length, mm, p6, c6, by omega, by go_num, rfl, rfl, by omega, HAJ, Lib.hid (by rw [HT.out, List.length_append, htn.out]), by rw [HS.out]; exact Lib.hid (HP.out.kept H2.out (kept_more K6) B6), by rw [HT.out]; exact R6, Lib.hid (W2.out.trans B6)⟩
        case measure => simp only [intOf]; omega
    · have hlt' : ¬ (j : Int) < (l.length : Int) := by omega
      obtain rfl : j = l.length := by omega
      have hnl : n ≤ 100 := by rw [← htn.out]; exact TLN.out _ (Nat.le_refl _)
      have HQL := Lib.hid (show n + (st c (nameds l) l.length).Q.length = mm from by have h1 := WHL.out; rw [List.length_append, htn.out, ham.out] at h1; simpa [waits] using h1)
      generalize st c (nameds l) l.length = S at *
      generalize told c (nameds l) l.length = TL at *
      have R1 := Lib.hid (WAI.out q _ hpw.out)
      clear STP STS TLS TLN ASK ST0 GF WAI ASN
      go_wp2_with (go_at_call 13; (with_reducible refine R1.out.mono ?_); rintro e u2 ⟨p2, k2, rfl, hp, hy, hb⟩; have P2 := Lib.hid hp; have Y2 := Lib.hid hy; have O2 := Lib.hid (hown.out.on hb); have W2 := Lib.hid (hbw.out.trans (hb.mono hbw.out.size)); clear hp hy hb R1)
      have HTL := Lib.hid (show (TL ++ (waits S.Q).take 0).length = n from by rw [List.take_zero, List.append_nil]; exact htn.out)
      have O3 := Lib.hid (show Kit.Own ans 79 WB.heap.size u2 (.slice pa n ka) (TL ++ (waits S.Q).take 0) from by rw [List.take_zero, List.append_nil]; exact O2.out)
      have WTS := Lib.hid (fun (j' : Nat) (hj' : j' < S.Q.length) => waits_at hj')
      have WALL := Lib.hid (show TL ++ waits S.Q = TL ++ (waits S.Q).take S.Q.length from by rw [List.take_of_length_le (by simp [waits])])
      clear hown htn hpw O2
      generalize S.Q = Q at *
      go_loopw [7, 14] (fun y i wr => ∃ (j' n' : Nat) (pa' : Option Addr) (ka' : Nat), j' ≤ Q.length ∧ i = .int .i64 (j' : Int) ∧ y = .slice pa' n' ka' ∧ n' = n + j' ∧ Hid ((TL ++ (waits Q).take j').length = n') ∧ Hid (Kit.Own ans 79 WB.heap.size wr y (TL ++ (waits Q).take j')) ∧ Hid (Lies Queue.item wr p2 Q) ∧ Hid (Typed wr p2 77) ∧ Hid (Below WB.heap.size WB wr)) (fun _ i _ => Q.length - (intOf i).toNat)
      case atStart => exact ⟨0, n, pa, ka, by omega, rfl, rfl, rfl, HTL, O3, P2, Y2, W2⟩
      case round =>
        obtain ⟨j', n', pa', ka', hj', rfl, rfl, hn', hln, ho, hli, hty, hbw'⟩ := hrel
        clear HTL O3 P2 Y2 W2
        by_cases hlt2 : j' < Q.length
        · have hlt2' : (j' : Int) < (Q.length : Int) := by omega
          obtain ⟨b2, o2, rfl, hat2⟩ := Queue.lies_at hli.out hlt2
          obtain ⟨x0, -⟩ := Queue.at5 hat2
          have HWT := Lib.hid (WTS.out j' hlt2)
          have hmm2 := HQL.out
          have HNJ := Lib.hid (show n' + 1 = n + (j' + 1) from by omega)
          have hn200 : n' ≤ 200 := by omega
          have hQ100 : Q.length ≤ 100 := by omega
          clear hn' hmm2
          generalize (Q.getD j' Queue.z).id = xx at *
          clear hat2 WHL WHO HA KND d9
          go_wp2_with (at_builtin; refine push_at laidA rfl _ _ rfl WB.heap.size wr (.slice pa' n' ka') rfl (TL ++ (waits Q).take j') n' hln.out ho.out hbw'.out.size (lay wr _) wr.heap.size ⟨xx, 0, 0⟩ rfl (heap_alloc_new _ _) (by omega) ?_; intro p6 c6 w6 R6 K6 B6)
          go_roundw
          case rel => exact ⟨j' + 1, n' + 1, p6, c6, by omega, by go_num, rfl, HNJ.out, Lib.hid (by rw [HWT.out, ← List.append_assoc, List.length_append, hln.out]; rfl), by rw [HWT.out, ← List.append_assoc]; exact R6, Lib.hid (lies_kept (hli.out.below (lay wr _)) (hty.out.below (lay wr _)) K6 (by decide)), Lib.hid ((hty.out.below (lay wr _)).kept K6 (by decide)), Lib.hid (hbw'.out.trans (((lay wr _).mono hbw'.out.size).trans B6))⟩
          case measure => simp only [intOf]; omega
        · have hlt2' : ¬ (j' : Int) < (Q.length : Int) := by omega
          obtain rfl : j' = Q.length := by omega
          have hmm2 := HQL.out
          obtain rfl : n' = mm := by omega
          have hne : ((n' : Int) != (n' : Int)) = false := by simp
          have hn100 : n' ≤ 100 := by omega
          clear hmm2 hn'
          go_wp2
          have HO5 := ho.out
          rw [← WALL.out] at HO5
          have hlz := hln.out
          rw [← WALL.out] at hlz
          obtain ⟨pz, kz, ez, hlies⟩ := Kit.Own.lies HO5
          simp only [Value.slice.injEq] at ez
          obtain ⟨rfl, -, rfl⟩ := ez
          have LZ := Lib.hid hlies
          have HZ := Lib.hid hlz
          have hz100 : n' ≤ 1000 := by omega
          clear ho hln HO5 hlz hlies WALL WTS hli hty
          generalize TL ++ waits Q = Z at *
          generalize wr = w5 at *
          go_loopw [15] (fun i wr => ∃ j3 : Nat, j3 ≤ n' ∧ i = .int .i64 (j3 : Int) ∧ Hid (Below w5.heap.size w5 wr)) (fun i _ => n' - (intOf i).toNat)
          case atStart => exact ⟨0, by omega, rfl, Lib.hid (Below.refl _ _)⟩
          case round =>
            obtain ⟨j3, hj3, rfl, hb3⟩ := hrel
            by_cases hlt3 : j3 < n'
            · have hlt3' : (j3 : Int) < (n' : Int) := by omega
              obtain ⟨b4, o4, rfl, hat4⟩ := ans_at (LZ.out.below hb3.out) (show j3 < Z.length by rw [HZ.out]; exact hlt3)
              obtain ⟨x0, -, -⟩ := at3 hat4
              obtain ⟨hc1, i4, hid4, hi4, hk4⟩ := WHO.out j3 (by rw [HZ.out]; exact hlt3)
              obtain ⟨b, o, rfl, hact⟩ := acts_at (by have := HA.out; exact this) hi4
              have RC := Lib.hid (fun (u : World) (hu : Lies ans u (some ⟨b4, o4, none⟩) Z) => show Calls Tryz.prog 26 #[.slice (some ⟨b4, o4, none⟩) n' ka', .int .i64 (i4 : Int)] u fun e w' => e = .returned (.int .i64 1) ∧ Below u.heap.size u w' from by
                have h1 := count_any (d := ka') hu (by rw [HZ.out]; exact hz100) (Z.getD j3 az).id
                rw [hc1, HZ.out, hid4] at h1
                exact h1)
              rw [hid4] at x0
              have HK4 := Lib.hid (fun (u : World) (hu : Below WB.heap.size WB u) => (hact.below hu).k0)
              unfold asks at hk4
              obtain ⟨kk0, kk1⟩ := KND.out i4 hi4
              clear hid4 hc1 hat4 hact WHL WHO HA KND
              generalize (l.getD i4 za).kind = kd at *
              have g1 : ¬ (i4 : Int) < 0 := by omega
              have g2 : ¬ (l.length : Int) ≤ (i4 : Int) := by omega
              have g3 : ¬ (4 : Int) ≤ kd % 10 := by omega
              have hB5 := Lib.hid (hbw'.out.trans (hb3.out.mono hbw'.out.size))
              have HLZ := Lib.hid (LZ.out.below hb3.out)
              go_wp2_with (go_at_call 26; (with_reducible refine (RC.out _ HLZ.out).mono ?_); rintro e u8 ⟨rfl, hb⟩; have B8 := Lib.hid (hb3.out.trans (hb.mono hb3.out.size)); have y0 := HK4.out _ (hB5.out.trans (hb.mono hB5.out.size)); clear hb RC)
              go_roundw
              case rel => exact ⟨j3 + 1, by omega, by go_num, B8⟩
              case measure => simp only [intOf]; omega
            · have hlt3' : ¬ (j3 : Int) < (n' : Int) := by omega
              clear WHL WHO HA KND LZ HZ
              go_wp2_with (go_at_call 5; (with_reducible refine (d9.out _).mono ?_); rintro e u9 ⟨rfl, hb⟩; have B9 := Lib.hid (HB.out.trans ((hbw'.out.trans ((hb3.out.trans (hb.mono hb3.out.size)).mono hbw'.out.size)).mono HB.out.size)); clear hb d9)
              go_ret
              exact ⟨rfl, B9.out⟩
/-- Of any configuration, and any acts. -/
theorem once_any {PW : Pw} (P : Way14 PW) (W : World) (c : Cf) (p : Option Addr) (k : Nat) (p' : Option Addr) (k' : Nat) (l : List Ac) (hr : RatesB W.heap.size W p c.zs) (hc : CfNum c) (ha : ActsAt W p' l) (hn : ∀ a ∈ l, AcNum a) :
    Calls Tryz.prog 4 #[c.val p k, .slice p' l.length k'] W fun e w' => e = .returned (.bool true) ∧ Below W.heap.size W w' := by
  by_cases hz : c.zs.length ≤ 80
  · by_cases hl : l.length ≤ 80
    · by_cases hk : c.check = 0
      · exact once_few P W c p k p' k' l ha hn hz hl hr hc hk
      · exact once_no P W c p k p' k' l.length hz hl hr hc hk
    · exact once_many P W c p k p' k' l.length (.inr (by omega))
  · exact once_many P W c p k p' k' l.length (.inl (by omega))
end Go.Proofs.YtlbpeeelgpjciaaGreat.Edge
