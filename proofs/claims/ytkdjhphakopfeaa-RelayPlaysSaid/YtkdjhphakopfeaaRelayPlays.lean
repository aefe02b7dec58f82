/-
  RelayPlays returns true of any acts, whatever the program's relay is, if its calls do what is asked of them.
-/
import Derived.Test.YtkdjhphakopfeaaRelayActs
import Derived.Test.YtkdjhphakopfeaaRelayAlive
namespace Go.Proofs.Ytkdjhphakopfeaa.Relay
open Go.RowKit
open _root_.Go.Proofs.Ytkdjhphakopfeaa.Codec (lt_of_heap frozen_of heap_set below_new Ints)
open _root_.Go.Proofs.Ytkdjhphakopfeaa.Frame (Fr Tk Tb Rw frameOk Lying frameVal fitsTk)
open _root_.Go.Proofs.Ytkdjhphakopfeaa.Kit (Kept Off cell_on below_drewN)

/-- The relay behind acts. -/
def runs (r : Rl) (l : List Ac) : Rl := l.foldl actOf r
theorem runs_next {l : List Ac} {j : Nat} (h : j < l.length) : runs r0 (l.take (j + 1)) = actOf (runs r0 (l.take j)) (l.getD j zA) := by
  have e : l.take (j + 1) = l.take j ++ [l.getD j zA] := by rw [List.take_add_one]; simp [List.getD, h]
  rw [e, runs, List.foldl_append]
  rfl
theorem runs_sent (l : List Ac) : ∀ (r : Rl), (runs r l).sent ≤ r.sent + l.length := by
  induction l with
  | nil => intro r; simp [runs]
  | cons a t ih =>
    intro r
    have h1 := ih (actOf r a)
    have h2 := sent_act r a
    have e : runs r (a :: t) = runs (actOf r a) t := rfl
    rw [e, List.length_cons]
    omega
theorem sent_few {l : List Ac} (h : l.length ≤ 60) (j : Nat) : (runs r0 (l.take j)).sent ≤ 60 := by
  have h1 := runs_sent (l.take j) r0
  have h2 : (l.take j).length ≤ l.length := by simp; omega
  have h3 : r0.sent = 0 := rfl
  omega
set_option maxRecDepth 100000 in
set_option maxHeartbeats 8000000 in
theorem plays_any {PW : Pw} (P : Way15 PW) (W : World) (p : Option Addr) (c : Nat) (l : List Ac) (ha : ActsAt W p l) (hn : ∀ a ∈ l, AcNum a) (hl : (l.length : Int) ≤ 9223372036854775807) :
    Calls Try.prog 3 #[.slice p l.length c] W fun e w' => e = .returned (.bool true) ∧ Below W.heap.size W w' := by
  have c0 := Lib.hid (fun u => P.new u)
  have cA := Lib.hid (fun u => alive_way P u)
  have cF := Lib.hid (acts_fit W p c l ha hl)
  have HA := Lib.hid ha
  have HN := Lib.hid hn
  have HP := Lib.hid P
  clear ha hn P
  go_enter Try.func3, Try.ntmps3
  go_wp2_with (first
    | (go_at_call 5; (with_reducible refine cF.out.mono ?_); rintro e u0 ⟨b, rfl, hF, hb⟩; have B0 := Lib.hid hb; have FF := Lib.hid hF; clear hb hF cF; cases b)
    | (go_at_call 6; (with_reducible refine (cA.out _).mono ?_); rintro e u1 ⟨rfl, hb⟩; have B1 := Lib.hid (B0.out.trans (hb.mono B0.out.size)); clear hb))
  · go_ret
    exact ⟨rfl, B1.out⟩
  obtain ⟨hl60, hfit⟩ : l.length ≤ 60 ∧ ∀ j, j < l.length → fitsTk (l.getD j zA).f.token = true := by first | exact FF.out rfl | exact FF.out trivial | exact FF.out
  have HF := Lib.hid hfit
  have HLY := Lib.hid (fun (j : Nat) (hj : j < l.length) => (HA.out.at hj))
  have RN := Lib.hid (fun (j : Nat) (hj : j < l.length) => runs_next hj)
  have RS := Lib.hid (sent_few hl60)
  clear FF hfit HA hl
  go_wp2_with (go_at_call 7; (with_reducible refine (c0.out _).mono ?_); rintro e u1 ⟨q, rfl, h0, hb⟩; have L0 := Lib.hid (show Rst PW u0 q u1.heap.size (runs r0 (l.take 0)) (runs r0 (l.take 0)) (u1.alloc (.cells #[.slice none 0 0, .int .i64 0] 30)) from ⟨HP.out.below h0 (lay _ _), ⟨hb.size, _, heap_alloc_new _ _, none, 0, rfl⟩, hb.alloc hb.size _⟩); clear h0 hb c0)
  go_loopw [6] (fun i wr => ∃ j : Nat, j ≤ l.length ∧ i = .int .i64 (j : Int) ∧ Hid (Rst PW u0 q u1.heap.size (runs r0 (l.take j)) (runs r0 (l.take j)) wr)) (fun i _ => l.length - (intOf i).toNat)
  case atStart => exact ⟨0, by omega, rfl, L0⟩
  case round =>
    obtain ⟨j, hj, rfl, L1⟩ := hrel
    clear L0
    by_cases hlt : j < l.length
    · have hlt' : (j : Int) < (l.length : Int) := by omega
      obtain ⟨b, o, rfl, ps, x, cs, c', h14, hly⟩ := HLY.out j hlt
      have BW := Lib.hid (B0.out.trans (L1.out.below.mono B0.out.size))
      obtain ⟨y0, y1, y2, y3, y4, y5, y6, y7, y8, y9, y10, y11, y12, y13⟩ := at14 h14 BW.out
      have HS := Lib.hid (fun u (hu : Rst PW u0 q u1.heap.size (runs r0 (l.take j)) (runs r0 (l.take j)) u) => step_way HP.out hu (Nat.le_trans (RS.out j) (by decide)) (l.getD j zA) (HN.out _ (by simp [List.getD, hlt])) (HF.out j hlt) ps x cs c' (lying_on hly B0.out))
      rw [← RN.out j hlt] at HS
      simp only [actVal] at HS
      have CS := Lib.hid (fun u (hu : Rst PW u0 q u1.heap.size (runs r0 (l.take (j + 1))) (runs r0 (l.take (j + 1))) u) => HP.out.sent hu.pw (Nat.le_trans (RS.out (j + 1)) (by decide)))
      clear h14 hly HF HLY RN RS HN
      generalize l.getD j zA = a at *
      generalize runs r0 (l.take j) = s at *
      generalize hs' : runs r0 (l.take (j + 1)) = s' at *
      have HS2 := Lib.hid hs'
      clear hs'
      have gn : ((s'.sent : Int) != (s'.sent : Int)) = false := by simp
      go_wp2_with (go_at_call 8; (with_reducible refine (HS.out _ L1.out).mono ?_); rintro e u2 ⟨rfl, h2⟩; have L2 := Lib.hid h2; obtain ⟨p2, d2, -, k2, -, -⟩ := h2.rd.cell; clear h2 HS)
      have L3 := Lib.hid (L2.out.on HP.out (Below.refl _ _).drew)
      go_region_held3 (fun u => u.cell? ⟨u1.heap.size, 1, none⟩ = some (.int .i64 (s'.sent : Int))) (first | assumption | exact k2) (first
        | (go_at_call 9; (with_reducible refine (CS.out _ L3.out).mono ?_); rintro e u4 ⟨rfl, hb⟩; have L4 := Lib.hid (L3.out.on HP.out hb); obtain ⟨-, -, -, k4, -, -⟩ := L4.out.rd.cell; clear hb CS))
      go_wp2
      go_roundw
      case rel => exact ⟨j + 1, by omega, by go_num, by rw [HS2.out]; exact L4⟩
      case measure => simp only [intOf]; omega
    · have hlt' : ¬ (j : Int) < (l.length : Int) := by omega
      have B1 := Lib.hid (B0.out.trans (L1.out.below.mono B0.out.size))
      have n1 := Lib.hid HP.out.nheld
      have n2 := Lib.hid HP.out.nhold
      have n3 := Lib.hid HP.out.nack
      have n4 := Lib.hid (HP.out.ndrop 9 0)
      have n5 := Lib.hid HP.out.nsent
      simp only [frameVal, noFr, List.length_nil] at n1 n2 n3
      clear L1 RN RS HLY HF HN HP
      go_wp2_with (first
        | (go_at_call 10; (with_reducible refine (n1.out _).mono ?_); rintro e u2 ⟨f, ps, q2, cs, c2, rfl, hb⟩; have B2 := Lib.hid ((B1.out.trans (hb.mono B1.out.size)).alloc (Nat.le_trans B1.out.size hb.size) (.cells #[.int .i64 f.kind, .int .i64 f.src, .int .i64 f.dst, .int .i64 f.gen, .int .i64 f.hop, .int .u64 f.bits, .int .i64 f.token.gen, .int .i64 f.token.hop, .slice ps f.token.stamps.length cs, .int .i64 f.token.table.start, .slice q2 f.token.table.rows.length c2] 41)); clear hb n1)
        | (go_at_call 6; (with_reducible refine (cA.out _).mono ?_); rintro e u3 ⟨rfl, hb⟩; have B3 := Lib.hid (B2.out.trans (hb.mono B2.out.size)); clear hb cA)
        | (go_at_call 11; (with_reducible refine (n2.out _).mono ?_); rintro e u4 ⟨rfl, hb⟩; have B4 := Lib.hid (B3.out.trans (hb.mono B3.out.size)); clear hb n2)
        | (go_at_call 12; (with_reducible refine (n3.out _).mono ?_); rintro e u5 ⟨rfl, hb⟩; have B5 := Lib.hid (B4.out.trans (hb.mono B4.out.size)); clear hb n3)
        | (go_at_call 13; (with_reducible refine (n4.out _).mono ?_); rintro e u6 ⟨rfl, hb⟩; have B6 := Lib.hid (B5.out.trans (hb.mono B5.out.size)); clear hb n4)
        | (go_at_call 9; (with_reducible refine (n5.out _).mono ?_); rintro e u7 ⟨rfl, hb⟩; have B7 := Lib.hid (B6.out.trans (hb.mono B6.out.size)); clear hb n5))
      go_ret
      exact ⟨rfl, B7.out⟩
end Go.Proofs.Ytkdjhphakopfeaa.Relay
