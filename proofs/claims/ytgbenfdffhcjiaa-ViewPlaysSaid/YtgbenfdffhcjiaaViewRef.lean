/-
  The document's view: Live, Next, Hear, New. Of up to 64 nodes.
-/
import Derived.Test.YtgbenfdffhcjiaaViewWords
import Derived.Test.YtgbenfdffhcjiaaClockRef
import Derived.Deep.RegionHeld3
import Derived.Deep.QuietTactic
import Derived.BigQuiet
namespace Go.Proofs.Ytgbenfdffhcjiaa.View
open Go.RowKit
open _root_.Go.Proofs.Ytgbenfdffhcjiaa.Codec (lt_of_heap frozen_of heap_set below_new)
open _root_.Go.Proofs.Ytgbenfdffhcjiaa.Kit (Enc Lies Own At Kept Laid Off cell_on lt_heap take_snoc below_drewN ints)
open _root_.Go.Proofs.Ytgbenfdffhcjiaa.Ring (put has okRing)
open _root_.Go.Proofs.Ytgbenfdffhcjiaa.Clock (cpassed)

theorem undrewV {w w' : World} (h : Below w.drew.heap.size w.drew w') : Below w.heap.size w w' := ⟨h.os, h.tape, h.output, h.size, h.block⟩
theorem laidI : Laid Try.prog ints 3 35 := ⟨Try.underlying35, .int .i64 0, 8, by kernel_rfl, rfl, by decide⟩
section
variable {F : Nat → Prop} {w : World} {B v : Nat} {V : Vw}
set_option maxRecDepth 100000 in
set_option maxHeartbeats 4000000 in
theorem rlive_any (h : Rv F B w v V) (hl : V.l.length ≤ 64) (now : Int) :
    Calls Try.prog 13 #[.pointer (some ⟨v, 0, none⟩), .int .i64 now] w fun e w' => e = .returned (.int .u64 (live V now)) ∧ Below w.heap.size w w' := by
  have HV := Lib.hid h
  have HS := Lib.hid (show ∀ j, liveTo V now (j + 1) = if isLive V now j = true then put (liveTo V now j) (j : Int) else liveTo V now j from fun _ => rfl)
  have HP := Lib.hid (fun a u => Clock.rpassed_any a now V.span u)
  have HW := Lib.hid (fun j i u => Ring.refwith_any (liveTo V now j) i u (liveTo_lo V now j) (liveTo_hi V now j))
  have HI := Lib.hid (show ∀ j, isLive V now j = (decide ((j : Int) = V.node) || !cpassed (V.l.getD j 0) now V.span) from fun _ => rfl)
  have H0 := Lib.hid (show liveTo V now 0 = 0 from rfl)
  unfold live
  generalize hK : (fun j => liveTo V now j) = KS
  have hK' : ∀ j, liveTo V now j = KS j := fun j => by rw [← hK]
  simp only [hK'] at HS HW H0 ⊢
  clear h hK hK'
  go_enter Try.func13, Try.ntmps13
  go_wp2
  go_loopw [5, 6] (fun s i wr => ∃ j : Nat, j ≤ V.l.length ∧ i = .int .i64 (j : Int) ∧ s = .int .u64 (KS j) ∧ Hid (Below w.heap.size w wr)) (fun _ i _ => V.l.length - (intOf i).toNat)
  case atStart => exact ⟨0, by omega, rfl, by rw [H0.out], Lib.hid (Below.refl _ _)⟩
  case round =>
    obtain ⟨j, hj, rfl, rfl, hbw⟩ := hrel
    obtain ⟨p, c, k0, k1, k2, -, kl⟩ := (HV.out.below hbw.out).cell
    have HLI := Lib.hid kl
    clear kl HV
    by_cases hlt : j < V.l.length
    · have hlt' : (j : Int) < (V.l.length : Int) := by omega
      have hst := HS.out j
      rw [HI.out j] at hst
      obtain ⟨b, o, rfl, ka⟩ := ints_at HLI.out hlt
      have hp := fun u => (HP.out (V.l.getD j 0) u).mono fun e w' (h : _ ∧ _) => And.intro h.1 h.2.symm
      have hw := HW.out j (j : Int)
      generalize V.l.getD j 0 = a at *
      generalize cpassed a now V.span = b1 at *
      by_cases hn : (j : Int) = V.node
      · have hn2 : ((j : Int) == V.node) = true := by simpa using hn
        rw [if_pos (by simp [hn])] at hst
        have HST := Lib.hid hst
        clear hst HS HI HP HW HLI hn
        generalize V.node = nd at *
        go_wp2
        go_quiet ((go_at_call 23; exact Calls.quiet_of_same (hp _)))
        go_wp2_with (first
          | (go_at_call 24; (with_reducible refine (hw _).mono ?_); rintro e u1 ⟨rfl, rfl⟩))
        go_roundw
        case rel => exact ⟨j + 1, by omega, by go_num, by rw [HST.out], Lib.hid (hbw.out.trans ((below_drewN _ _).mono hbw.out.size))⟩
        case measure => simp only [intOf]; omega
      · have hn2 : ((j : Int) == V.node) = false := by simpa using hn
        cases b1
        · rw [if_pos (by simp)] at hst
          have HST := Lib.hid hst
          clear hst HS HI HP HW HLI hn
          generalize V.node = nd at *
          go_wp2
          go_quiet ((go_at_call 23; exact Calls.quiet_of_same (hp _)))
          go_wp2_with (first
            | (go_at_call 24; (with_reducible refine (hw _).mono ?_); rintro e u1 ⟨rfl, rfl⟩))
          go_roundw
          case rel => exact ⟨j + 1, by omega, by go_num, by rw [HST.out], Lib.hid (hbw.out.trans ((below_drewN _ _).mono hbw.out.size))⟩
          case measure => simp only [intOf]; omega
        · rw [if_neg (by simp [hn])] at hst
          have HST := Lib.hid hst
          clear hst HS HI HP HW HLI hn
          generalize V.node = nd at *
          go_wp2
          go_quiet ((go_at_call 23; exact Calls.quiet_of_same (hp _)))
          go_wp2_with (first
            | (go_at_call 24; (with_reducible refine (hw _).mono ?_); rintro e u1 ⟨rfl, rfl⟩))
          go_roundw
          case rel => exact ⟨j + 1, by omega, by go_num, by rw [HST.out], Lib.hid (hbw.out.trans ((below_drewN _ _).mono hbw.out.size))⟩
          case measure => simp only [intOf]; omega
    · have hlt' : ¬ (j : Int) < (V.l.length : Int) := by omega
      obtain rfl : j = V.l.length := by omega
      go_wp2
      go_ret
      exact ⟨rfl, hbw.out⟩
set_option maxRecDepth 100000 in
theorem rnext_any (h : Rv F B w v V) (hl : V.l.length ≤ 64) (now : Int) :
    Calls Try.prog 15 #[.pointer (some ⟨v, 0, none⟩), .int .i64 now] w fun e w' => e = .returned (.int .i64 (next V now)) ∧ Below w.heap.size w w' := by
  have HL := Lib.hid (rlive_any h hl now)
  have HN := Lib.hid (fun u => refnext_set (live V now) (V.l.length : Int) V.node u (liveTo_lo V now _))
  have HC := Lib.hid (fun u (hu : Below w.heap.size w u) => (h.below hu).cell)
  unfold next
  obtain ⟨p, c, k0, k1, k2, -⟩ := h.cell
  have HLW := Lib.hid (fun u (hu : Below w.heap.size w u) => rlive_any (h.below hu) hl now)
  clear h HL
  go_enter Try.func15, Try.ntmps15
  go_wp2
  go_region_held3 (fun u => u.cell? ⟨v, 0, none⟩ = some (.int .i64 V.node) ∧ u.cell? ⟨v, 2, none⟩ = some (.slice p V.l.length c)) (first | exact ⟨k0, k2⟩ | assumption) (first
    | (go_at_call 13; (with_reducible refine (HLW.out _ (Below.refl _ _).drew).mono ?_); rintro e u1 ⟨rfl, hb⟩; have hb1 := Lib.hid (undrewV hb); have hs1 := And.intro (cell_on k0 hb1.out) (cell_on k2 hb1.out); clear hb)
    | (go_at_call 26; (with_reducible refine (HN.out _).mono ?_); rintro e u2 ⟨rfl, rfl⟩))
  go_wp2
  go_ret
  exact ⟨rfl, hb1.out⟩
end
end Go.Proofs.Ytgbenfdffhcjiaa.View
