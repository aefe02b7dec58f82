/-
  The program's Live and Next, and each of a view that is none; New. Of up to 64 nodes.
-/
import Derived.Test.YtgbenfdffhcjiaaVwAsk
namespace Go.Proofs.Ytgbenfdffhcjiaa.View
open Go.RowKit
open _root_.Go.Proofs.Ytgbenfdffhcjiaa.Codec (lt_of_heap frozen_of heap_set below_new)
open _root_.Go.Proofs.Ytgbenfdffhcjiaa.Kit (Enc Lies Own At Kept Laid Off cell_on lt_heap take_snoc below_drewN ints)
open _root_.Go.Proofs.Ytgbenfdffhcjiaa.Ring (has put all okRing has_all all_lo all_hi)
open _root_.Go.Proofs.Ytgbenfdffhcjiaa.Clock (cpassed)

theorem undrewP {w w' : World} (h : Below w.drew.heap.size w.drew w') : Below w.heap.size w w' := ⟨h.os, h.tape, h.output, h.size, h.block⟩
section
variable {F : Nat → Prop} {w : World} {B q : Nat} {V : Vw}
theorem Pv.on {w' : World} (h : Pv F B w q V) (hb : Below w.heap.size w w') : Pv F B w' q V := h.turned (.of_below hb) fun _ hg => .inl hg
set_option maxRecDepth 100000 in
set_option maxHeartbeats 4000000 in
theorem plive_any (h : Pv F B w q V) (now : Int) : Calls Try.prog 12 #[.pointer (some ⟨q, 0, none⟩), .int .i64 now] w fun e w' => e = .returned (.int .u64 (live V now)) ∧ Below w.heap.size w w' := by
  have HV := Lib.hid (fun u (hb : Below w.heap.size w u) => (h.on hb).cell)
  have h64 : V.l.length ≤ 64 := h.2.2.1.1
  have HZ := Lib.hid (size_any h)
  have HS := Lib.hid (show ∀ j, liveTo V now (j + 1) = if isLive V now j = true then put (liveTo V now j) (j : Int) else liveTo V now j from fun _ => rfl)
  have HP := Lib.hid (fun a u => Clock.passed_any a now V.span u)
  have HW := Lib.hid (fun j i u => Ring.with_any (liveTo V now j) i u (liveTo_lo V now j) (liveTo_hi V now j))
  have HI := Lib.hid (show ∀ j, isLive V now j = (decide ((j : Int) = V.node) || !cpassed (V.l.getD j 0) now V.span) from fun _ => rfl)
  have H0 := Lib.hid (show liveTo V now 0 = 0 from rfl)
  unfold live
  generalize hK : (fun j => liveTo V now j) = KS
  have hK' : ∀ j, liveTo V now j = KS j := fun j => by rw [← hK]
  simp only [hK'] at HS HW H0 ⊢
  clear h hK hK'
  go_enter Try.func12, Try.ntmps12
  go_wp2_with (go_at_call 19; (with_reducible refine HZ.out.mono ?_); rintro e u1 ⟨rfl, rfl⟩)
  go_loopw [5, 9] (fun s i wr => ∃ j : Nat, j ≤ V.l.length ∧ i = .int .i64 (j : Int) ∧ s = .int .u64 (KS j) ∧ Hid (Below w.heap.size w wr)) (fun _ i _ => V.l.length - (intOf i).toNat)
  case atStart => exact ⟨0, by omega, rfl, by rw [H0.out], Lib.hid (Below.refl _ _)⟩
  case round =>
    obtain ⟨j, hj, rfl, rfl, hbw⟩ := hrel
    obtain ⟨g, k0, k1, k2, hr⟩ := HV.out wr hbw.out
    by_cases hlt : j < V.l.length
    · have hlt' : (j : Int) < (V.l.length : Int) := by omega
      have hst := HS.out j
      rw [HI.out j] at hst
      have kr := hr.cell hlt
      have hp := HP.out (V.l.getD j 0)
      have hw := HW.out j (j : Int)
      generalize V.l.getD j 0 = a at *
      generalize cpassed a now V.span = b1 at *
      clear hr
      by_cases hn : (j : Int) = V.node
      · have hn2 : ((j : Int) == V.node) = true := by simpa using hn
        rw [if_pos (by simp [hn])] at hst
        have HST := Lib.hid hst
        clear hst HS HI HP HW HV HZ hn hp
        generalize V.node = nd at *
        go_wp2
        go_quiet (fail)
        go_wp2_with (first
          | (go_at_call 22; (with_reducible refine (hw _).mono ?_); rintro e u1 ⟨rfl, rfl⟩))
        go_roundw
        case rel => exact ⟨j + 1, by omega, by go_num, by rw [HST.out], Lib.hid (hbw.out.trans ((below_drewN _ _).mono hbw.out.size))⟩
        case measure => simp only [intOf]; omega
      · have hn2 : ((j : Int) == V.node) = false := by simpa using hn
        have HST := Lib.hid (show KS (j + 1) = bif b1 then KS j else put (KS j) (j : Int) by rw [hst]; cases b1 <;> simp [hn])
        cases b1
        all_goals
          clear hst HS HI HP HW HV HZ hn
          generalize V.node = nd at *
          generalize V.span = sp at *
          go_wp2
          go_region_held3 (fun u => u.cell? ⟨q, 0, none⟩ = some (.int .i64 nd) ∧ u.cell? ⟨q, 1, none⟩ = some (.int .i64 sp) ∧ u.cell? ⟨q, 2, none⟩ = some (.slice (some ⟨g, 0, none⟩) V.l.length V.l.length) ∧ u.cell? ⟨g, j, none⟩ = some (.int .i64 a)) (first | exact ⟨k0, k1, k2, kr⟩ | assumption) (first
            | (go_at_call 21; (with_reducible refine (hp _).mono ?_); rintro e u1 ⟨rfl, hb⟩; have hb1 := Lib.hid (undrewP hb); have hs1 := And.intro (cell_on k0 hb1.out) (And.intro (cell_on k1 hb1.out) (And.intro (cell_on k2 hb1.out) (cell_on kr hb1.out))); clear hb))
          go_wp2_with (first
            | (go_at_call 22; (with_reducible refine (hw _).mono ?_); rintro e u2 ⟨rfl, rfl⟩))
          go_roundw
          case rel => exact ⟨j + 1, by omega, by go_num, congrArg (Value.int .u64) HST.out.symm, Lib.hid (hbw.out.trans (hb1.out.mono hbw.out.size))⟩
          case measure => simp only [intOf]; omega
    · have hlt' : ¬ (j : Int) < (V.l.length : Int) := by omega
      obtain rfl : j = V.l.length := by omega
      clear HV hr
      go_wp2
      go_ret
      exact ⟨rfl, hbw.out⟩
theorem pnlive_any (now : Int) (w : World) : Calls Try.prog 12 #[.pointer none, .int .i64 now] w fun e w' => e = .returned (.int .u64 0) ∧ Below w.heap.size w w' := by
  have HZ := Lib.hid (nsize_any w)
  go_enter Try.func12, Try.ntmps12
  go_wp2_with (go_at_call 19; (with_reducible refine HZ.out.mono ?_); rintro e u1 ⟨rfl, rfl⟩)
  go_loopw [5, 9] (fun s i wr => i = .int .i64 0 ∧ s = .int .u64 0 ∧ Hid (Below w.heap.size w wr)) (fun _ i _ => 0)
  case atStart => exact ⟨rfl, rfl, Lib.hid (Below.refl _ _)⟩
  case round =>
    obtain ⟨rfl, rfl, hbw⟩ := hrel
    go_wp2
    go_ret
    exact ⟨rfl, hbw.out⟩
end
end Go.Proofs.Ytgbenfdffhcjiaa.View
