/-
  The program's Held, of tables whose rows rise.
-/
import Derived.Test.YtcnnepmhdccipaaLgGrant
import Derived.Test.YtcnnepmhdccipaaLgCompact
import Derived.Test.YtcnnepmhdccipaaMgA
namespace Go.Proofs.Ytcnnepmhdccipaa.Ledger
open Go.RowKit
open _root_.Go.Proofs.Ytcnnepmhdccipaa.Frame (Rw Tb noRow LeasesAt cell_on)
open _root_.Go.Proofs.Ytcnnepmhdccipaa.Codec (own_below own_lower lt_of_heap frozen_of heap_set)

/-- Numbers that rise are in order. -/
theorem srt_self {zs : List Int} (h : zs.Pairwise (· < ·)) : Ring.srt zs = zs := by
  unfold Ring.srt
  exact List.mergeSort_of_pairwise (List.Pairwise.imp (fun hab => decide_eq_true (by omega)) h)
theorem held_up {t : Tb} (h : Up t.rows) (node : Int) : (held t node).Pairwise (· < ·) := by
  unfold held heldOf
  exact List.pairwise_map.2 (List.Pairwise.sublist List.filter_sublist h)
set_option maxRecDepth 100000 in
set_option maxHeartbeats 2000000 in
theorem pheld_core (start : Int) (rows : List Rw) (p : Option Addr) (c : Nat) (node : Int) (w : World) (h : RowsAt w p rows) (hl : rows.length ≤ 1000)
    (hlent : ∀ u j, j < rows.length → ∀ p' c', LeasesAt u p' (rows.getD j noRow).out → Calls Try.prog 43 #[rowVal (rows.getD j noRow) p' c', .int .i64 node] u fun e u' => ∃ sm, e = .returned (.tuple #[.int .i64 sm, .bool (decide (0 ≤ outAt (rows.getD j noRow).out node))]) ∧ Below u.heap.size u u')
    (hsort : ∀ (u0 u : World) (v : Value), OwnI u0.heap.size u v (heldOf node rows) → Below u0.heap.size u0 u → Calls Try.prog 44 #[v] u fun e u' => e = .returned (.tuple #[]) ∧ (∃ p' c', v = .slice p' (heldOf node rows).length c' ∧ ∀ k, k < (heldOf node rows).length → ∃ b o, p' = some ⟨b, o, none⟩ ∧ u'.cell? ⟨b, o + k, none⟩ = some (.int .i64 ((heldOf node rows).getD k 0))) ∧ Below u0.heap.size u0 u')
    (hup : ∀ k, k + 1 < (heldOf node rows).length → (heldOf node rows).getD k 0 < (heldOf node rows).getD (k + 1) 0) :
    Calls Try.prog 17 #[.agg #[.int .i64 start, .slice p rows.length (c + rows.length)], .int .i64 node] w (TellsInts w (heldOf node rows)) := by
  obtain ⟨i0, hi, hz0, hz1, hz2⟩ := info_parts infoI
  have hlen0 : (heldOf node rows).length ≤ rows.length := by have := heldOf_len node rows rows.length; rwa [List.take_length] at this
  have HV : Hid (∀ j, j = rows.length → heldOf node rows = heldOf node (rows.take j)) := by rintro j rfl; rw [List.take_length]
  have HS : Hid (∀ j, j < rows.length → heldOf node (rows.take (j + 1)) = heldOf node (rows.take j) ++ (if 0 ≤ outAt (rows.getD j noRow).out node then [(rows.getD j noRow).key] else [])) := fun j => heldOf_take node rows j
  have HL := fun j => Lib.hid (heldOf_len node rows j)
  have h00 : heldOf node (rows.take 0) = [] := by simp [heldOf]
  have hcomp := fun (p : Option Addr) (c : Nat) (u : World) hc => compact_any (heldOf node rows) p c u (by omega) hc hup
  generalize heldOf node rows = V at HV hsort hcomp hlen0 ⊢
  generalize hG : (fun j => heldOf node (rows.take j)) = G
  have hGj : ∀ j, heldOf node (rows.take j) = G j := fun j => by rw [← hG]
  simp only [hGj] at HV HS HL h00
  clear hG hGj hup
  have M0 := Lib.hid (((Mem.start w).addRows h).box #[.int .i64 start, .slice p rows.length (c + rows.length)] 24)
  obtain ⟨t0, t1, -⟩ := box2 (M0.out.boxes 0 _ _ _ rfl)
  clear h
  go_enter Try.func17, Try.ntmps17
  go_wp2
  generalize w.alloc (.cells #[.int .i64 start, .slice p rows.length (c + rows.length)] 24) = W1 at *
  clear t0 t1
  go_loopw [5, 13] (fun v i wr => ∃ j : Nat, j ≤ rows.length ∧ i = .int .i64 (j : Int) ∧ Hid (OwnI W1.heap.size wr v (G j)) ∧ Below W1.heap.size W1 wr) (fun _ i _ => rows.length - (intOf i).toNat)
  case atStart => exact ⟨0, by omega, rfl, (by rw [h00]; exact World.ownsRow_nil _ _ _ _), Below.refl _ _⟩
  case round =>
    obtain ⟨j, hj, rfl, hown, hbw⟩ := hrel
    have M1 := Lib.hid (M0.out.on hbw)
    by_cases hlt : j < rows.length
    · obtain ⟨b, o, rfl, x0, x1, x2, px, cx, x3, hxl⟩ := rows_some (M1.out.rows 0 _ _ rfl) hlt
      have hlt' : (j : Int) < (rows.length : Int) := by omega
      have hs := HS.out j hlt
      have hlen := (HL j).out
      have hle := fun u p' c' hu => hlent u j hlt p' c' hu
      generalize rows.getD j noRow = x at *
      obtain ⟨xk, xa, xm, xo⟩ := x
      simp only [rowVal] at x0 x1 x2 x3 hxl hle hs
      generalize outAt xo node = O at *
      have M2 := Lib.hid ((M1.out.addLeases hxl).box #[.int .i64 xk, .int .i64 xa, .int .i64 xm, .slice px xo.length (cx + xo.length)] 38)
      have hle1 := hle _ px cx (M2.out.leases 0 _ _ rfl)
      have HB2 := Lib.hid ((Below.refl wr.heap.size wr).alloc (Nat.le_refl _) (.cells #[.int .i64 xk, .int .i64 xa, .int .i64 xm, .slice px xo.length (cx + xo.length)] 38))
      have HW := Lib.hid hown.out
      unfold OwnI at HW
      have HBW := Lib.hid hbw
      clear hown hbw hle hxl HV HS HL hsort hcomp hlent h00
      by_cases hO : 0 ≤ O
      · rw [if_pos hO] at hs
        have SE := Lib.hid hs
        rw [decide_eq_true hO] at hle1
        clear hs
        generalize hn : (G j).length = n at *
        have HN := Lib.hid hn
        clear hn
        go_wp2_with (first
          | (go_at_call 43; (with_reducible refine hle1.mono ?_); rintro e u ⟨sm, rfl, hbu⟩; have M3 := Lib.hid (M2.out.on hbu); have HBU := Lib.hid (HB2.out.trans (hbu.mono HB2.out.size)); have HWU := Lib.hid (own_below HW.out HBU.out); have HB1 := Lib.hid (HBW.out.trans (HBU.out.mono HBW.out.size)); clear hle1 hbu x0 x1 x2 x3; obtain ⟨r0, r1, r2, r3, -⟩ := box4 (M3.out.boxes 0 _ _ _ rfl))
          | (at_builtin; refine wpList_append_own _ rfl (.tmp 24) (.tmp 27) 46 rfl W1.heap.size 3 i0 (.int .i64 0) 1 8 Try.underlying46 hi hz0 hz1 hz2 rfl (by decide) _ _ _ rfl (HWU.out.alloc _) ⟨u.heap.size, 0, none⟩ 1 1 [.int .i64 xk] rfl rfl ?c1 ?c2 ?c3 ?c4 ?c5 ?_))
        case c1 => intro j u hj; match j, hj with | 0, hj => simp at hj; subst hj; simp [Addr.add]
        case c2 => intro u hu; simp at hu; subst hu; rfl
        case c3 => unfold maxLen; omega
        case c4 => omega
        case c5 => have := HB1.out.size; simp; omega
        intro v' w2 ho2 hg _
        have ho' : OwnI W1.heap.size w2 v' (G (j + 1)) := by
          rw [SE.out]
          refine OwnI.app (n := 1) (xs := [xk]) ?_ rfl
          rw [HN.out]
          exact ho2
        have hb2 := (HB1.out.alloc HB1.out.size _).grown hg (by have := HB1.out.size; simp; omega) (fun k hk => (HWU.out.lt k hk).1)
        have R := Lib.hid ho'
        clear hg ho2 ho' HW HWU
        go_wp2
        go_roundw
        case rel => exact ⟨j + 1, by omega, by go_num, R, hb2⟩
        case measure => simp [intOf]; omega
      · rw [if_neg hO, List.append_nil] at hs
        have SE := Lib.hid hs
        rw [decide_eq_false hO] at hle1
        clear hs
        go_wp2_with (go_at_call 43; (with_reducible refine hle1.mono ?_); rintro e u ⟨sm, rfl, hbu⟩; have HBU := Lib.hid (HB2.out.trans (hbu.mono HB2.out.size)); have HWU := Lib.hid (own_below HW.out HBU.out); clear hle1 hbu x0 x1 x2 x3)
        go_roundw
        case rel => exact ⟨j + 1, by omega, by go_num, by rw [SE.out]; exact HWU, HBW.out.trans (HBU.out.mono HBW.out.size)⟩
        case measure => simp [intOf]; omega
    · obtain rfl : j = rows.length := by omega
      rw [← HV.out _ rfl] at hown
      obtain ⟨pv, cv, rfl, -⟩ := hown.out.ints
      have hso := hsort W1 wr _ hown.out hbw
      clear hsort HV HS HL hlent
      go_wp2_with (first
        | (go_at_call 44; (with_reducible refine hso.mono ?_); rintro e u2 ⟨rfl, ⟨p2, c2, hv2, hcells⟩, hb2⟩; simp only [Value.slice.injEq, true_and] at hv2; obtain ⟨rfl, rfl⟩ := hv2; have hco := hcomp pv cv u2 hcells; have HC := Lib.hid hcells; have HB2 := Lib.hid hb2; clear hso hcomp hcells hb2)
        | (go_at_call 45; (with_reducible refine hco.mono ?_); rintro e u3 ⟨rfl, hb3⟩; have HB3 := Lib.hid hb3; clear hco hb3))
      go_ret
      refine ⟨pv, cv, rfl, fun k hk => ?_, M0.out.below.trans ((HB2.out.trans (HB3.out.mono HB2.out.size)).mono M0.out.below.size)⟩
      obtain ⟨b, o, e, hc⟩ := HC.out k hk
      exact ⟨b, o, e, cell_on hc HB3.out⟩
end Go.Proofs.Ytcnnepmhdccipaa.Ledger
