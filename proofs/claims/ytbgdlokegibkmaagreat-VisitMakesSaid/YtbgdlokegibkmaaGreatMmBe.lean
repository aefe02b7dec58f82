/-
  slices.Sort of numbers that a call owns, and that rise: they stay as they are.
  All that is asked of the program's ledger, of tables whose rows rise by keys, and leases by nodes: Find, Total, Look, Mint, Settle, Grant, Held.
  The guest's settle: all that the node holds is minted, closed and settled; leases of lesser generations are dropped.
-/
import Derived.Sort.OwnSortedInts
import Derived.Lib.OwnBridge
import Derived.Test.YtbgdlokegibkmaaGreatMmBc
import Derived.Test.YtbgdlokegibkmaaGreatShelf
import Derived.Test.YtbgdlokegibkmaaGreatMmBd
import Derived.Test.YtbgdlokegibkmaaGreatMmAm
namespace Go.Proofs.YtbgdlokegibkmaaGreat.Ledger
open Go.RowKit Go.Sort
theorem sort_keys (zs : List Int) (hz : zs.Pairwise (· < ·)) (hl : zs.length ≤ 1000) (u0 u : World) (v : Value) (hown : OwnI u0.heap.size u v zs) (hb : Below u0.heap.size u0 u) :
    Calls Tryz.prog 148 #[v] u fun e u' => e = .returned (.tuple #[]) ∧ (∃ p' c', v = .slice p' zs.length c' ∧ ∀ k, k < zs.length → ∃ b o, p' = some ⟨b, o, none⟩ ∧ u'.cell? ⟨b, o + k, none⟩ = some (.int .i64 (zs.getD k 0))) ∧ Below u0.heap.size u0 u' := by
  by_cases h0 : zs.length = 0
  · obtain ⟨p, c, rfl, -⟩ := hown.ints
    rw [h0]
    refine (Tryz.slices_Sort_int_none p c u).mono ?_
    rintro e u' ⟨rfl, rfl⟩
    exact ⟨rfl, ⟨p, c, rfl, fun k hk => by omega⟩, hb⟩
  · have hs := srt_self hz
    have hl2 : (Ring.srt zs).length = zs.length := by rw [hs]
    have hown' : u.ownsRow u0.heap.size 3 1 v zs.length (zs.map (Value.int .i64)) := hown
    have hne : v ≠ .slice none 0 0 := by
      rintro rfl
      rcases hown.2 with ⟨-, h1⟩ | ⟨g, cap, cur, h1, -⟩
      · exact h0 h1
      · simp at h1
    obtain ⟨g', cap', rfl, hbase, hlt, _, _, _, hH⟩ := Lib.holds_of_ownsRow (enc := Value.int .i64) hown' hne
    rcases hown'.2 with ⟨h1, _⟩ | ⟨g2, cap2, cur, hv, hbase', hblk, h1, h2, h3, h4⟩
    · cases h1
    cases hv
    refine (Tryz.slices_Sort_int g' 0 cap' zs u hH hlt (by omega)).mono ?_
    rintro e u' ⟨rfl, n, os, rfl⟩
    refine ⟨rfl, ⟨_, _, rfl, ?_⟩, hb.grown (grownBy_sortedI _) hb.size (fun j hj => by cases hj; exact hbase)⟩
    have hso := ownsRow_sortedI (n := n) (os := os) (ts := Ring.srt zs) hl2 hbase hblk h1 h2 h3
    rw [← hl2] at hso
    obtain ⟨g3, cap3, e3, _, _, _, _, _, hH2⟩ := Lib.holds_of_ownsRow (enc := Value.int .i64) hso (by simp)
    cases e3
    intro j hj
    refine ⟨g', 0, rfl, ?_⟩
    have k := (hH2 j (by simpa [hl2] using hj)).1
    have hj2 : j < (Ring.srt zs).length := by rw [hl2]; exact hj
    rw [show grow (putRow (Value.int .i64) (Sort.ahead u n) g' 0 (zs.mergeSort fun x y => decide (x ≤ y)).toArray) os = grow (putRow (Value.int .i64) (Sort.ahead u n) g' 0 (Ring.srt zs).toArray) os from rfl, k]
    simp only [hs]
    simp [hj]
end Go.Proofs.YtbgdlokegibkmaaGreat.Ledger

namespace Go.Proofs.YtbgdlokegibkmaaGreat.Ledger
open Go.RowKit
open _root_.Go.Proofs.YtbgdlokegibkmaaGreat.Frame (Rw Tb noRow LeasesAt cell_on)
theorem pheld_new {n : Nat} {t : Tb} (p : Option Addr) (c : Nat) (node : Int) (w : World) (h : Rise n t) (hn : n ≤ 61) (hr : RowsAt w p t.rows) :
    Calls Tryz.prog 102 #[tabVal t p c, .int .i64 node] w (TellsIntsNew w (held t node)) := by
  obtain ⟨hl, ho⟩ := base_len h.base hn
  have hp := held_up h.up node
  have hlen : (heldOf node t.rows).length ≤ t.rows.length := by have := heldOf_len node t.rows t.rows.length; rwa [List.take_length] at this
  refine pheld_core t.start t.rows p c node w hr hl (fun u j hj p' c' hu => ?_) (fun u0 u v hv hb => sort_keys (heldOf node t.rows) hp (by omega) u0 u v hv hb) fun k hk => ?_
  · have hm : t.rows.getD j noRow ∈ t.rows := by simp [List.getD, hj]
    have hB := h.base.rows _ hm
    have hU := h.ups _ hm
    generalize t.rows.getD j noRow = r at *
    refine (lent_any r p' c' node u hu (ho r hm)).mono ?_
    rintro e u' ⟨rfl, hb⟩
    rcases lent_out hU node fun y hy => (hB.out y hy).2 with ⟨h1, h2⟩ | ⟨h1, h2⟩
    · exact ⟨_, by rw [h2, decide_eq_false (by omega)], hb⟩
    · exact ⟨_, by rw [h2, decide_eq_true h1], hb⟩
  · have := List.pairwise_iff_getElem.1 hp k (k + 1) (by show k < (heldOf node t.rows).length; omega) hk (by omega)
    have h1 : k < (heldOf node t.rows).length := by omega
    show (heldOf node t.rows).getD k 0 < (heldOf node t.rows).getD (k + 1) 0
    simp only [List.getD, h1, hk, List.getElem?_eq_getElem, Option.getD_some]
    exact this
end Go.Proofs.YtbgdlokegibkmaaGreat.Ledger

namespace Go.Proofs.YtbgdlokegibkmaaGreat.Visit
open Go.RowKit
open _root_.Go.Proofs.YtbgdlokegibkmaaGreat.Frame (Rw Tb Tk noRow LeasesAt cell_on)
open _root_.Go.Proofs.YtbgdlokegibkmaaGreat.Ledger (RowAt RowsAt LeasesIn Rise mint held tabVal cfVal)
open _root_.Go.Proofs.YtbgdlokegibkmaaGreat.Codec (Ints lt_of_heap frozen_of heap_set)
open _root_.Go.Proofs.YtbgdlokegibkmaaGreat.Kit (Lies Kept Off)
open _root_.Go.Proofs.YtbgdlokegibkmaaGreat.Edge (Cf Eg An Ed RatesB CfNum Says HasN Typed In Moves KeepC Lens close drop)
open _root_.Go.Proofs.YtbgdlokegibkmaaGreat.Token (tokVal)
open _root_.Go.Proofs.YtbgdlokegibkmaaGreat.Lease (Num)
theorem IntsIn.below' {S : Nat → Prop} {w w' : World} {p : Option Addr} {l : List Int} (h : IntsIn S w p l) (hb : Below w.heap.size w w') : IntsIn S w' p l := h.on (fun _ h _ => h) fun b _ _ hl => hb.block b hl
theorem close_num {L : List Lease.Lz} {Q : List Queue.It} {D : List Demand.Nt} (h : Lease.Good L) (key gen : Int) : Num (close ⟨L, Q, D⟩ key gen).2 := by
  unfold close Lease.close
  simp only
  split
  · simp [Num]
  · rename_i hp
    obtain ⟨-, -, h3⟩ := Lease.place_some (show 0 ≤ Lease.place L key by omega)
    split
    · exact (h.each _ h3).2.2.2.2.2.1
    · simp [Num]
section
variable {B gb : Nat} {f : Gf} {y : Value} {qw qq qd : Nat} {R : Nat → Prop} {p : Option Addr} {d : Nat} {t : Tb} {e : Eg} {u : World}
set_option maxRecDepth 100000 in
set_option maxHeartbeats 8000000 in
theorem gsettle_any {m : Nat} (h : Gu B gb f y qw qq qd R p d t e u) (hg : B ≤ gb) (hkp : Keeps f.c f.node m t e) (hm : m ≤ 660) (hq : f.c.qu ≤ 16) (hk : f.c.ke ≤ 16) (hn : Num f.now) :
    Calls Tryz.prog 55 #[.pointer (some ⟨gb, 0, none⟩)] u fun x w' => x = .returned (.tuple #[]) ∧ ∃ R' p' d', Gu B gb f y qw qq qd R' p' d' (settled f.c f.node f.gen f.now t e).1 (settled f.c f.node f.gen f.now t e).2 w' ∧ Fr18 B gb R R' u w' := by
  have hSET : settled f.c f.node f.gen f.now t e = ((sts f.c f.node f.gen f.now (held t f.node) (t, e)).1, drop (sts f.c f.node f.gen f.now (held t f.node) (t, e)).2 f.gen) := rfl
  have HSET := Lib.hid hSET
  have HLN := Lib.hid (held_num hkp.rise f.node)
  have hl2 := Ledger.held_few hkp.rise f.node
  have HH := Lib.hid (show ∀ v, Below u.heap.size u v → Calls Tryz.prog 102 #[.agg #[.int .i64 f.start, .slice p t.rows.length (d + t.rows.length)], .int .i64 f.node] v (Ledger.TellsIntsNew v (held t f.node)) from fun v hb => by
    have := Ledger.pheld_new p d f.node v hkp.rise (by omega) (h.rows.below hb).rest
    rw [← h.start]
    exact this)
  generalize held t f.node = l at *
  have HST := Lib.hid (fun (j : Nat) (hj : j < l.length) => show sts f.c f.node f.gen f.now (l.take (j + 1)) (t, e) = st1 f.c f.node f.gen f.now (sts f.c f.node f.gen f.now (l.take j) (t, e)) (l.getD j 0) from by
    rw [List.take_succ_eq_append_getElem hj]
    unfold sts
    rw [List.foldl_append]
    simp [List.getD, hj])
  have HSK := Lib.hid (fun (j : Nat) (hj : j ≤ l.length) => show Keeps f.c f.node (m + j) (sts f.c f.node f.gen f.now (l.take j) (t, e)).1 (sts f.c f.node f.gen f.now (l.take j) (t, e)).2 from by
    have := keeps_sts (c := f.c) (node := f.node) hk (gen := f.gen) hn (l.take j) (s := (t, e)) (fun k hk => HLN.out k (List.mem_of_mem_take hk)) hkp
    rwa [List.length_take, Nat.min_eq_left hj] at this)
  have HS0 := Lib.hid (show sts f.c f.node f.gen f.now (l.take 0) (t, e) = (t, e) from rfl)
  have HSL := Lib.hid (show sts f.c f.node f.gen f.now (l.take l.length) (t, e) = sts f.c f.node f.gen f.now l (t, e) by rw [List.take_length])
  obtain ⟨x0, x1, x2, x3, x4, x5, x6, x7, -⟩ := h.cells
  have HG := Lib.hid h
  have HGB := Lib.hid hg
  have z0 : _ ∧ _ ∧ _ := ⟨cell_on x3 (Below.refl u.heap.size u).drew, cell_on x4 (Below.refl u.heap.size u).drew, cell_on x6 (Below.refl u.heap.size u).drew⟩
  clear h hg hkp hSET x0 x1 x2 x3 x4 x5 x6 x7
  go_enter Tryz.func55, Tryz.ntmps55
  go_upto_region 0 with (fail)
  go_region_held3 (fun v => v.cell? ⟨gb, 3, none⟩ = some (.int .i64 f.start) ∧ v.cell? ⟨gb, 4, none⟩ = some (.slice p t.rows.length (d + t.rows.length)) ∧ v.cell? ⟨gb, 6, none⟩ = some (.int .i64 f.node)) (first | with_reducible assumption) (first
    | (go_at_call 102; (with_reducible refine (HH.out _ (Below.refl u.heap.size u).drew).mono ?_); rintro x u1 ⟨pl, cl, rfl, hi, hb⟩; have HB1 := Lib.hid (undrewB hb); have HI1 := Lib.hid hi; have z1 : _ ∧ _ ∧ _ := ⟨cell_on z0.1 hb, cell_on z0.2.1 hb, cell_on z0.2.2 hb⟩; clear hi hb HH))
  go_wp2_with (fail)
  have HG1 := Lib.hid (HG.out.more HB1.out)
  have HF1 := Lib.hid (Fr18.of_more (gb := gb) (R := R) HB1.out HG.out.size)
  have HI2 := Lib.hid (show IntsIn (fun g => R g ∨ u.heap.size ≤ g ∧ g < u1.heap.size) u1 pl l from by
    by_cases h0 : l = []
    · exact .inl h0
    · obtain ⟨b, o, e1, e2, e3⟩ := HI1.out 0 (List.length_pos_iff.2 h0)
      refine .inr ⟨b, o, e1, .inr ⟨e2, World.block_lt_of_cell? _ _ e3⟩, fun j hj => ?_⟩
      obtain ⟨b2, o2, k1, -, k3⟩ := HI1.out j hj
      rw [e1] at k1
      simp only [Option.some.injEq, Addr.mk.injEq, and_true] at k1
      obtain ⟨rfl, rfl⟩ := k1
      exact k3)
  clear z0 z1 HI1 HB1 HG
  generalize (fun g => R g ∨ u.heap.size ≤ g ∧ g < u1.heap.size) = RA at *
  have HG2 := Lib.hid (show Gu B gb f y qw qq qd RA p d (sts f.c f.node f.gen f.now (l.take 0) (t, e)).1 (sts f.c f.node f.gen f.now (l.take 0) (t, e)).2 u1 from by rw [HS0.out]; exact HG1.out)
  clear HG1 HS0
  go_loopw [16] (fun i wr => ∃ (j : Nat) (R' : Nat → Prop) (p' : Option Addr) (d' : Nat), j ≤ l.length ∧ i = .int .i64 (j : Int) ∧ Hid (Gu B gb f y qw qq qd R' p' d' (sts f.c f.node f.gen f.now (l.take j) (t, e)).1 (sts f.c f.node f.gen f.now (l.take j) (t, e)).2 wr) ∧ Hid (Fr18 B gb R R' u wr) ∧ Hid (IntsIn R' wr pl l)) (fun i _ => l.length - (intOf i).toNat)
  case atStart => exact ⟨0, RA, p, d, by omega, rfl, HG2, HF1, HI2⟩
  case round =>
    obtain ⟨j, R1, p1, d1, hj, rfl, hZ, hF, hI⟩ := hrel
    have hkj := HSK.out j hj
    by_cases hlt : j < l.length
    · have hlt' : (j : Int) < (l.length : Int) := by omega
      have hst := HST.out j hlt
      clear HST HSK HSL HG2 HF1 HI2
      obtain ⟨s1, hs1⟩ : ∃ s1, s1 = sts f.c f.node f.gen f.now (l.take (j + 1)) (t, e) := ⟨_, rfl⟩
      rw [← hs1] at hst
      have HS1 := Lib.hid hs1
      clear hs1
      generalize sts f.c f.node f.gen f.now (l.take j) (t, e) = s at *
      obtain ⟨bl, ol, rfl, hcell⟩ : ∃ b o, pl = some ⟨b, o, none⟩ ∧ wr.cell? ⟨b, o + j, none⟩ = some (.int .i64 (l.getD j 0)) := by
        rcases hI.out with h0 | ⟨b, o, e1, -, hc⟩
        · rw [h0] at hlt; simp at hlt
        · exact ⟨b, o, e1, hc j hlt⟩
      have hkn : Num (l.getD j 0) := HLN.out _ (by simp [List.getD, hlt])
      generalize l.getD j 0 = key at *
      have hkm := Ledger.zmint hkj.rise (key := key) (now := f.now) hkn hn (f := toL f.c) hk
      obtain ⟨hL, hQ, hD⟩ := hkj.lens hq (by omega)
      have HMT := Lib.hid (gmint_any hZ.out HGB.out hkj.rise key)
      have hst : s1 = ((Ledger.settle (mint s.1 key f.now (toL f.c)).1 key f.node (close s.2 key f.gen).2).1, (close s.2 key f.gen).1) := hst
      generalize mint s.1 key f.now (toL f.c) = MT at *
      have HCL := Lib.hid (fun (v : World) R' p' d' (hv : Gu B gb f y qw qq qd R' p' d' MT.1 s.2 v) => Edge.pclose_any (key := key) (gen := f.gen) hv.inn hv.size hkj.good ⟨Nat.le_trans hL (by decide), hQ, hD⟩ hkn)
      have hcn : Num (close s.2 key f.gen).2 := close_num hkj.good.l key f.gen
      generalize close s.2 key f.gen = CL at *
      go_upto_region 4 with (go_at_call 103; (with_reducible refine HMT.out.mono ?_); rintro x u2 ⟨rfl, R2, p2, d2, hg2, hf2⟩; have HG3 := Lib.hid (hg2.on (Below.refl _ _).drew); have HF3 := Lib.hid (hF.out.trans (hf2.trans (Fr18.of_below (Below.refl u2.heap.size u2).drew hg2.size))); have HI3 := Lib.hid (((hI.out.on (fun b hb _ => hf2.up b hb) hf2.keep).on (w' := u2.drew) (fun _ h _ => h) fun _ _ _ _ => rfl)); clear hg2 hf2)
      obtain ⟨x0, -, -, -, -, x5, -⟩ := HG3.out.cells
      have z0 := And.intro x5 x0
      clear x0 x5 hcell HMT hZ hF hI
      go_cut [4] (fun a wx => a = .int .i64 CL.2 ∧ Moves R2 B u2.drew f.q y qw qq qd f.c CL.1 wx)
      case first =>
        go_region_held3 (fun v => v.cell? ⟨gb, 5, none⟩ = some (.pointer (some ⟨f.q, 0, none⟩)) ∧ v.cell? ⟨gb, 0, none⟩ = some (.int .i64 f.gen)) (first | with_reducible assumption) (first
          | (go_at_call 104; (with_reducible refine (HCL.out _ _ _ _ HG3.out).mono ?_); rintro x u3 ⟨rfl, hm3⟩; have HM3 := Lib.hid hm3; have z1 : _ ∧ _ := ⟨(HG3.out.moves hm3).cells.2.2.2.2.2.1, (HG3.out.moves hm3).cells.1⟩; clear hm3))
        all_goals (go_wp2_with (fail))
        all_goals go_meet
        all_goals exact ⟨rfl, HM3.out⟩
      case rest =>
        obtain ⟨rfl, hm3⟩ := hcut
        have HG4 := Lib.hid ((HG3.out.moves hm3).on (Below.refl _ _).drew)
        have HF4 := Lib.hid ((HF3.out.trans (Fr18.of_moves hm3)).trans (Fr18.of_below (Below.refl wc.heap.size wc).drew (HG3.out.moves hm3).size))
        have HI4 := Lib.hid ((HI3.out.on (fun _ h _ => h) hm3.keep).on (w' := wc.drew) (fun _ h _ => h) fun _ _ _ _ => rfl)
        have HSE : Hid (∀ v, Below wc.drew.heap.size wc.drew v → Calls Tryz.prog 105 #[.agg #[.int .i64 f.start, .slice p2 MT.1.rows.length (d2 + MT.1.rows.length)], .int .i64 key, .int .i64 f.node, .int .i64 CL.2] v fun x v' => ∃ px dx, x = .returned (.tuple #[.agg #[.int .i64 f.start, .slice px (Ledger.settle MT.1 key f.node CL.2).1.rows.length (dx + (Ledger.settle MT.1 key f.node CL.2).1.rows.length)], .int .i64 (Ledger.settle MT.1 key f.node CL.2).2]) ∧ Ledger.RowsIn (fun b => R2 b ∨ wc.drew.heap.size ≤ b) v' px (Ledger.settle MT.1 key f.node CL.2).1.rows ∧ Below v.heap.size v v') := Lib.hid (fun v hv => by
          have := Ledger.psettle_rise p2 d2 key f.node CL.2 v hkm (by omega) hkn hcn (HG4.out.rows.below hv).rest
          have hms := settle_start MT.1 key f.node CL.2
          generalize Ledger.settle MT.1 key f.node CL.2 = ST at *
          rw [← HG4.out.start]
          refine this.mono ?_
          rintro x v' ⟨px, dx, rfl, ⟨-, h2⟩, h3⟩
          exact ⟨px, dx, by rw [← hms]; rfl, rowsin_sub (h2 R2 (HG4.out.rows.below hv)) fun b hb _ => hb.imp id fun h4 => Nat.le_trans hv.size h4, h3⟩)
        have hms := (settle_start MT.1 key f.node CL.2).trans HG4.out.start
        generalize Ledger.settle MT.1 key f.node CL.2 = ST at *
        obtain ⟨-, -, -, x3, x4, -, x6, -⟩ := HG4.out.cells
        have ff := HG4.out.cells.2.2.2.2.2.2.2.2.2.2.2.2.2.2.2.2.2
        have f3 := ff 3
        have f4 := ff 4
        clear HCL HG3 HF3 HI3 z0 ff hm3
        go_upto_region 5 with (fail)
        have HGD := Lib.hid (fun v (hv : Below wc.drew.heap.size wc.drew v) => show v.cell? ⟨gb, 3, none⟩ = some (.int .i64 f.start) ∧ v.cell? ⟨gb, 4, none⟩ = some (.slice p2 MT.1.rows.length (d2 + MT.1.rows.length)) ∧ v.frozen? ⟨gb, 3, none⟩ = false ∧ v.frozen? ⟨gb, 4, none⟩ = false from ⟨(HG4.out.on hv).cells.2.2.2.1, (HG4.out.on hv).cells.2.2.2.2.1, (HG4.out.on hv).cells.2.2.2.2.2.2.2.2.2.2.2.2.2.2.2.2.2 3, (HG4.out.on hv).cells.2.2.2.2.2.2.2.2.2.2.2.2.2.2.2.2.2 4⟩)
        go_region_with (go_at_call 105; (with_reducible refine (HSE.out _ (Below.refl _ _)).mono ?_); rintro x u4 ⟨px, dx, rfl, hr4, hb4⟩; have HR4 := Lib.hid hr4; have HB4 := Lib.hid hb4; obtain ⟨q3, q4, g3, g4⟩ := HGD.out _ hb4; clear hr4 hb4)
        all_goals (go_wp2_with (fail))
        all_goals
          have hb4 := HB4.out
          have HGM := Lib.hid (HG4.out.more hb4)
          have HR3 := Lib.hid (rowsin_sub HR4.out (S' := fun g => R2 g ∨ wc.drew.heap.size ≤ g ∧ g < u4.heap.size) fun b hb hl => hb.imp id fun h => ⟨h, hl⟩)
          have HF5 := Lib.hid ((HF4.out.trans (Fr18.of_more hb4 HG4.out.size)).trans (Fr18.of_store HGM.out HGB.out px ST.1.rows.length dx))
          have HI5 := Lib.hid (((HI4.out.below' hb4).on (S' := fun g => R2 g ∨ wc.drew.heap.size ≤ g ∧ g < u4.heap.size) (w' := u4) (fun b hb _ => .inl hb) fun _ _ _ _ => rfl).on (S' := fun g => R2 g ∨ wc.drew.heap.size ≤ g ∧ g < u4.heap.size) (w' := (u4.setCell ⟨gb, 3, none⟩ (.int .i64 f.start)).setCell ⟨gb, 4, none⟩ (.slice px ST.1.rows.length (dx + ST.1.rows.length))) (fun _ h _ => h) fun b hb _ _ => (gset_box HGM.out px ST.1.rows.length dx).2 b fun e => HGM.out.ngb (e ▸ hb))
          have HGS := Lib.hid (HGM.out.store (p' := px) (d' := dx) HGB.out HR3.out hms)
          refine ⟨⟨j + 1, _, px, dx, by omega, by simp, ?_, HF5, HI5⟩, by simp only [intOf]; omega⟩
          rw [← HS1.out, hst]
          exact HGS
    · have hlt' : ¬ (j : Int) < (l.length : Int) := by omega
      have hje : j = l.length := by omega
      subst hje
      rw [HSL.out] at hZ hkj
      clear HST HSK HSL HG2 HF1 HI2 hI
      generalize sts f.c f.node f.gen f.now l (t, e) = s at *
      obtain ⟨hL, hQ, hD⟩ := hkj.lens hq (by omega)
      have HZ1 := Lib.hid (hZ.out.on (Below.refl wr.heap.size wr).drew)
      have HCD := Lib.hid (Edge.pdrop_any HZ1.out.inn HZ1.out.size ⟨Nat.le_trans hL (by decide), hQ, hD⟩ f.gen)
      obtain ⟨x0, -, -, -, -, x5, -⟩ := HZ1.out.cells
      have z0 := And.intro x5 x0
      have HF2 := Lib.hid (hF.out.trans (Fr18.of_below (Below.refl wr.heap.size wr).drew hZ.out.size))
      clear x0 x5 hZ hF
      go_upto_region 7 with (fail)
      go_region_held3 (fun v => v.cell? ⟨gb, 5, none⟩ = some (.pointer (some ⟨f.q, 0, none⟩)) ∧ v.cell? ⟨gb, 0, none⟩ = some (.int .i64 f.gen)) (first | with_reducible assumption) (first
        | (go_at_call 106; (with_reducible refine HCD.out.mono ?_); rintro x u3 ⟨rfl, hm3⟩; have HM3 := Lib.hid hm3; have z1 : _ ∧ _ := ⟨(HZ1.out.moves hm3).cells.2.2.2.2.2.1, (HZ1.out.moves hm3).cells.1⟩; clear hm3))
      all_goals (go_wp2_with (fail))
      all_goals go_end0
      all_goals (rw [HSET.out]; first | exact ⟨rfl, R1, ⟨p1, d1, HZ1.out.moves HM3.out⟩, HF2.out.trans (Fr18.of_moves HM3.out)⟩ | exact ⟨rfl, R1, p1, d1, HZ1.out.moves HM3.out, HF2.out.trans (Fr18.of_moves HM3.out)⟩)
end
end Go.Proofs.YtbgdlokegibkmaaGreat.Visit
