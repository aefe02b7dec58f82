/-
  The guest's mint: a key's row is minted and the table stored; with an error the table stays.
  The guest's lend: as much as is wanted of a key, as far as there is so much, and a lease of it to the edge.
-/
import Derived.Test.YtbgdlokegibkmaaGreatMmAr
import Derived.Test.YtbgdlokegibkmaaGreatMmBb
import Derived.Test.YtbgdlokegibkmaaGreatMmBc
import Derived.Test.YtbgdlokegibkmaaGreatMmAm
import Derived.Test.YtbgdlokegibkmaaGreatMmAn
namespace Go.Proofs.YtbgdlokegibkmaaGreat.Visit
open Go.RowKit
open _root_.Go.Proofs.YtbgdlokegibkmaaGreat.Frame (Rw Tb Tk noRow LeasesAt cell_on)
open _root_.Go.Proofs.YtbgdlokegibkmaaGreat.Ledger (RowAt RowsAt LeasesIn Rise mint held tabVal cfVal)
open _root_.Go.Proofs.YtbgdlokegibkmaaGreat.Codec (Ints lt_of_heap frozen_of heap_set)
open _root_.Go.Proofs.YtbgdlokegibkmaaGreat.Kit (Lies Kept Off)
open _root_.Go.Proofs.YtbgdlokegibkmaaGreat.Edge (Cf Eg An Ed RatesB CfNum Says HasN Typed In Moves KeepC Lens)
open _root_.Go.Proofs.YtbgdlokegibkmaaGreat.Token (tokVal)
open _root_.Go.Proofs.YtbgdlokegibkmaaGreat.Lease (Num)
/-- A table that a call told, in a box of its own; its rows in blocks of S. -/
def BoxI (S : Nat → Prop) (w0 wx : World) (a : Value) (start : Int) (rows : List Rw) : Prop := ∃ g p d, a = .pointer (some ⟨g, 0, none⟩) ∧ wx.heap[g]? = some (.cells #[.int .i64 start, .slice p rows.length (d + rows.length)] 28 (0, 0)) ∧ w0.heap.size ≤ g ∧ Ledger.RowsIn S wx p rows ∧ Below w0.heap.size w0 wx
theorem boxi_a {S : Nat → Prop} {w0 u : World} {start : Int} {d : Nat} {p : Option Addr} {rows : List Rw} (hb : Below w0.heap.size w0 u) (hr : Ledger.RowsIn S u p rows) : BoxI S w0 (u.alloc (.cells #[.int .i64 start, .slice p rows.length (d + rows.length)] 28)) (.pointer (some ⟨u.heap.size, 0, none⟩)) start rows :=
  ⟨_, p, d, rfl, heap_alloc_new u _, hb.size, hr.below (lay u _), hb.trans ((lay u _).mono hb.size)⟩
theorem boxi_b {S : Nat → Prop} {w0 u : World} {start : Int} {d : Nat} {p : Option Addr} {rows : List Rw} (hb : Below (w0.alloc (.cells #[.int .i64 0, .slice none 0 0] 28)).drew.heap.size (w0.alloc (.cells #[.int .i64 0, .slice none 0 0] 28)).drew u) (hr : Ledger.RowsIn S u p rows) :
    BoxI S w0 ((u.setCell ⟨w0.heap.size, 0, none⟩ (.int .i64 start)).setCell ⟨w0.heap.size, 1, none⟩ (.slice p rows.length (d + rows.length))) (.pointer (some ⟨w0.heap.size, 0, none⟩)) start rows := by
  have hz : u.heap[w0.heap.size]? = some (.cells #[.int .i64 0, .slice none 0 0] 28 (0, 0)) := (hb.block _ (lt_of_heap (show (w0.alloc (.cells #[.int .i64 0, .slice none 0 0] 28)).drew.heap[w0.heap.size]? = _ from heap_alloc_new w0 _))).trans (heap_alloc_new w0 _)
  have h1 := heap_set w0.heap.size 0 _ (.int .i64 start) hz
  have h2 := heap_set w0.heap.size 1 _ (.slice p rows.length (d + rows.length)) h1
  have hb2 : Below w0.heap.size w0 u := (lay w0 _).drew.trans (hb.mono (lay w0 _).drew.size)
  exact ⟨_, p, d, rfl, h2, Nat.le_refl _, Ledger.rowsin_tab (o := 1) h1 (Ledger.rowsin_tab (o := 0) hz hr), (hb2.setCell (p := ⟨w0.heap.size, 0, none⟩) (Nat.le_refl _) _).setCell (p := ⟨w0.heap.size, 1, none⟩) (Nat.le_refl _) _⟩
theorem rowsin_sub {S S' : Nat → Prop} {w : World} {p : Option Addr} {l : List Rw} (h : Ledger.RowsIn S w p l) (hS : ∀ b, S b → b < w.heap.size → S' b) : Ledger.RowsIn S' w p l := h.on hS fun _ _ _ => rfl
section
variable {B gb : Nat} {f : Gf} {y : Value} {qw qq qd : Nat} {R : Nat → Prop} {p : Option Addr} {d : Nat} {t : Tb} {e : Eg} {u : World}
set_option maxRecDepth 100000 in
set_option maxHeartbeats 8000000 in
theorem gmint_any (h : Gu B gb f y qw qq qd R p d t e u) (hg : B ≤ gb) (hr : Rise 0 t) (key : Int) :
    Calls Tryz.prog 103 #[.pointer (some ⟨gb, 0, none⟩), .int .i64 key] u fun x w' => x = .returned (.int .i64 (mint t key f.now (toL f.c)).2) ∧ ∃ R' p' d', Gu B gb f y qw qq qd R' p' d' (mint t key f.now (toL f.c)).1 e w' ∧ Fr18 B gb R R' u w' := by
  have hMT : Hid (∀ v, Below u.heap.size u v → Calls Tryz.prog 150 #[.agg #[.int .i64 f.start, .slice p t.rows.length (d + t.rows.length)], .int .i64 key, .int .i64 f.now, .agg #[.int .i64 f.c.n, .int .i64 f.c.sk, .int .i64 f.c.tl, .int .i64 f.c.va, .int .i64 f.c.lo, .int .i64 f.c.he, .int .i64 f.c.ke, .int .i64 f.c.qu, .slice f.pf f.c.zs.length f.kf]] v fun x v' => ∃ px dx, x = .returned (.tuple #[.agg #[.int .i64 f.start, .slice px (mint t key f.now (toL f.c)).1.rows.length (dx + (mint t key f.now (toL f.c)).1.rows.length)], .int .i64 (mint t key f.now (toL f.c)).2]) ∧ Ledger.RowsIn (fun b => R b ∨ u.heap.size ≤ b) v' px (mint t key f.now (toL f.c)).1.rows ∧ Below v.heap.size v v') := Lib.hid (fun v hv => by
    have := Ledger.pmint_rise p d key f.now (toL f.c) f.pf f.kf v hr (by omega) (h.rows.below hv).rest (rates_at (h.rates.on (hv.mono h.size)))
    have hms := mint_start t key f.now (toL f.c)
    generalize mint t key f.now (toL f.c) = MT at *
    rw [← h.start]
    refine this.mono ?_
    rintro x v' ⟨px, dx, rfl, ⟨-, h2⟩, h3⟩
    exact ⟨px, dx, by rw [← hms]; rfl, rowsin_sub (h2 R (h.rows.below hv)) fun b hb _ => hb.imp id fun h4 => Nat.le_trans hv.size h4, h3⟩)
  have hms := (mint_start t key f.now (toL f.c)).trans h.start
  generalize mint t key f.now (toL f.c) = MT at *
  obtain ⟨x0, x1, x2, x3, x4, x5, x6, x7, x8, x9, x10, x11, x12, x13, x14, x15, x16, -⟩ := h.cells
  have HY := Lib.hid (fun v (hu : Below u.heap.size u v) => show Below u.heap.size u v ∧ v.cell? ⟨gb, 3, none⟩ = some (.int .i64 f.start) ∧ v.cell? ⟨gb, 4, none⟩ = some (.slice p t.rows.length (d + t.rows.length)) ∧ v.cell? ⟨gb, 7, none⟩ = some (.int .i64 f.now) ∧ v.cell? ⟨gb, 8, none⟩ = some (.int .i64 f.c.n) ∧ v.cell? ⟨gb, 9, none⟩ = some (.int .i64 f.c.sk) ∧ v.cell? ⟨gb, 10, none⟩ = some (.int .i64 f.c.tl) ∧ v.cell? ⟨gb, 11, none⟩ = some (.int .i64 f.c.va) ∧ v.cell? ⟨gb, 12, none⟩ = some (.int .i64 f.c.lo) ∧ v.cell? ⟨gb, 13, none⟩ = some (.int .i64 f.c.he) ∧ v.cell? ⟨gb, 14, none⟩ = some (.int .i64 f.c.ke) ∧ v.cell? ⟨gb, 15, none⟩ = some (.int .i64 f.c.qu) ∧ v.cell? ⟨gb, 16, none⟩ = some (.slice f.pf f.c.zs.length f.kf) from
    ⟨hu, cell_on x3 hu, cell_on x4 hu, cell_on x7 hu, cell_on x8 hu, cell_on x9 hu, cell_on x10 hu, cell_on x11 hu, cell_on x12 hu, cell_on x13 hu, cell_on x14 hu, cell_on x15 hu, cell_on x16 hu⟩)
  have z0 := HY.out _ (Below.refl u.heap.size u).drew
  have HG := Lib.hid h
  have HGB := Lib.hid hg
  have HMS := Lib.hid hms
  clear x0 x1 x2 x3 x4 x5 x6 x7 x8 x9 x10 x11 x12 x13 x14 x15 x16 h hg hms hr
  go_enter Tryz.func103, Tryz.ntmps103
  go_upto_region 1 with (fail)
  go_cut [5, 6] (fun a f' wx => f' = .int .i64 MT.2 ∧ BoxI (fun b => R b ∨ u.heap.size ≤ b) u wx a f.start MT.1.rows)
  case first =>
    go_region_held3 (fun v => Below u.heap.size u v ∧ v.cell? ⟨gb, 3, none⟩ = some (.int .i64 f.start) ∧ v.cell? ⟨gb, 4, none⟩ = some (.slice p t.rows.length (d + t.rows.length)) ∧ v.cell? ⟨gb, 7, none⟩ = some (.int .i64 f.now) ∧ v.cell? ⟨gb, 8, none⟩ = some (.int .i64 f.c.n) ∧ v.cell? ⟨gb, 9, none⟩ = some (.int .i64 f.c.sk) ∧ v.cell? ⟨gb, 10, none⟩ = some (.int .i64 f.c.tl) ∧ v.cell? ⟨gb, 11, none⟩ = some (.int .i64 f.c.va) ∧ v.cell? ⟨gb, 12, none⟩ = some (.int .i64 f.c.lo) ∧ v.cell? ⟨gb, 13, none⟩ = some (.int .i64 f.c.he) ∧ v.cell? ⟨gb, 14, none⟩ = some (.int .i64 f.c.ke) ∧ v.cell? ⟨gb, 15, none⟩ = some (.int .i64 f.c.qu) ∧ v.cell? ⟨gb, 16, none⟩ = some (.slice f.pf f.c.zs.length f.kf))
      (first | with_reducible assumption | ((with_reducible refine HY.out _ ?_); first | with_reducible exact HB1.out | with_reducible exact bel1 u _ | with_reducible exact bel_a HB1.out _ | with_reducible exact bel_s HB1.out _ _)) (first
      | (go_at_call 150; (with_reducible refine (hMT.out _ (bel1 u _)).mono ?_); rintro x u1 ⟨px, dx, rfl, hr1, hb1⟩; have HR1 := Lib.hid hr1; have HB0 := Lib.hid hb1; obtain ⟨e0, e1, f0, f1⟩ := zero_cells hb1; have HB1 := Lib.hid ((bel1 u _).trans (hb1.mono (bel1 u _).size)); clear hr1 hb1)
      | (go_at_call 150; (with_reducible refine (hMT.out _ (Below.refl u.heap.size u).drew).mono ?_); rintro x u1 ⟨px, dx, rfl, hr1, hb1⟩; have HR1 := Lib.hid hr1; have HB1 := Lib.hid (undrewB hb1); clear hr1 hb1))
    all_goals (go_wp2_with (fail))
    all_goals go_meet
    all_goals first | exact ⟨rfl, boxi_a HB1.out HR1.out⟩ | exact ⟨rfl, boxi_b HB0.out HR1.out⟩
  case rest =>
    obtain ⟨rfl, gx, px, dx, rfl, hbx, hgx, hrx, hbc⟩ := hcut
    have HGC := Lib.hid (HG.out.more hbc)
    have HRX := Lib.hid (rowsin_sub hrx (S' := fun g => R g ∨ u.heap.size ≤ g ∧ g < wc.heap.size) fun b hb hl => hb.imp id fun h => ⟨h, hl⟩)
    have HF := Lib.hid (Fr18.of_more (gb := gb) (R := R) hbc HG.out.size)
    have y0 : wc.cell? ⟨gx, 0, none⟩ = _ := cell_of_row _ gx 0 _ _ (0, 0) hbx
    have y1 : wc.cell? ⟨gx, 1, none⟩ = _ := cell_of_row _ gx 1 _ _ (0, 0) hbx
    obtain ⟨-, -, -, x3, x4, -, -, -, -, -, -, -, -, -, -, -, -, ff⟩ := HGC.out.cells
    have f3 := ff 3
    have f4 := ff 4
    clear hMT HY z0 hrx hbc ff hbx
    go_upto_region 2 with (fail)
    go_wp2_with (fail)
    go_ret
    exact ⟨rfl, _, px, dx, HGC.out.store HGB.out HRX.out HMS.out, HF.out.trans (Fr18.of_store HGC.out HGB.out px MT.1.rows.length dx)⟩
end
end Go.Proofs.YtbgdlokegibkmaaGreat.Visit

namespace Go.Proofs.YtbgdlokegibkmaaGreat.Visit
open Go.RowKit
open _root_.Go.Proofs.YtbgdlokegibkmaaGreat.Frame (Rw Tb Tk noRow LeasesAt cell_on)
open _root_.Go.Proofs.YtbgdlokegibkmaaGreat.Ledger (RowAt RowsAt LeasesIn Rise mint held tabVal cfVal)
open _root_.Go.Proofs.YtbgdlokegibkmaaGreat.Codec (Ints lt_of_heap frozen_of heap_set)
open _root_.Go.Proofs.YtbgdlokegibkmaaGreat.Kit (Lies Kept Off)
open _root_.Go.Proofs.YtbgdlokegibkmaaGreat.Edge (Cf Eg An Ed RatesB CfNum Says HasN Typed In Moves KeepC Lens says_none add_two two_a)
open _root_.Go.Proofs.YtbgdlokegibkmaaGreat.Token (tokVal)
open _root_.Go.Proofs.YtbgdlokegibkmaaGreat.Lease (Num)
/-- What lending makes, and tells. -/
def lent (c : Cf) (node gen now : Int) (t : Tb) (e : Eg) (w : Int × Int) : Tb × Eg × List An :=
  if 0 < (Ledger.grant t w.1 node w.2).2 then ((Ledger.grant t w.1 node w.2).1, (Edge.grant e (lz c w.1 gen (Ledger.grant t w.1 node w.2).2 now) now).1, (Edge.grant e (lz c w.1 gen (Ledger.grant t w.1 node w.2).2 now) now).2)
  else (t, e, [])
section
variable {B gb : Nat} {f : Gf} {y : Value} {qw qq qd : Nat} {R : Nat → Prop} {p : Option Addr} {d : Nat} {t : Tb} {e : Eg} {u : World}
set_option maxRecDepth 100000 in
set_option maxHeartbeats 8000000 in
theorem glend_any (P : Queue.Way12 Queue.Pq) (h : Gu B gb f y qw qq qd R p d t e u) (hg : B ≤ gb) (hr : Rise 0 t) (hgd : Edge.Good f.c e) (hln : Lens e) {key : Int} (hk : Num key) (want : Int) (hgn : Num f.gen) :
    Calls Tryz.prog 109 #[.pointer (some ⟨gb, 0, none⟩), .agg #[.int .i64 key, .int .i64 want]] u fun x w' => ∃ v, x = .returned v ∧ Says w' v (lent f.c f.node f.gen f.now t e (key, want)).2.2 ∧ ∃ R' p' d', Gu B gb f y qw qq qd R' p' d' (lent f.c f.node f.gen f.now t e (key, want)).1 (lent f.c f.node f.gen f.now t e (key, want)).2.1 w' ∧ Fr18 B gb R R' u w' := by
  have hMT : Hid (∀ v, Below u.heap.size u v → Calls Tryz.prog 163 #[.agg #[.int .i64 f.start, .slice p t.rows.length (d + t.rows.length)], .int .i64 key, .int .i64 f.node, .int .i64 want] v fun x v' => ∃ px dx, x = .returned (.tuple #[.agg #[.int .i64 f.start, .slice px (Ledger.grant t key f.node want).1.rows.length (dx + (Ledger.grant t key f.node want).1.rows.length)], .int .i64 (Ledger.grant t key f.node want).2]) ∧ Ledger.RowsIn (fun b => R b ∨ u.heap.size ≤ b) v' px (Ledger.grant t key f.node want).1.rows ∧ Below v.heap.size v v') := Lib.hid (fun v hv => by
    have := Ledger.pgrant_rise p d key f.node want v hr (by omega) hk (h.rows.below hv).rest
    have hms := grant_start t key f.node want
    generalize Ledger.grant t key f.node want = MT at *
    rw [← h.start]
    refine this.mono ?_
    rintro x v' ⟨px, dx, rfl, ⟨-, h2⟩, h3⟩
    exact ⟨px, dx, by rw [← hms]; rfl, rowsin_sub (h2 R (h.rows.below hv)) fun b hb _ => hb.imp id fun h4 => Nat.le_trans hv.size h4, h3⟩)
  have hms := (grant_start t key f.node want).trans h.start
  have hnum := grant_num hr hk f.node want
  have hno : ¬ 0 < (Ledger.grant t key f.node want).2 → Ledger.grant t key f.node want = (t, 0) := grant_nought
  have hLN : lent f.c f.node f.gen f.now t e (key, want) = if 0 < (Ledger.grant t key f.node want).2 then ((Ledger.grant t key f.node want).1, (Edge.grant e (lz f.c key f.gen (Ledger.grant t key f.node want).2 f.now) f.now).1, (Edge.grant e (lz f.c key f.gen (Ledger.grant t key f.node want).2 f.now) f.now).2) else (t, e, []) := rfl
  generalize lent f.c f.node f.gen f.now t e (key, want) = LN at *
  generalize Ledger.grant t key f.node want = MT at *
  have hlw := lay u (.cells #[.int .i64 key, .int .i64 want] 174)
  have HG0 := Lib.hid h
  have HGA := Lib.hid (h.on hlw)
  have HBW := Lib.hid (show (u.alloc (.cells #[.int .i64 key, .int .i64 want] 174)).heap[u.heap.size]? = some (.cells #[.int .i64 key, .int .i64 want] 174 (0, 0)) from heap_alloc_new u _)
  have HLW := Lib.hid hlw
  have HGB := Lib.hid hg
  have HMS := Lib.hid hms
  have HSZ := Lib.hid h.size
  have HGD := Lib.hid hgd
  have HP := Lib.hid P
  clear hlw h hg hms hr hgd P
  go_enter Tryz.func109, Tryz.ntmps109
  go_upto_region 1 with (fail)
  generalize u.alloc (.cells #[.int .i64 key, .int .i64 want] 174) = ua at *
  obtain ⟨x0, x1, x2, x3, x4, x5, x6, x7, -⟩ := HGA.out.cells
  have w0 : ua.cell? ⟨u.heap.size, 0, none⟩ = _ := cell_of_row _ u.heap.size 0 _ _ (0, 0) HBW.out
  have w1 : ua.cell? ⟨u.heap.size, 1, none⟩ = _ := cell_of_row _ u.heap.size 1 _ _ (0, 0) HBW.out
  have HY := Lib.hid (fun v (hu : Below ua.heap.size ua v) => show Below ua.heap.size ua v ∧ v.cell? ⟨gb, 3, none⟩ = some (.int .i64 f.start) ∧ v.cell? ⟨gb, 4, none⟩ = some (.slice p t.rows.length (d + t.rows.length)) ∧ v.cell? ⟨gb, 6, none⟩ = some (.int .i64 f.node) ∧ v.cell? ⟨u.heap.size, 0, none⟩ = some (.int .i64 key) ∧ v.cell? ⟨u.heap.size, 1, none⟩ = some (.int .i64 want) from
    ⟨hu, cell_on x3 hu, cell_on x4 hu, cell_on x6 hu, cell_on w0 hu, cell_on w1 hu⟩)
  have z0 := HY.out _ (Below.refl ua.heap.size ua).drew
  have HML := Lib.hid (fun v (hv : Below ua.heap.size ua v) => hMT.out v (HLW.out.trans (hv.mono HLW.out.size)))
  clear x0 x1 x2 x3 x4 x5 x6 x7 w0 w1 hMT
  go_cut [5, 6] (fun a f' wx => f' = .int .i64 MT.2 ∧ BoxI (fun b => R b ∨ u.heap.size ≤ b) ua wx a f.start MT.1.rows)
  case first =>
    go_region_held3 (fun v => Below ua.heap.size ua v ∧ v.cell? ⟨gb, 3, none⟩ = some (.int .i64 f.start) ∧ v.cell? ⟨gb, 4, none⟩ = some (.slice p t.rows.length (d + t.rows.length)) ∧ v.cell? ⟨gb, 6, none⟩ = some (.int .i64 f.node) ∧ v.cell? ⟨u.heap.size, 0, none⟩ = some (.int .i64 key) ∧ v.cell? ⟨u.heap.size, 1, none⟩ = some (.int .i64 want))
      (first | with_reducible assumption | ((with_reducible refine HY.out _ ?_); first | with_reducible exact HB1.out | with_reducible exact bel1 ua _ | with_reducible exact bel_a HB1.out _ | with_reducible exact bel_s HB1.out _ _)) (first
      | (go_at_call 163; (with_reducible refine (HML.out _ (bel1 ua _)).mono ?_); rintro x u1 ⟨px, dx, rfl, hr1, hb1⟩; have HR1 := Lib.hid hr1; have HB0 := Lib.hid hb1; obtain ⟨e0, e1, f0, f1⟩ := zero_cells hb1; have HB1 := Lib.hid ((bel1 ua _).trans (hb1.mono (bel1 ua _).size)); clear hr1 hb1)
      | (go_at_call 163; (with_reducible refine (HML.out _ (Below.refl ua.heap.size ua).drew).mono ?_); rintro x u1 ⟨px, dx, rfl, hr1, hb1⟩; have HR1 := Lib.hid hr1; have HB1 := Lib.hid (undrewB hb1); clear hr1 hb1))
    all_goals (go_wp2_with (fail))
    all_goals go_meet
    all_goals first | exact ⟨rfl, boxi_a HB1.out HR1.out⟩ | exact ⟨rfl, boxi_b HB0.out HR1.out⟩
  case rest =>
    obtain ⟨rfl, gx, px, dx, rfl, hbx, hgx, hrx, hbc⟩ := hcut
    have HBC := Lib.hid (HLW.out.trans (hbc.mono HLW.out.size))
    have HGC := Lib.hid (HGA.out.on hbc)
    have HBX := Lib.hid hbx
    have HRX := Lib.hid hrx
    have HBW2 := Lib.hid ((hbc.block _ (lt_of_heap HBW.out)).trans HBW.out)
    clear HML HY z0 hrx hbc hbx HGA HBW
    by_cases hpos : 0 < MT.2
    · rw [if_pos hpos] at hLN
      have hne : (MT.2 == 0) = false := by simp; omega
      have y0 : wc.cell? ⟨gx, 0, none⟩ = _ := cell_of_row _ gx 0 _ _ (0, 0) HBX.out
      have y1 : wc.cell? ⟨gx, 1, none⟩ = _ := cell_of_row _ gx 1 _ _ (0, 0) HBX.out
      obtain ⟨-, -, -, x3, x4, -, -, -, -, -, -, -, -, -, -, -, -, ff⟩ := HGC.out.cells
      have f3 := ff 3
      have f4 := ff 4
      clear ff
      go_upto_region 5 with (fail)
      have HGM := Lib.hid (HG0.out.more HBC.out)
      have HR3 := Lib.hid (rowsin_sub HRX.out (S' := fun g => R g ∨ u.heap.size ≤ g ∧ g < wc.heap.size) fun b hb hl => hb.imp id fun h => ⟨h, hl⟩)
      have HF := Lib.hid ((Fr18.of_more (gb := gb) (R := R) HBC.out HSZ.out).trans (Fr18.of_store HGM.out HGB.out px MT.1.rows.length dx))
      have HGS := Lib.hid (HGM.out.store (p' := px) (d' := dx) HGB.out HR3.out HMS.out)
      have HW2 := Lib.hid ((gset_box HGM.out px MT.1.rows.length dx).2 u.heap.size (by rintro rfl; have h1 := HGM.out.box; rw [HBW2.out] at h1; simp at h1) |>.trans HBW2.out)
      clear HGC HBX HRX HBW2 HR3 HGM HG0 HBC HLW y0 y1 x3 x4 f3 f4
      generalize (fun g => R g ∨ u.heap.size ≤ g ∧ g < wc.heap.size) = R2 at *
      generalize (wc.setCell ⟨gb, 3, none⟩ (.int .i64 f.start)).setCell ⟨gb, 4, none⟩ (.slice px MT.1.rows.length (dx + MT.1.rows.length)) = u2 at *
      have hadd := fun (v : World) b (h : Edge.TwoAt v b f.now f.c.tl) => add_two h
      have HAD := Lib.hid hadd
      clear hadd
      have hlz : lz f.c key f.gen MT.2 f.now = ⟨key, f.gen, MT.2, 0, Sat.add [f.now, f.c.tl]⟩ := rfl
      rw [hlz] at hLN
      have htn := Edge.num_add [f.now, f.c.tl]
      obtain ⟨-, -, -, -, -, -, -, x7, -, -, x10, -, -, -, -, -, -, -⟩ := HGS.out.cells
      have HY := Lib.hid (fun v (hu : Below u2.heap.size u2 v) => show Below u2.heap.size u2 v ∧ v.cell? ⟨gb, 7, none⟩ = some (.int .i64 f.now) ∧ v.cell? ⟨gb, 10, none⟩ = some (.int .i64 f.c.tl) from ⟨hu, cell_on x7 hu, cell_on x10 hu⟩)
      have z0 := HY.out _ (Below.refl u2.heap.size u2).drew
      clear x7 x10
      generalize Sat.add [f.now, f.c.tl] = til at *
      go_cut [7] (fun a wx => a = .int .i64 til ∧ Below u2.heap.size u2 wx)
      case first =>
        go_region_held3 (fun v => Below u2.heap.size u2 v ∧ v.cell? ⟨gb, 7, none⟩ = some (.int .i64 f.now) ∧ v.cell? ⟨gb, 10, none⟩ = some (.int .i64 f.c.tl)) (first | with_reducible assumption | ((with_reducible refine HY.out _ ?_); first | with_reducible exact bel1 _ _)) (first
          | (go_at_call 88; (with_reducible refine (HAD.out _ _ (by first | exact two_a rfl | exact two_a (by simp))).mono ?_); rintro x w3 ⟨rfl, rfl⟩))
        all_goals (go_wp2_with (fail))
        all_goals go_meet
        all_goals exact ⟨rfl, bel1 _ _⟩
      case rest =>
        obtain ⟨rfl, hb3⟩ := hcut
        have HG3 := Lib.hid ((HGS.out.on hb3).on (Below.refl wc.heap.size wc).drew)
        have HF3 := Lib.hid (HF.out.trans (Fr18.of_below (gb := gb) (R := R2) (hb3.trans ((Below.refl wc.heap.size wc).drew.mono hb3.size)) HGS.out.size))
        have HW3 := Lib.hid (show wc.drew.heap[u.heap.size]? = _ from (hb3.block _ (lt_of_heap HW2.out)).trans HW2.out)
        have hGR := Edge.pgrant_any HP.out HG3.out.inn HG3.out.size HGD.out hln ⟨key, f.gen, MT.2, 0, til⟩ ⟨hk, hgn, hnum, by simp [Num], htn⟩ f.now
        have HGR := Lib.hid hGR
        generalize Edge.grant e ⟨key, f.gen, MT.2, 0, til⟩ f.now = GR at *
        simp only [Lease.val] at HGR
        obtain ⟨x0, -, -, -, -, x5, -, x7, -⟩ := HG3.out.cells
        have w0 : wc.drew.cell? ⟨u.heap.size, 0, none⟩ = _ := cell_of_row _ u.heap.size 0 _ _ (0, 0) HW3.out
        have z1 : wc.drew.cell? ⟨gb, 5, none⟩ = some (.pointer (some ⟨f.q, 0, none⟩)) ∧ wc.drew.cell? ⟨u.heap.size, 0, none⟩ = some (.int .i64 key) ∧ wc.drew.cell? ⟨gb, 0, none⟩ = some (.int .i64 f.gen) ∧ wc.drew.cell? ⟨gb, 7, none⟩ = some (.int .i64 f.now) := ⟨x5, w0, x0, x7⟩
        clear HY HAD z0 hb3 hGR x0 x5 x7 w0
        go_upto_region 6 with (fail)
        go_region_held3 (fun v => v.cell? ⟨gb, 5, none⟩ = some (.pointer (some ⟨f.q, 0, none⟩)) ∧ v.cell? ⟨u.heap.size, 0, none⟩ = some (.int .i64 key) ∧ v.cell? ⟨gb, 0, none⟩ = some (.int .i64 f.gen) ∧ v.cell? ⟨gb, 7, none⟩ = some (.int .i64 f.now)) (first | with_reducible assumption) (first
          | (go_at_call 164; (with_reducible refine HGR.out.mono ?_); rintro x w3 ⟨v3, rfl, hs3, hm3⟩; have HS3 := Lib.hid hs3; have HM3 := Lib.hid hm3; have z2 : _ ∧ _ ∧ _ ∧ _ := ⟨(HG3.out.moves hm3).cells.2.2.2.2.2.1, (show w3.cell? ⟨u.heap.size, 0, none⟩ = some (.int .i64 key) from cell_of_row _ u.heap.size 0 _ _ (0, 0) ((hm3.off.block _ _ _ _ HW3.out (by simp [Edge.mine])))), (HG3.out.moves hm3).cells.1, (HG3.out.moves hm3).cells.2.2.2.2.2.2.2.1⟩; clear hs3 hm3))
        all_goals (go_wp2_with (fail))
        all_goals go_ret
        all_goals (subst hLN; first | exact ⟨v3, rfl, HS3.out, R2, ⟨px, dx, HG3.out.moves HM3.out⟩, HF3.out.trans (Fr18.of_moves HM3.out)⟩ | exact ⟨v3, rfl, HS3.out, R2, px, dx, HG3.out.moves HM3.out, HF3.out.trans (Fr18.of_moves HM3.out)⟩)
    · have hz := hno hpos
      rw [if_neg hpos] at hLN
      subst hz
      subst hLN
      clear hpos
      go_wp2_with (fail)
      go_ret
      first | exact ⟨_, rfl, says_none _, R, ⟨p, d, HGC.out⟩, Fr18.of_below HBC.out HSZ.out⟩ | exact ⟨_, rfl, says_none _, R, p, d, HGC.out, Fr18.of_below HBC.out HSZ.out⟩
end
end Go.Proofs.YtbgdlokegibkmaaGreat.Visit
