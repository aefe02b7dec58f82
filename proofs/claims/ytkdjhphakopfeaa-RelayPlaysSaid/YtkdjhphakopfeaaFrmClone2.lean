/-
  The program's Clone, of any token of at most 1000 stamps, rows, and leases of a row: it returns a new one with the same; of what lay when the call began nothing has turned.
-/
import Derived.Test.YtkdjhphakopfeaaFrmClone
import Derived.Deep.RegionHeld3
namespace Go.Proofs.Ytkdjhphakopfeaa.Frame
open Go.RowKit Codec

theorem RowsS.of {w : World} {p : Option Addr} {l : List Rw} (h : RowsAt w p l) : RowsS w.heap.size w p l := by
  by_cases h0 : l = []
  · exact .inl h0
  · rcases h with h | ⟨b, o, h, hc⟩
    · exact .inl h
    · exact .inr ⟨b, o, h, .inl (World.block_lt_of_cell? _ _ (hc 0 (List.length_pos_iff.2 h0)).1), fun j hj => .of (hc j hj)⟩

/-- How it stands while rows are cloned. -/
structure ClSt (w : World) (t : Tk) (p1 p3 : Option Addr) (c1 c3 j : Nat) (wr : World) : Prop where
  below : Below w.heap.size w wr
  box : wr.heap[w.heap.size]? = some (.cells #[.int .i64 t.gen, .int .i64 t.hop, .slice p1 t.stamps.length c1, .int .i64 t.table.start, .slice p3 t.table.rows.length c3] 39 (0, 0))
  out : wr.heap[w.heap.size + 1]? = some (.cells #[.int .i64 0, .int .i64 0, .slice none 0 0, .int .i64 0, .slice none 0 0] 39 (0, 0))
  stamps : OwnS w.heap.size wr p1 t.stamps
  rows : t.table.rows = [] ∨ ∃ g, p3 = some ⟨g, 0, none⟩ ∧ w.heap.size ≤ g ∧ (∃ cs, wr.heap[g]? = some (.cells cs 89 (0, 0))) ∧ ∀ j, j < t.table.rows.length → RowS w.heap.size wr g (j * 4) (t.table.rows.getD j noRow)
  done : ∀ i, i < j → i < t.table.rows.length → ∀ g, p3 = some ⟨g, 0, none⟩ → RowS 0 wr g (i * 4) (t.table.rows.getD i noRow)

theorem Kp.lower {B B' : Nat} {T : TypeId} {w w' : World} (h : Kp B T w w') (hB : B' ≤ B) : Kp B' T w w' := ⟨Nat.le_trans hB h.1, fun g hg => h.2.1 g (by omega), h.2.2⟩
theorem LeasesS.from0 {B : Nat} {w : World} {p : Option Addr} {l : List (Int × Int)} (h : LeasesS 0 w p l) : LeasesS B w p l := h.lower (Nat.zero_le _)
theorem IntsS.from0 {B : Nat} {w : World} {p : Option Addr} {l : List Int} (h : IntsS 0 w p l) : IntsS B w p l := by
  rcases h with h | ⟨b, o, h, hl, hc⟩
  · exact .inl h
  · exact .inr ⟨b, o, h, hl.lower (Nat.zero_le _), hc⟩

theorem ClSt.step {w wr u : World} {t : Tk} {p1 p3 q : Option Addr} {c1 c3 d g j : Nat} (S : ClSt w t p1 p3 c1 c3 j wr) (hp : p3 = some ⟨g, 0, none⟩) (hj : j < t.table.rows.length) (hb : Below wr.heap.size wr u) (hl : LeasesS 0 u q (t.table.rows.getD j noRow).out) :
    ClSt w t p1 p3 c1 c3 (j + 1) (u.setCell ⟨g, j * 4 + 3, none⟩ (.slice q (t.table.rows.getD j noRow).out.length d)) := by
  have hbw : w.heap.size ≤ wr.heap.size := S.below.size
  rcases S.rows with h0 | ⟨g', e, hg, ⟨cs, hcs⟩, hr⟩
  · rw [h0] at hj; simp at hj
  · rw [hp] at e
    simp only [Option.some.injEq, Addr.mk.injEq, and_true] at e
    subst e
    have hgr := lt_of_heap hcs
    have hcs' : u.heap[g]? = some (.cells cs 89 (0, 0)) := (hb.block g hgr).trans hcs
    have hbox := (hb.block _ (lt_of_heap S.box)).trans S.box
    have hout := (hb.block _ (lt_of_heap S.out)).trans S.out
    have n1 : w.heap.size ≠ g := by
      intro e
      rw [e, hcs'] at hbox
      simp at hbox
    have n2 : w.heap.size + 1 ≠ g := by
      intro e
      rw [e, hcs'] at hout
      simp at hout
    have kp : ∀ T, T ≠ 89 → Kp w.heap.size T u (u.setCell ⟨g, j * 4 + 3, none⟩ (.slice q (t.table.rows.getD j noRow).out.length d)) := fun T hT => .grown hcs' (Ne.symm hT) hg (grown_set g _ _)
    have kb : ∀ T, Kp w.heap.size T wr u := fun T => .below hb hbw
    have far : ∀ o v, o ≠ j * 4 + 3 → u.cell? ⟨g, o, none⟩ = some v → (u.setCell ⟨g, j * 4 + 3, none⟩ (.slice q (t.table.rows.getD j noRow).out.length d)).cell? ⟨g, o, none⟩ = some v := fun o v ho h => by
      rw [World.cell?_setCell_other]
      · exact h
      · intro e
        simp only [Addr.mk.injEq] at e
        omega
    have key : ∀ B0, B0 ≤ w.heap.size → ∀ i B1, (i = j ∨ B1 = B0) → B1 ≤ w.heap.size → RowS B1 wr g (i * 4) (t.table.rows.getD i noRow) → RowS B0 (u.setCell ⟨g, j * 4 + 3, none⟩ (.slice q (t.table.rows.getD j noRow).out.length d)) g (i * 4) (t.table.rows.getD i noRow) := fun B0 h0 i B1 hi h1 hR => by
      obtain ⟨k0, k1, k2, p, c, k3, k4⟩ := hR.keep (.inr ⟨cs, _, hcs⟩) ((kb _).lower h1) ((kb _).lower h1)
      refine ⟨far _ _ (by omega) k0, far _ _ (by omega) k1, far _ _ (by omega) k2, ?_⟩
      by_cases hij : i = j
      · subst hij
        exact ⟨q, d, World.cell?_setCell_same _ _ _ k3, hl.from0.keep ((kp _ (by decide)).lower h0)⟩
      · obtain rfl : B1 = B0 := hi.resolve_left hij
        exact ⟨p, c, far _ _ (by omega) k3, k4.keep ((kp _ (by decide)).lower h0)⟩
    refine ⟨(S.below.trans (hb.mono hbw)).setCell (p := ⟨g, j * 4 + 3, none⟩) hg _, ?_, ?_, (S.stamps.keep (kb _)).keep (kp _ (by decide)), ?_, ?_⟩
    · rw [heap_setCell_other _ _ _ _ (by exact n1)]; exact hbox
    · rw [heap_setCell_other _ _ _ _ (by exact n2)]; exact hout
    · exact .inr ⟨g, hp, hg, ⟨_, heap_set g _ _ _ hcs'⟩, fun i hi => key _ (Nat.le_refl _) i _ (.inr rfl) (Nat.le_refl _) (hr i hi)⟩
    · intro i hi hi2 g2 hp2
      rw [hp] at hp2
      simp only [Option.some.injEq, Addr.mk.injEq, and_true] at hp2
      subst hp2
      by_cases hij : i = j
      · exact key 0 (Nat.zero_le _) i _ (.inl hij) (Nat.le_refl _) (hr i hi2)
      · exact key 0 (Nat.zero_le _) i 0 (.inr rfl) (Nat.zero_le _) (S.done i (by omega) hi2 g hp)

theorem ClSt.start {w w2 w3 : World} {t : Tk} {p1 p3 p : Option Addr} {c1 c3 c : Nat} (hb2 : Below w.heap.size w w2)
    (hs : w2.heap[w.heap.size]? = some (.cells #[.int .i64 t.gen, .int .i64 t.hop, .slice p1 t.stamps.length c1, .int .i64 t.table.start, .slice p t.table.rows.length c] 39 (0, 0)))
    (hr : w2.heap[w.heap.size + 1]? = some (.cells #[.int .i64 0, .int .i64 0, .slice none 0 0, .int .i64 0, .slice none 0 0] 39 (0, 0)))
    (hi : OwnS w.heap.size w2 p1 t.stamps) (hb3 : Below w2.heap.size w2 w3)
    (hnew : t.table.rows = [] ∨ ∃ g, p3 = some ⟨g, 0, none⟩ ∧ w2.heap.size ≤ g ∧ (∃ cs, w3.heap[g]? = some (.cells cs 89 (0, 0))) ∧ ∀ j, j < t.table.rows.length → RowS w.heap.size w3 g (j * 4) (t.table.rows.getD j noRow)) :
    ClSt w t p1 p3 c1 c3 0 (w3.setCell ⟨w.heap.size, 4, none⟩ (.slice p3 t.table.rows.length c3)) := by
  have hs3 := (hb3.block _ (lt_of_heap hs)).trans hs
  have hr3 := (hb3.block _ (lt_of_heap hr)).trans hr
  have kp : ∀ T, T ≠ 39 → Kp w.heap.size T w3 (w3.setCell ⟨w.heap.size, 4, none⟩ (.slice p3 t.table.rows.length c3)) := fun T hT => .grown hs3 (Ne.symm hT) (Nat.le_refl _) (grown_set _ _ _)
  refine ⟨(hb2.trans (hb3.mono hb2.size)).setCell (p := ⟨w.heap.size, 4, none⟩) (Nat.le_refl _) _, heap_set _ _ _ _ hs3, ?_, (hi.keep (.below hb3 hb2.size)).keep (kp _ (by decide)), ?_, fun i hi0 => by omega⟩
  · rw [heap_setCell_other _ _ _ _ (by simp)]; exact hr3
  · rcases hnew with h0 | ⟨g, hp, hg, ⟨cs, hcs⟩, hrows⟩
    · exact .inl h0
    · have := lt_of_heap hs
      refine .inr ⟨g, hp, by omega, ⟨cs, ?_⟩, fun j hj => (hrows j hj).keep (.inr ⟨cs, _, hcs⟩) (kp _ (by decide)) (kp _ (by decide))⟩
      rw [heap_setCell_other _ _ _ _ (by simp; omega)]; exact hcs

/-- Behind the first store. -/
structure ClMid (w w2 : World) (t : Tk) (p1 p : Option Addr) (c1 c : Nat) : Prop where
  below : Below w.heap.size w w2
  box : w2.heap[w.heap.size]? = some (.cells #[.int .i64 t.gen, .int .i64 t.hop, .slice p1 t.stamps.length c1, .int .i64 t.table.start, .slice p t.table.rows.length c] 39 (0, 0))
  out : w2.heap[w.heap.size + 1]? = some (.cells #[.int .i64 0, .int .i64 0, .slice none 0 0, .int .i64 0, .slice none 0 0] 39 (0, 0))
  stamps : OwnS w.heap.size w2 p1 t.stamps
theorem ClMid.mk' {w w0 w1 : World} {t : Tk} {ps p1 p : Option Addr} {cs c1 c : Nat} (b0 : Below w.heap.size w w0) (hb1 : Below w0.heap.size w0 w1)
    (hB : w0.heap[w.heap.size]? = some (.cells #[.int .i64 t.gen, .int .i64 t.hop, .slice ps t.stamps.length cs, .int .i64 t.table.start, .slice p t.table.rows.length c] 39 (0, 0)))
    (hR : w0.heap[w.heap.size + 1]? = some (.cells #[.int .i64 0, .int .i64 0, .slice none 0 0, .int .i64 0, .slice none 0 0] 39 (0, 0)))
    (hi : OwnS w0.heap.size w1 p1 t.stamps) : ClMid w (w1.setCell ⟨w.heap.size, 2, none⟩ (.slice p1 t.stamps.length c1)) t p1 p c1 c ∧ w1.cell? ⟨w.heap.size, 2, none⟩ = some (.slice ps t.stamps.length cs) ∧ w1.cell? ⟨w.heap.size, 4, none⟩ = some (.slice p t.table.rows.length c) ∧ w1.frozen? ⟨w.heap.size, 2, none⟩ = false := by
  have hB1 := (hb1.block _ (lt_of_heap hB)).trans hB
  have hR1 := (hb1.block _ (lt_of_heap hR)).trans hR
  refine ⟨⟨(b0.trans (hb1.mono b0.size)).setCell (p := ⟨w.heap.size, 2, none⟩) (Nat.le_refl _) _, heap_set _ _ _ _ hB1, ?_, (hi.lower b0.size).keep (.grown hB1 (by decide) (Nat.le_refl _) (grown_set _ _ _))⟩, ?_, ?_, frozen_of hB1⟩
  · rw [heap_setCell_other _ _ _ _ (by simp)]; exact hR1
  · rw [cell_of_row _ _ 2 _ _ _ hB1]; rfl
  · rw [cell_of_row _ _ 4 _ _ _ hB1]; rfl
theorem ClMid.start {w w2 w3 : World} {t : Tk} {p1 p3 p : Option Addr} {c1 c3 c : Nat} (M : ClMid w w2 t p1 p c1 c) (hb3 : Below w2.heap.size w2 w3)
    (hnew : t.table.rows = [] ∨ ∃ g, p3 = some ⟨g, 0, none⟩ ∧ w2.heap.size ≤ g ∧ (∃ cs, w3.heap[g]? = some (.cells cs 89 (0, 0))) ∧ ∀ j, j < t.table.rows.length → RowS w.heap.size w3 g (j * 4) (t.table.rows.getD j noRow)) :
    ClSt w t p1 p3 c1 c3 0 (w3.setCell ⟨w.heap.size, 4, none⟩ (.slice p3 t.table.rows.length c3)) ∧ w3.cell? ⟨w.heap.size, 4, none⟩ = some (.slice p t.table.rows.length c) ∧ w3.frozen? ⟨w.heap.size, 4, none⟩ = false := by
  have hB3 := (hb3.block _ (lt_of_heap M.box)).trans M.box
  refine ⟨.start M.below M.box M.out M.stamps hb3 hnew, ?_, frozen_of hB3⟩
  rw [cell_of_row _ _ 4 _ _ _ hB3]; rfl

theorem ClSt.own {w wr u : World} {t : Tk} {p1 p3 : Option Addr} {c1 c3 : Nat} (S : ClSt w t p1 p3 c1 c3 t.table.rows.length wr) (hg : wr.grownBy u (some (w.heap.size + 1))) : OwnS w.heap.size u p1 t.stamps ∧ RowsS 0 u p3 t.table.rows ∧ Below w.heap.size w u := by
  have kp : ∀ T, T ≠ 39 → Kp w.heap.size T wr u := fun T hT => .grown S.out (Ne.symm hT) (by omega) hg
  refine ⟨S.stamps.keep (kp _ (by decide)), ?_, S.below.grown hg S.below.size (fun k hk => by simp at hk; omega)⟩
  rcases S.rows with h | ⟨g, hp, hg', ⟨cs, hcs⟩, hr⟩
  · exact .inl h
  · exact .inr ⟨g, 0, hp, .inr ⟨cs, _, (kp _ (by decide)).2.2 g cs _ hcs⟩, fun j hj => by rw [Nat.zero_add]; exact (S.done j hj hj g hp).keep (.inr ⟨cs, _, hcs⟩) ((kp _ (by decide)).lower (Nat.zero_le _)) ((kp _ (by decide)).lower (Nat.zero_le _))⟩

/-- What Clone tells: a token whose stamps lie in a block of their own. -/
def ClonedS (w : World) (t : Tk) (e : Ending) (w' : World) : Prop :=
  ∃ ps cs p c, e = .returned (.agg #[.int .i64 t.gen, .int .i64 t.hop, .slice ps t.stamps.length cs, .int .i64 t.table.start, .slice p t.table.rows.length c]) ∧ OwnS w.heap.size w' ps t.stamps ∧ RowsS 0 w' p t.table.rows ∧ Below w.heap.size w w'
/-- What Clone tells. -/
def Cloned (w : World) (t : Tk) (e : Ending) (w' : World) : Prop :=
  ∃ ps cs p c, e = .returned (.agg #[.int .i64 t.gen, .int .i64 t.hop, .slice ps t.stamps.length cs, .int .i64 t.table.start, .slice p t.table.rows.length c]) ∧ Ints w' ps t.stamps ∧ RowsAt w' p t.table.rows ∧ Below w.heap.size w w'

set_option maxRecDepth 100000 in
set_option maxHeartbeats 2000000 in
theorem pclone_own (t : Tk) (ps p : Option Addr) (cs c : Nat) (w : World) (hn : t.stamps.length ≤ 1000) (hm : t.table.rows.length ≤ 1000) (hr : ∀ r ∈ t.table.rows, r.out.length ≤ 1000) (hst : Ints w ps t.stamps) (hnil : ps = none → t.stamps = []) (hl : RowsAt w p t.table.rows) :
    Calls Try.prog 34 #[.agg #[.int .i64 t.gen, .int .i64 t.hop, .slice ps t.stamps.length cs, .int .i64 t.table.start, .slice p t.table.rows.length c]] w (ClonedS w t) := by
  obtain ⟨b0, -, -⟩ := two_boxes w #[.int .i64 t.gen, .int .i64 t.hop, .slice ps t.stamps.length cs, .int .i64 t.table.start, .slice p t.table.rows.length c] #[.int .i64 0, .int .i64 0, .slice none 0 0, .int .i64 0, .slice none 0 0] 39
  have hB : ((w.alloc (.cells #[.int .i64 t.gen, .int .i64 t.hop, .slice ps t.stamps.length cs, .int .i64 t.table.start, .slice p t.table.rows.length c] 39)).alloc (.cells #[.int .i64 0, .int .i64 0, .slice none 0 0, .int .i64 0, .slice none 0 0] 39)).heap[w.heap.size]? = some (.cells #[.int .i64 t.gen, .int .i64 t.hop, .slice ps t.stamps.length cs, .int .i64 t.table.start, .slice p t.table.rows.length c] 39 (0, 0)) := (Below.heap_alloc _ _ _ (by simp)).trans (heap_alloc_new w _)
  have hR : ((w.alloc (.cells #[.int .i64 t.gen, .int .i64 t.hop, .slice ps t.stamps.length cs, .int .i64 t.table.start, .slice p t.table.rows.length c] 39)).alloc (.cells #[.int .i64 0, .int .i64 0, .slice none 0 0, .int .i64 0, .slice none 0 0] 39)).heap[w.heap.size + 1]? = some (.cells #[.int .i64 0, .int .i64 0, .slice none 0 0, .int .i64 0, .slice none 0 0] 39 (0, 0)) := by
    have := heap_alloc_new (w.alloc (.cells #[.int .i64 t.gen, .int .i64 t.hop, .slice ps t.stamps.length cs, .int .i64 t.table.start, .slice p t.table.rows.length c] 39)) (.cells #[.int .i64 0, .int .i64 0, .slice none 0 0, .int .i64 0, .slice none 0 0] 39)
    rwa [show (w.alloc (.cells #[.int .i64 t.gen, .int .i64 t.hop, .slice ps t.stamps.length cs, .int .i64 t.table.start, .slice p t.table.rows.length c] 39)).heap.size = w.heap.size + 1 by simp] at this
  have HR := Lib.hid hR
  have HB := Lib.hid hB
  have HST := Lib.hid (show ∀ u, Below w.heap.size w u → Ints u ps t.stamps from fun u hu => hst.below hu)
  have HL := Lib.hid (show ∀ u, Below w.heap.size w u → RowsS w.heap.size u p t.table.rows from fun u hu => (RowsS.of hl).keep (.below hu (Nat.le_refl _)) (.below hu (Nat.le_refl _)))
  have HRS := Lib.hid hr
  clear hB hR hst hl hr
  have c44 := fun (u : World) (hu : Below w.heap.size w u) => clone_ints ps t.stamps cs u hn (HST.out u hu) hnil
  clear hnil
  go_enter Try.func34, Try.ntmps34
  go_wp2_with (first
    | (go_at_call 47; (with_reducible refine (c44 _ b0).mono ?_); rintro e w1 ⟨p1, c1, rfl, hi1, hb1⟩; clear c44; obtain ⟨mid, d2, d4, f2⟩ := ClMid.mk' (c1 := c1) b0 hb1 HB.out HR.out hi1; have M := Lib.hid mid; clear mid hb1 hi1)
    | (go_at_call 48; (with_reducible refine (clone_rows w.heap.size p t.table.rows c _ M.out.below.size hm (HL.out _ M.out.below)).mono ?_); rintro e w3 ⟨p3, c3, rfl, hb3, hnew⟩; obtain ⟨s0, k4, f4⟩ := M.out.start (c3 := c3) hb3 hnew; have S0 := Lib.hid s0; clear s0 hb3 hnew))
  clear d2 d4 f2 k4 f4 M b0 HB HR HST HL
  generalize w3.setCell ⟨w.heap.size, 4, none⟩ (.slice p3 t.table.rows.length c3) = w4 at S0
  go_loopw [19] (fun i wr => ∃ j : Nat, j ≤ t.table.rows.length ∧ i = .int .i64 (j : Int) ∧ Hid (ClSt w t p1 p3 c1 c3 j wr)) (fun i _ => t.table.rows.length - (intOf i).toNat)
  case atStart => exact ⟨0, by omega, rfl, S0⟩
  case round =>
    obtain ⟨j, hj, rfl, S⟩ := hrel
    have k4 : wr.cell? ⟨w.heap.size, 4, none⟩ = some (.slice p3 t.table.rows.length c3) := by rw [cell_of_row _ _ 4 _ _ _ S.out.box]; rfl
    by_cases hlt : j < t.table.rows.length
    · obtain ⟨g, rfl, hg, ⟨cs, hcs⟩, hrow⟩ : ∃ g, p3 = some ⟨g, 0, none⟩ ∧ w.heap.size ≤ g ∧ (∃ cs, wr.heap[g]? = some (.cells cs 89 (0, 0))) ∧ ∀ j, j < t.table.rows.length → RowS w.heap.size wr g (j * 4) (t.table.rows.getD j noRow) := by
        rcases S.out.rows with h | h
        · rw [h] at hlt; simp at hlt
        · exact h
      obtain ⟨d0, d1, d2, p5, c5, d3, hle⟩ := hrow j hlt
      have fz : wr.frozen? ⟨g, j * 4 + 3, none⟩ = false := frozen_of hcs
      have hout := HRS.out (t.table.rows.getD j noRow) (by simp [List.getD, hlt])
      have cle := fun (u : World) (hu : Below wr.heap.size wr u) => clone_leases p5 (t.table.rows.getD j noRow).out c5 u hout (hle.leases.below hu)
      have hst := fun (u : World) (hu : Below wr.heap.size wr u) (q : Option Addr) (d : Nat) hq => S.out.step (q := q) (d := d) rfl hlt hu hq
      have HSTEP := Lib.hid hst
      have HCS := Lib.hid hcs
      have hgl : g < wr.heap.size := lt_of_heap hcs
      have hwl : w.heap.size < wr.heap.size := lt_of_heap S.out.box
      clear hrow hle hst hcs
      generalize t.table.rows.getD j noRow = r at d0 d1 d2 d3 cle HSTEP hout
      obtain ⟨x, av, mk, out⟩ := r
      simp only at d0 d1 d2 d3 cle HSTEP hout
      have hlt' : (j : Int) < (t.table.rows.length : Int) := by omega
      go_wp2
      generalize hwa : wr.alloc (.cells #[.int .i64 x, .int .i64 av, .int .i64 mk, .slice p5 out.length c5] 89) = wa
      have ba : Below wr.heap.size wr wa := by rw [← hwa]; exact (Below.refl _ _).alloc (Nat.le_refl _) _
      have n3 : wa.cell? ⟨wr.heap.size, 3, none⟩ = some (.slice p5 out.length c5) := by
        rw [← hwa, cell_of_row _ _ 3 _ _ (0, 0) (heap_alloc_new wr _)]; rfl
      have m4 := cell_on k4 ba
      have m3 := cell_on d3 ba
      have mz : wa.frozen? ⟨g, j * 4 + 3, none⟩ = false := (ba.frozen (p := ⟨g, j * 4 + 3, none⟩) hgl).trans fz
      have hne : w.heap.size ≠ g := by
        intro e
        have h1 := S.out.box
        rw [e] at h1
        have h2 := HCS.out
        rw [h1] at h2
        simp at h2
      have hnx : wr.heap.size ≠ g := by omega
      clear hwa d0 d1 d2 d3 fz k4 hgl
      have B0 := Lib.hid ba
      clear ba
      go_region_held3 (fun u => u.cell? ⟨w.heap.size, 4, none⟩ = some (.slice (some ⟨g, 0, none⟩) t.table.rows.length c3) ∧ u.cell? ⟨wr.heap.size, 3, none⟩ = some (.slice p5 out.length c5)) (first | assumption | exact ⟨m4, n3⟩ | exact hkeep _) (first
        | (go_at_call 49; (with_reducible refine (cle _ (B0.out.drew)).mono ?_); rintro e u1 ⟨q, d, rfl, hq, hb1⟩; have hb2 := undrew hb1; have o3 := cell_on m3 hb2; have oz : u1.frozen? ⟨g, j * 4 + 3, none⟩ = false := ((hb2.frozen (p := ⟨g, j * 4 + 3, none⟩) (World.block_lt_of_cell? _ _ m3)).trans mz); have o4 := cell_on m4 hb2; have l3 := cell_on n3 hb2; have hb3 := B0.out.trans (hb2.mono B0.out.size); have S1 := Lib.hid (HSTEP.out u1 hb3 q d hq); clear hb1 hb2 hb3 hq m3 mz; have hkeep : ∀ v, (u1.setCell ⟨g, j * 4 + 3, none⟩ v).cell? ⟨w.heap.size, 4, none⟩ = some (.slice (some ⟨g, 0, none⟩) t.table.rows.length c3) ∧ (u1.setCell ⟨g, j * 4 + 3, none⟩ v).cell? ⟨wr.heap.size, 3, none⟩ = some (.slice p5 out.length c5) := (fun v => ⟨(World.cell?_setCell_far _ ⟨g, j * 4 + 3, none⟩ ⟨w.heap.size, 4, none⟩ v (Ne.symm hne)).trans o4, (World.cell?_setCell_far _ ⟨g, j * 4 + 3, none⟩ ⟨wr.heap.size, 3, none⟩ v (Ne.symm hnx)).trans l3⟩); have hk1 := And.intro o4 l3))
      clear hkeep hk1 o3 oz o4 l3 HSTEP cle
      go_wp2
      go_roundw
      case rel => exact ⟨j + 1, by omega, by go_num, S1⟩
      case measure => simp [intOf]; omega
    · obtain rfl : j = t.table.rows.length := by omega
      have hbox := S.out.box
      have hout := S.out.out
      have b0 : wr.cell? ⟨w.heap.size, 0, none⟩ = some (.int .i64 t.gen) := by rw [cell_of_row _ _ 0 _ _ _ hbox]; rfl
      have b1 : wr.cell? ⟨w.heap.size, 1, none⟩ = some (.int .i64 t.hop) := by rw [cell_of_row _ _ 1 _ _ _ hbox]; rfl
      have b2 : wr.cell? ⟨w.heap.size, 2, none⟩ = some (.slice p1 t.stamps.length c1) := by rw [cell_of_row _ _ 2 _ _ _ hbox]; rfl
      have b3 : wr.cell? ⟨w.heap.size, 3, none⟩ = some (.int .i64 t.table.start) := by rw [cell_of_row _ _ 3 _ _ _ hbox]; rfl
      have r0 : wr.cell? ⟨w.heap.size + 1, 0, none⟩ = some (.int .i64 0) := by rw [cell_of_row _ _ 0 _ _ _ hout]; rfl
      have r1 : wr.cell? ⟨w.heap.size + 1, 1, none⟩ = some (.int .i64 0) := by rw [cell_of_row _ _ 1 _ _ _ hout]; rfl
      have r2 : wr.cell? ⟨w.heap.size + 1, 2, none⟩ = some (.slice none 0 0) := by rw [cell_of_row _ _ 2 _ _ _ hout]; rfl
      have r3 : wr.cell? ⟨w.heap.size + 1, 3, none⟩ = some (.int .i64 0) := by rw [cell_of_row _ _ 3 _ _ _ hout]; rfl
      have r4 : wr.cell? ⟨w.heap.size + 1, 4, none⟩ = some (.slice none 0 0) := by rw [cell_of_row _ _ 4 _ _ _ hout]; rfl
      have y0 : wr.frozen? ⟨w.heap.size + 1, 0, none⟩ = false := frozen_of hout
      have y1 : wr.frozen? ⟨w.heap.size + 1, 1, none⟩ = false := frozen_of hout
      have y2 : wr.frozen? ⟨w.heap.size + 1, 2, none⟩ = false := frozen_of hout
      have y3 : wr.frozen? ⟨w.heap.size + 1, 3, none⟩ = false := frozen_of hout
      have y4 : wr.frozen? ⟨w.heap.size + 1, 4, none⟩ = false := frozen_of hout
      clear hbox hout
      go_wp2
      refine bodyPost_ret (v := .agg #[.int .i64 t.gen, .int .i64 t.hop, .slice p1 t.stamps.length c1, .int .i64 t.table.start, .slice p3 t.table.rows.length c3]) (by simp [results, Try.results34, go_sem, *]) rfl ?_
      obtain ⟨e1, e2, e3⟩ := S.out.own (((((grown_set (w := wr) (w.heap.size + 1) 0 (.int .i64 t.gen)).trans (grown_set (w.heap.size + 1) 1 (.int .i64 t.hop))).trans (grown_set (w.heap.size + 1) 2 (.slice p1 t.stamps.length c1))).trans (grown_set (w.heap.size + 1) 3 (.int .i64 t.table.start))).trans (grown_set (w.heap.size + 1) 4 (.slice p3 t.table.rows.length c3)))
      exact ⟨p1, c1, p3, c3, rfl, e1, e2, e3⟩
theorem pclone_any (t : Tk) (ps p : Option Addr) (cs c : Nat) (w : World) (hn : t.stamps.length ≤ 1000) (hm : t.table.rows.length ≤ 1000) (hr : ∀ r ∈ t.table.rows, r.out.length ≤ 1000) (hst : Ints w ps t.stamps) (hnil : ps = none → t.stamps = []) (hl : RowsAt w p t.table.rows) :
    Calls Try.prog 34 #[.agg #[.int .i64 t.gen, .int .i64 t.hop, .slice ps t.stamps.length cs, .int .i64 t.table.start, .slice p t.table.rows.length c]] w (Cloned w t) := by
  refine (pclone_own t ps p cs c w hn hm hr hst hnil hl).mono ?_
  rintro e w' ⟨q1, k1, q2, k2, he, h1, h2, h3⟩
  exact ⟨q1, k1, q2, k2, he, h1.ints, h2.rows, h3⟩
end Go.Proofs.Ytkdjhphakopfeaa.Frame
