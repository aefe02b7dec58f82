/-
  The program's Stamp and Pass (package token), of any token of at most 1000 stamps, rows, and leases of a row.
-/
import Derived.Deep.DeepCutAuto
import Derived.Deep.QuietTactic
import Derived.BigQuiet
import Derived.Deep.RegionHeld3
import Derived.IntWalk
import Derived.Test.YtbgdlokegibkmaaGreatMmAc
import Derived.Test.YtbgdlokegibkmaaGreatMmAv
namespace Go.Proofs.YtbgdlokegibkmaaGreat.Token
open Go.RowKit
open _root_.Go.Proofs.YtbgdlokegibkmaaGreat.Frame (Rw Tb Tk noRow LeasesAt RowAt RowsAt cell_on Asked tokenOk OwnS RowsS Kp pclone_caps CapsAt)
open _root_.Go.Proofs.YtbgdlokegibkmaaGreat.Codec (Ints lt_of_heap frozen_of heap_set grown_set)
/-- Capacities stay where a block of another type turns. -/
theorem caps_keep {u u' : World} {r : Option Addr} {l : List Rw} (h : CapsAt u r l) (hs : RowsS 0 u r l) (k : Kp 0 80 u u') : CapsAt u' r l := fun g o hr j hj => by
  obtain ⟨q, c, hc⟩ := h g o hr j hj
  refine ⟨q, c, ?_⟩
  rcases hs with h0 | ⟨b, o', e, hl, -⟩
  · rw [h0] at hj; simp at hj
  · rw [hr] at e
    simp only [Option.some.injEq, Addr.mk.injEq, and_true] at e
    obtain ⟨rfl, rfl⟩ := e
    rcases hl with hl | ⟨cs, z, hl⟩
    · omega
    · exact (World.cell?_of_block (a := ⟨g, _, none⟩) ((k.2.2 g cs _ hl).trans hl.symm)).trans hc
/-- Rows in memory of their types, with capacities. -/
def RowsK (u : World) (r : Option Addr) (l : List Rw) : Prop := RowsS 0 u r l ∧ CapsAt u r l
theorem RowsK.keep {u u' : World} {r : Option Addr} {l : List Rw} (h : RowsK u r l) (k : Kp 0 80 u u') (k' : Kp 0 141 u u') : RowsK u' r l := ⟨h.1.keep k k', caps_keep h.2 h.1 k⟩
theorem RowsK.rows {u : World} {r : Option Addr} {l : List Rw} (h : RowsK u r l) : RowsAt u r l := h.1.rows
/-- A token that was cloned, in a box; another box for what is told. -/
structure Tst (w : World) (t : Tk) (q : Option Addr) (k : Nat) (r : Option Addr) (m : Nat) (u : World) : Prop where
  stamps : OwnS w.heap.size u q t.stamps
  rows : RowsK u r t.table.rows
  box : u.heap[w.heap.size]? = some (.cells #[.int .i64 t.gen, .int .i64 t.hop, .slice q t.stamps.length k, .int .i64 t.table.start, .slice r t.table.rows.length m] 30 (0, 0))
  out : u.heap[w.heap.size + 1]? = some (.cells #[.int .i64 0, .int .i64 0, .slice none 0 0, .int .i64 0, .slice none 0 0] 30 (0, 0))
  below : Below w.heap.size w u
theorem heap_five {u : World} {g : Nat} {z0 z1 z2 z3 z4 : Value} {T : TypeId} (h : u.heap[g]? = some (.cells #[z0, z1, z2, z3, z4] T (0, 0))) (v0 v1 v2 v3 v4 : Value) :
    (((((u.setCell ⟨g, 0, none⟩ v0).setCell ⟨g, 1, none⟩ v1).setCell ⟨g, 2, none⟩ v2).setCell ⟨g, 3, none⟩ v3).setCell ⟨g, 4, none⟩ v4).heap[g]? = some (.cells #[v0, v1, v2, v3, v4] T (0, 0)) := by
  have h1 : (u.setCell ⟨g, 0, none⟩ v0).heap[g]? = some (.cells #[v0, z1, z2, z3, z4] T (0, 0)) := by rw [heap_set _ 0 _ _ h]; rfl
  have h2 : ((u.setCell ⟨g, 0, none⟩ v0).setCell ⟨g, 1, none⟩ v1).heap[g]? = some (.cells #[v0, v1, z2, z3, z4] T (0, 0)) := by rw [heap_set _ 1 _ _ h1]; rfl
  have h3 : (((u.setCell ⟨g, 0, none⟩ v0).setCell ⟨g, 1, none⟩ v1).setCell ⟨g, 2, none⟩ v2).heap[g]? = some (.cells #[v0, v1, v2, z3, z4] T (0, 0)) := by rw [heap_set _ 2 _ _ h2]; rfl
  have h4 : ((((u.setCell ⟨g, 0, none⟩ v0).setCell ⟨g, 1, none⟩ v1).setCell ⟨g, 2, none⟩ v2).setCell ⟨g, 3, none⟩ v3).heap[g]? = some (.cells #[v0, v1, v2, v3, z4] T (0, 0)) := by rw [heap_set _ 3 _ _ h3]; rfl
  rw [heap_set _ 4 _ _ h4]; rfl
theorem grown_five (u : World) (g : Nat) (v0 v1 v2 v3 v4 : Value) : u.grownBy (((((u.setCell ⟨g, 0, none⟩ v0).setCell ⟨g, 1, none⟩ v1).setCell ⟨g, 2, none⟩ v2).setCell ⟨g, 3, none⟩ v3).setCell ⟨g, 4, none⟩ v4) (some g) :=
  ((((grown_set g 0 v0).trans (grown_set g 1 v1)).trans (grown_set g 2 v2)).trans (grown_set g 3 v3)).trans (grown_set g 4 v4)
/-- The clone is laid in its box. -/
theorem Tst.start {w w0 w1 : World} {t : Tk} {q r : Option Addr} {k m : Nat} {z0 z1 z2 z3 z4 : Value} (b0 : Below w.heap.size w w0)
    (hB : w0.heap[w.heap.size]? = some (.cells #[z0, z1, z2, z3, z4] 30 (0, 0)))
    (hR : w0.heap[w.heap.size + 1]? = some (.cells #[.int .i64 0, .int .i64 0, .slice none 0 0, .int .i64 0, .slice none 0 0] 30 (0, 0)))
    (h1 : OwnS w0.heap.size w1 q t.stamps) (h2 : RowsK w1 r t.table.rows) (hb : Below w0.heap.size w0 w1) :
    Tst w t q k r m (((((w1.setCell ⟨w.heap.size, 0, none⟩ (.int .i64 t.gen)).setCell ⟨w.heap.size, 1, none⟩ (.int .i64 t.hop)).setCell ⟨w.heap.size, 2, none⟩ (.slice q t.stamps.length k)).setCell ⟨w.heap.size, 3, none⟩ (.int .i64 t.table.start)).setCell ⟨w.heap.size, 4, none⟩ (.slice r t.table.rows.length m)) := by
  have hB1 := (hb.block _ (lt_of_heap hB)).trans hB
  have hR1 := (hb.block _ (lt_of_heap hR)).trans hR
  have hg := grown_five w1 w.heap.size (.int .i64 t.gen) (.int .i64 t.hop) (.slice q t.stamps.length k) (.int .i64 t.table.start) (.slice r t.table.rows.length m)
  have kp : ∀ T, T ≠ 30 → Kp 0 T w1 _ := fun T hT => .grown hB1 (Ne.symm hT) (Nat.zero_le _) hg
  refine ⟨(h1.lower b0.size).keep (kp _ (by decide)), h2.keep (kp _ (by decide)) (kp _ (by decide)), heap_five hB1 _ _ _ _ _, ?_, ?_⟩
  · exact (hg.block _ (lt_of_heap hR1) (by simp)).trans hR1
  · exact (b0.trans (hb.mono b0.size)).grown hg (Nat.le_trans b0.size hb.size) (fun j hj => by cases hj; exact Nat.le_refl _)
/-- A stamp is set. -/
theorem Tst.set {w u : World} {t : Tk} {g j k m : Nat} {r : Option Addr} (h : Tst w t (some ⟨g, 0, none⟩) k r m u) (hj : j < t.stamps.length) (x : Int) : u.frozen? ⟨g, j, none⟩ = false ∧ u.cell? ⟨g, j, none⟩ = some (.int .i64 (t.stamps.getD j 0)) ∧ Tst w ⟨t.gen, t.hop, t.stamps.set j x, t.table⟩ (some ⟨g, 0, none⟩) k r m (u.setCell ⟨g, j, none⟩ (.int .i64 x)) := by
  rcases h.stamps with h0 | ⟨g2, cs, e, hg, hh, hc⟩
  · rw [h0] at hj; simp at hj
  · simp only [Option.some.injEq, Addr.mk.injEq, and_true] at e
    subst e
    have hgr := grown_set (w := u) g j (.int .i64 x)
    have hne : ∀ {b : Nat} {vs : Array Value}, u.heap[b]? = some (.cells vs 30 (0, 0)) → b ≠ g := fun hv e => by
      subst e
      rw [hh] at hv
      simp at hv
    have hk : ∀ {b : Nat} {vs : Array Value}, u.heap[b]? = some (.cells vs 30 (0, 0)) → (u.setCell ⟨g, j, none⟩ (.int .i64 x)).heap[b]? = some (.cells vs 30 (0, 0)) := fun {b vs} hv => (Below.heap_setCell _ _ _ _ (hne hv)).trans hv
    have kp : ∀ T, T ≠ 3 → Kp 0 T u (u.setCell ⟨g, j, none⟩ (.int .i64 x)) := fun T hT => .grown hh (Ne.symm hT) (Nat.zero_le _) hgr
    refine ⟨frozen_of hh, hc j hj, ⟨.inr ⟨g, _, rfl, hg, heap_set g j _ _ hh, fun i hi => ?_⟩, h.rows.keep (kp _ (by decide)) (kp _ (by decide)), ?_, hk h.out, h.below.setCell hg _⟩⟩
    · simp only [List.length_set] at hi
      by_cases hij : i = j
      · subst hij
        rw [World.cell?_setCell_same _ _ _ (hc i hi)]
        simp [List.getD, hi]
      · rw [World.cell?_setCell_other _ _ _ _ (by intro e; simp only [Addr.mk.injEq] at e; omega), hc i hi]
        simp [List.getD, hi, Ne.symm hij]
    · simp only [List.length_set]
      exact hk h.box
/-- What is told is laid in its box. -/
theorem Tst.done2 {w u : World} {t : Tk} {q r : Option Addr} {k m : Nat} (h : Tst w t q k r m u) (v0 v1 v2 v3 v4 : Value) :
    OwnS w.heap.size (((((u.setCell ⟨w.heap.size + 1, 0, none⟩ v0).setCell ⟨w.heap.size + 1, 1, none⟩ v1).setCell ⟨w.heap.size + 1, 2, none⟩ v2).setCell ⟨w.heap.size + 1, 3, none⟩ v3).setCell ⟨w.heap.size + 1, 4, none⟩ v4) q t.stamps ∧
    RowsK (((((u.setCell ⟨w.heap.size + 1, 0, none⟩ v0).setCell ⟨w.heap.size + 1, 1, none⟩ v1).setCell ⟨w.heap.size + 1, 2, none⟩ v2).setCell ⟨w.heap.size + 1, 3, none⟩ v3).setCell ⟨w.heap.size + 1, 4, none⟩ v4) r t.table.rows ∧
    Below w.heap.size w (((((u.setCell ⟨w.heap.size + 1, 0, none⟩ v0).setCell ⟨w.heap.size + 1, 1, none⟩ v1).setCell ⟨w.heap.size + 1, 2, none⟩ v2).setCell ⟨w.heap.size + 1, 3, none⟩ v3).setCell ⟨w.heap.size + 1, 4, none⟩ v4) := by
  have hg := grown_five u (w.heap.size + 1) v0 v1 v2 v3 v4
  have kp : ∀ T, T ≠ 30 → Kp 0 T u _ := fun T hT => .grown h.out (Ne.symm hT) (Nat.zero_le _) hg
  exact ⟨h.stamps.keep (kp _ (by decide)), h.rows.keep (kp _ (by decide)) (kp _ (by decide)), h.below.grown hg h.below.size (fun j hj => by cases hj; omega)⟩
theorem Tst.done {w u : World} {t : Tk} {q r : Option Addr} {k m : Nat} (h : Tst w t q k r m u) (v0 v1 v2 v3 v4 : Value) :
    Ints (((((u.setCell ⟨w.heap.size + 1, 0, none⟩ v0).setCell ⟨w.heap.size + 1, 1, none⟩ v1).setCell ⟨w.heap.size + 1, 2, none⟩ v2).setCell ⟨w.heap.size + 1, 3, none⟩ v3).setCell ⟨w.heap.size + 1, 4, none⟩ v4) q t.stamps ∧
    RowsAt (((((u.setCell ⟨w.heap.size + 1, 0, none⟩ v0).setCell ⟨w.heap.size + 1, 1, none⟩ v1).setCell ⟨w.heap.size + 1, 2, none⟩ v2).setCell ⟨w.heap.size + 1, 3, none⟩ v3).setCell ⟨w.heap.size + 1, 4, none⟩ v4) r t.table.rows ∧
    Below w.heap.size w (((((u.setCell ⟨w.heap.size + 1, 0, none⟩ v0).setCell ⟨w.heap.size + 1, 1, none⟩ v1).setCell ⟨w.heap.size + 1, 2, none⟩ v2).setCell ⟨w.heap.size + 1, 3, none⟩ v3).setCell ⟨w.heap.size + 1, 4, none⟩ v4) := by
  have k := h.done2 v0 v1 v2 v3 v4
  exact ⟨k.1.ints, k.2.1.rows, k.2.2⟩
set_option maxRecDepth 100000 in
theorem pstamp_far (t : Tk) (ps : Option Addr) (cs : Nat) (p : Option Addr) (c : Nat) (node now : Int) (w : World) (hn : t.stamps.length ≤ 1000) (hm : t.table.rows.length ≤ 1000) (hr : ∀ r ∈ t.table.rows, r.out.length ≤ 1000) (hst : Ints w ps t.stamps) (hl : RowsAt w p t.table.rows) :
    Calls Tryz.prog 51 #[tokVal t ps cs p c, .int .i64 node, .int .i64 now] w fun e w' => ∃ ps' cs' p' c', e = .returned (.tuple #[tokVal (stamped t node now).1 ps' cs' p' c', .int .i64 (stamped t node now).2]) ∧ OwnS w.heap.size w' ps' (stamped t node now).1.stamps ∧ RowsK w' p' (stamped t node now).1.table.rows ∧ (∃ c0, c0 + (stamped t node now).1.table.rows.length = c') ∧ Below w.heap.size w w' := by
  have hnil : ps = none → t.stamps = [] := fun e => by
    rcases hst with h | ⟨b, o, h, _⟩
    · exact h
    · rw [e] at h; cases h
  have hc := fun (u : World) (hu : Below w.heap.size w u) => pclone_caps t ps p cs c u hn hm hr (hst.below hu) hnil (hl.below hu)
  unfold tokVal
  have M0 := Lib.hid (((Mem.start w).box #[.int .i64 t.gen, .int .i64 t.hop, .slice ps t.stamps.length cs, .int .i64 t.table.start, .slice p t.table.rows.length c] 30).box #[.int .i64 0, .int .i64 0, .slice none 0 0, .int .i64 0, .slice none 0 0] 30)
  simp only [size_alloc] at M0
  clear hst hl hnil
  have hcase : ((node < 0 ∨ ¬ node < 0 ∧ ((t.stamps.length : Int) ≤ node ∨ ¬ (t.stamps.length : Int) ≤ node ∧ (now < 0 ∨ ¬ now < 0 ∧ 4611686018427387904 ≤ now))) ∧ stamped t node now = (t, 1)) ∨ (∃ j : Nat, node = (j : Int) ∧ j < t.stamps.length ∧ ¬ now < 0 ∧ ¬ 4611686018427387904 ≤ now ∧ stamped t node now = (⟨t.gen, t.hop, t.stamps.set j now, t.table⟩, 0)) := by
    unfold stamped
    by_cases h : node < 0 ∨ (t.stamps.length : Int) ≤ node ∨ now < 0 ∨ 4611686018427387903 < now
    · rw [if_pos h]
      exact .inl ⟨by omega, rfl⟩
    · rw [if_neg h]
      exact .inr ⟨node.toNat, by omega, by omega, by omega, by omega, rfl⟩
  generalize stamped t node now = SN at hcase ⊢
  go_enter Tryz.func51, Tryz.ntmps51
  go_upto_region 2 with (go_at_call 53; (with_reducible refine (hc _ M0.out.below).mono ?_); rintro e w1 ⟨q, k, r, m, rfl, h1, ⟨h2, h2c, hm0⟩, hb⟩; have HM := Lib.hid hm0; have T0 := Lib.hid (Tst.start (k := k) (m := m) M0.out.below (M0.out.boxes 1 _ _ _ rfl) (M0.out.boxes 0 _ _ _ rfl) h1 ⟨h2, h2c⟩ hb); obtain ⟨x0, x1, x2, x3, x4, ff⟩ := box5f ((M0.out.on hb).boxes 1 _ _ _ rfl); have f0 := ff 0; have f1 := ff 1; have f2 := ff 2; have f3 := ff 3; have f4 := ff 4; clear ff h1 h2 h2c hm0 hb hc)
  clear x0 x1 x2 x3 x4 f0 f1 f2 f3 f4 M0
  generalize ((((w1.setCell ⟨w.heap.size, 0, none⟩ (.int .i64 t.gen)).setCell ⟨w.heap.size, 1, none⟩ (.int .i64 t.hop)).setCell ⟨w.heap.size, 2, none⟩ (.slice q t.stamps.length k)).setCell ⟨w.heap.size, 3, none⟩ (.int .i64 t.table.start)).setCell ⟨w.heap.size, 4, none⟩ (.slice r t.table.rows.length m) = W at *
  obtain ⟨x0, x1, x2, x3, x4, ff⟩ := box5f T0.out.box
  obtain ⟨y0, y1, y2, y3, y4, gg⟩ := box5f T0.out.out
  rcases hcase with ⟨hcase, rfl⟩ | ⟨j, rfl, hj, h3, h4, rfl⟩
  · skip
    have f0 := gg 0
    have f1 := gg 1
    have f2 := gg 2
    have f3 := gg 3
    have f4 := gg 4
    clear ff gg
    have TD := Lib.hid (T0.out.done2 (.int .i64 t.gen) (.int .i64 t.hop) (.slice q t.stamps.length k) (.int .i64 t.table.start) (.slice r t.table.rows.length m))
    rcases hcase with h1 | ⟨h1, h2 | ⟨h2, h3 | ⟨h3, h4⟩⟩⟩
    all_goals
      go_wp2
      refine bodyPost_ret (v := .tuple #[.agg #[.int .i64 t.gen, .int .i64 t.hop, .slice q t.stamps.length k, .int .i64 t.table.start, .slice r t.table.rows.length m], .int .i64 1]) (by simp [results, Tryz.results51, go_sem, y0, y1, y2, y3, y4]) rfl ⟨q, k, r, m, rfl, TD.out.1, TD.out.2.1, HM.out, TD.out.2.2⟩
  · obtain ⟨g, hq⟩ : ∃ g, q = some ⟨g, 0, none⟩ := by
      rcases T0.out.stamps with h | ⟨g, _, h, _⟩
      · rw [h] at hj; simp at hj
      · exact ⟨g, h⟩
    subst hq
    obtain ⟨fz, hcell, hT⟩ := T0.out.set hj now
    have T1 := Lib.hid hT
    clear ff gg hT y0 y1 y2 y3 y4
    go_upto_region 5 with fail
    clear x2 fz hcell T0
    generalize W.setCell ⟨g, j, none⟩ (.int .i64 now) = V at *
    obtain ⟨x0, x1, x2, x3, x4, -⟩ := box5f T1.out.box
    obtain ⟨y0, y1, y2, y3, y4, gg⟩ := box5f T1.out.out
    simp only [List.length_set] at x2
    have f0 := gg 0
    have f1 := gg 1
    have f2 := gg 2
    have f3 := gg 3
    have f4 := gg 4
    clear gg
    have TD := Lib.hid (T1.out.done2 (.int .i64 t.gen) (.int .i64 t.hop) (.slice (some ⟨g, 0, none⟩) t.stamps.length k) (.int .i64 t.table.start) (.slice r t.table.rows.length m))
    go_wp2
    refine bodyPost_ret (v := .tuple #[.agg #[.int .i64 t.gen, .int .i64 t.hop, .slice (some ⟨g, 0, none⟩) t.stamps.length k, .int .i64 t.table.start, .slice r t.table.rows.length m], .int .i64 0]) (by simp [results, Tryz.results51, go_sem, y0, y1, y2, y3, y4]) rfl ⟨some ⟨g, 0, none⟩, k, r, m, by simp only [], TD.out.1, TD.out.2.1, HM.out, TD.out.2.2⟩
end Go.Proofs.YtbgdlokegibkmaaGreat.Token
