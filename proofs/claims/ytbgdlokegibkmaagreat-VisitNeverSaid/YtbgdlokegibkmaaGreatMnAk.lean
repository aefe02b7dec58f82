/-
  The document's Stamp, Until and Valid, of any token of at most 1000 stamps.
-/
import Derived.Deep.DeepCutAuto
import Derived.Test.YtbgdlokegibkmaaGreatMnAc
import Derived.Test.YtbgdlokegibkmaaGreatMnAe
import Derived.Test.YtbgdlokegibkmaaGreatMnAa
import Derived.Test.YtbgdlokegibkmaaGreatMnAb
namespace Go.Proofs.YtbgdlokegibkmaaGreat.Token
open Go.RowKit
open _root_.Go.Proofs.YtbgdlokegibkmaaGreat.Frame (Rw Tb Tk noRow LeasesAt RowAt RowsAt cell_on Asked tokenOk)
open _root_.Go.Proofs.YtbgdlokegibkmaaGreat.Codec (Ints lt_of_heap frozen_of heap_set)
open _root_.Go.Proofs.YtbgdlokegibkmaaGreat.Ring (nth maj)
open _root_.Go.Proofs.YtbgdlokegibkmaaGreat.Sat (add fit)
/-- While stamps are copied: the token's box, the result's, the row that is made. -/
structure Sst (w : World) (t : Tk) (ps : Option Addr) (cs : Nat) (p : Option Addr) (c : Nat) (v : Value) (L : List Int) (u : World) : Prop where
  own : OwnI w.heap.size u v L
  box : u.heap[w.heap.size]? = some (.cells #[.int .i64 t.gen, .int .i64 t.hop, .slice ps t.stamps.length cs, .int .i64 t.table.start, .slice p t.table.rows.length c] 30 (0, 0))
  res : u.heap[w.heap.size + 1]? = some (.cells #[.int .i64 0, .int .i64 0, .slice none 0 0, .int .i64 0, .slice none 0 0] 30 (0, 0))
  below : Below w.heap.size w u
/-- The boxes are filled; what was made stays. -/
theorem Sst.done {w u : World} {t : Tk} {ps p : Option Addr} {cs c : Nat} {v : Value} {L : List Int} (h : Sst w t ps cs p c v L u) (y v0 v1 v2 v3 v4 : Value) :
    OwnI w.heap.size ((((((u.setCell ⟨w.heap.size, 2, none⟩ y).setCell ⟨w.heap.size + 1, 0, none⟩ v0).setCell ⟨w.heap.size + 1, 1, none⟩ v1).setCell ⟨w.heap.size + 1, 2, none⟩ v2).setCell ⟨w.heap.size + 1, 3, none⟩ v3).setCell ⟨w.heap.size + 1, 4, none⟩ v4) v L ∧
    Below w.heap.size w ((((((u.setCell ⟨w.heap.size, 2, none⟩ y).setCell ⟨w.heap.size + 1, 0, none⟩ v0).setCell ⟨w.heap.size + 1, 1, none⟩ v1).setCell ⟨w.heap.size + 1, 2, none⟩ v2).setCell ⟨w.heap.size + 1, 3, none⟩ v3).setCell ⟨w.heap.size + 1, 4, none⟩ v4) := by
  refine ⟨own_keep h.own fun b hb => ?_, (((((h.below.setCell (p := ⟨w.heap.size, 2, none⟩) (Nat.le_refl _) y).setCell (p := ⟨w.heap.size + 1, 0, none⟩) (Nat.le_succ _) v0).setCell (p := ⟨w.heap.size + 1, 1, none⟩) (Nat.le_succ _) v1).setCell (p := ⟨w.heap.size + 1, 2, none⟩) (Nat.le_succ _) v2).setCell (p := ⟨w.heap.size + 1, 3, none⟩) (Nat.le_succ _) v3).setCell (p := ⟨w.heap.size + 1, 4, none⟩) (Nat.le_succ _) v4⟩
  obtain ⟨cur, hc⟩ := own_heap h.own hb
  have n1 : b ≠ w.heap.size := by
    rintro rfl
    rw [h.box] at hc
    simp at hc
  have n2 : b ≠ w.heap.size + 1 := by
    rintro rfl
    rw [h.res] at hc
    simp at hc
  exact (Below.heap_setCell _ _ _ _ n2).trans ((Below.heap_setCell _ _ _ _ n2).trans ((Below.heap_setCell _ _ _ _ n2).trans ((Below.heap_setCell _ _ _ _ n2).trans ((Below.heap_setCell _ _ _ _ n2).trans (Below.heap_setCell _ _ _ _ n1)))))
set_option maxRecDepth 100000 in
set_option maxHeartbeats 4000000 in
theorem rstamp_no (t : Tk) (ps : Option Addr) (cs : Nat) (p : Option Addr) (c : Nat) (node now : Int) (w : World) (h : node < 0 ∨ (t.stamps.length : Int) ≤ node ∨ now < 0 ∨ 4611686018427387903 < now) :
    Calls Tryz.prog 59 #[tokVal t ps cs p c, .int .i64 node, .int .i64 now] w fun e w' => e = .returned (.tuple #[tokVal t ps cs p c, .int .i64 1]) ∧ Below w.heap.size w w' := by
  unfold tokVal
  have M0 := Lib.hid (((Mem.start w).box #[.int .i64 t.gen, .int .i64 t.hop, .slice ps t.stamps.length cs, .int .i64 t.table.start, .slice p t.table.rows.length c] 30).box #[.int .i64 0, .int .i64 0, .slice none 0 0, .int .i64 0, .slice none 0 0] 30)
  simp only [size_alloc] at M0
  obtain ⟨x0, x1, x2, x3, x4, -⟩ := box5f (M0.out.boxes 1 _ _ _ rfl)
  obtain ⟨y0, y1, y2, y3, y4, gg⟩ := box5f (M0.out.boxes 0 _ _ _ rfl)
  have hcase : node < 0 ∨ ¬ node < 0 ∧ ((t.stamps.length : Int) ≤ node ∨ ¬ (t.stamps.length : Int) ≤ node ∧ (now < 0 ∨ ¬ now < 0 ∧ 4611686018427387903 < now)) := by omega
  clear h
  have HB := Lib.hid (fun v0 v1 v2 v3 v4 => show Below w.heap.size w (((((((w.alloc (.cells #[.int .i64 t.gen, .int .i64 t.hop, .slice ps t.stamps.length cs, .int .i64 t.table.start, .slice p t.table.rows.length c] 30)).alloc (.cells #[.int .i64 0, .int .i64 0, .slice none 0 0, .int .i64 0, .slice none 0 0] 30)).setCell ⟨w.heap.size + 1, 0, none⟩ v0).setCell ⟨w.heap.size + 1, 1, none⟩ v1).setCell ⟨w.heap.size + 1, 2, none⟩ v2).setCell ⟨w.heap.size + 1, 3, none⟩ v3).setCell ⟨w.heap.size + 1, 4, none⟩ v4) from
    ((((M0.out.below.setCell (p := ⟨w.heap.size + 1, 0, none⟩) (Nat.le_succ _) v0).setCell (p := ⟨w.heap.size + 1, 1, none⟩) (Nat.le_succ _) v1).setCell (p := ⟨w.heap.size + 1, 2, none⟩) (Nat.le_succ _) v2).setCell (p := ⟨w.heap.size + 1, 3, none⟩) (Nat.le_succ _) v3).setCell (p := ⟨w.heap.size + 1, 4, none⟩) (Nat.le_succ _) v4)
  go_enter Tryz.func59, Tryz.ntmps59
  go_upto_region 1 with (fail)
  generalize (w.alloc (.cells #[.int .i64 t.gen, .int .i64 t.hop, .slice ps t.stamps.length cs, .int .i64 t.table.start, .slice p t.table.rows.length c] 30)).alloc (.cells #[.int .i64 0, .int .i64 0, .slice none 0 0, .int .i64 0, .slice none 0 0] 30) = W at *
  clear M0
  rcases hcase with h1 | ⟨h1, h2 | ⟨h2, h3 | ⟨h3, h4⟩⟩⟩
  all_goals
    go_wp2
    refine bodyPost_ret (v := .tuple #[.agg #[.int .i64 t.gen, .int .i64 t.hop, .slice ps t.stamps.length cs, .int .i64 t.table.start, .slice p t.table.rows.length c], .int .i64 1]) (by simp [results, Tryz.results59, go_sem, y0, y1, y2, y3, y4]) rfl ⟨rfl, HB.out _ _ _ _ _⟩
/-- While stamps are gathered: the token's box, the row that is made. -/
structure Ust (w : World) (t : Tk) (ps : Option Addr) (cs : Nat) (p : Option Addr) (c : Nat) (v : Value) (L : List Int) (u : World) : Prop where
  own : OwnI w.heap.size u v L
  box : u.heap[w.heap.size]? = some (.cells #[.int .i64 t.gen, .int .i64 t.hop, .slice ps t.stamps.length cs, .int .i64 t.table.start, .slice p t.table.rows.length c] 30 (0, 0))
  below : Below w.heap.size w u
theorem Ust.on {w u u' : World} {t : Tk} {ps p : Option Addr} {cs c : Nat} {v : Value} {L : List Int} (h : Ust w t ps cs p c v L u) (hb : Below u.heap.size u u') : Ust w t ps cs p c v L u' :=
  ⟨Codec.own_below h.own hb, (hb.block _ (lt_of_heap h.box)).trans h.box, h.below.trans (hb.mono h.below.size)⟩
theorem Ust.push {w u w' : World} {t : Tk} {ps p : Option Addr} {cs c : Nat} {v v' : Value} {L L' : List Int} (h : Ust w t ps cs p c v L u) (ho : OwnI w.heap.size w' v' L') (hg : u.grownBy w' v.ownBlock) : Ust w t ps cs p c v' L' w' := by
  have hne : some w.heap.size ≠ v.ownBlock := fun e => by
    obtain ⟨cur, hc⟩ := own_heap h.own e.symm
    rw [h.box] at hc
    simp at hc
  exact ⟨ho, (hg.block _ (lt_of_heap h.box) hne).trans h.box, h.below.grown hg h.below.size (fun k hk => (World.ownsRow.lt h.own k hk).1)⟩
theorem given_snoc (l : List Int) (j : Nat) (hj : j < l.length) : given (l.take (j + 1)) = given (l.take j) ++ (if 0 ≤ l.getD j 0 then [l.getD j 0] else []) := by
  rw [List.take_succ_eq_append_getElem hj]
  unfold given
  rw [List.filter_append]
  congr 1
  have e : l.getD j 0 = l[j] := by simp [List.getD, hj]
  rw [e]
  by_cases h : 0 ≤ l[j] <;> simp [h]
theorem given_len (l : List Int) (j : Nat) : (given (l.take j)).length ≤ l.length := Nat.le_trans (List.length_filter_le _ _) (by rw [List.length_take]; omega)
set_option maxRecDepth 100000 in
set_option maxHeartbeats 4000000 in
theorem runtil_any (t : Tk) (ps : Option Addr) (cs : Nat) (p : Option Addr) (c : Nat) (span : Int) (w : World) (hn : t.stamps.length ≤ 1000) (hst : Ints w ps t.stamps) :
    Calls Tryz.prog 69 #[tokVal t ps cs p c, .int .i64 span] w fun e w' => e = .returned (.int .i64 (upto t.stamps span)) ∧ Below w.heap.size w w' := by
  unfold tokVal
  have F0 := Lib.hid (show Ust w t ps cs p c (.slice none 0 0) (given (t.stamps.take 0)) (w.alloc (.cells #[.int .i64 t.gen, .int .i64 t.hop, .slice ps t.stamps.length cs, .int .i64 t.table.start, .slice p t.table.rows.length c] 30)) from by
    have M := (Mem.start w).box #[.int .i64 t.gen, .int .i64 t.hop, .slice ps t.stamps.length cs, .int .i64 t.table.start, .slice p t.table.rows.length c] 30
    exact ⟨World.ownsRow_nil _ _ _ _, M.boxes 0 _ _ _ rfl, M.below⟩)
  obtain ⟨x0, x1, x2, x3, x4, -⟩ := box5f F0.out.box
  have HS := Lib.hid (given_snoc t.stamps)
  have HG := Lib.hid (given_len t.stamps)
  have HI := Lib.hid hst
  have HM := Lib.hid (fun u => Ring.refmaj_any (t.stamps.length : Int) u (by omega))
  have HU := Lib.hid (show upto t.stamps span = if 1 ≤ maj t.stamps.length ∧ maj t.stamps.length ≤ ((given t.stamps).length : Int) then add [nth (given t.stamps) (maj t.stamps.length), span] else -1 from rfl)
  generalize upto t.stamps span = R at *
  clear hst
  go_enter Tryz.func69, Tryz.ntmps69
  go_wp2
  go_loopw [5, 6] (fun l i wr => ∃ (j : Nat) (q : Option Addr) (d n : Nat), j ≤ t.stamps.length ∧ i = .int .i64 (j : Int) ∧ l = .slice q n d ∧ Hid (n = (given (t.stamps.take j)).length) ∧ Hid (Ust w t ps cs p c (.slice q n d) (given (t.stamps.take j)) wr)) (fun _ i _ => t.stamps.length - (intOf i).toNat)
  case atStart => exact ⟨0, none, 0, 0, by omega, rfl, rfl, Lib.hid rfl, F0⟩
  case round =>
    obtain ⟨j, q, d, n, hj, rfl, rfl, hnn, hF⟩ := hrel
    clear F0 x0 x1 x2 x3 x4
    obtain ⟨x0, x1, x2, x3, x4, -⟩ := box5f hF.out.box
    have hgl := HG.out j
    have hlen := hnn.out
    by_cases hlt : j < t.stamps.length
    · have hlt' : (j : Int) < (t.stamps.length : Int) := by omega
      have hs := Lib.hid (HS.out j hlt)
      have FA := Lib.hid (fun (x : Int) => hF.out.on ((Below.refl _ _).alloc (Nat.le_refl _) (.cells #[.int .i64 x] 3)))
      obtain ⟨b, o, rfl, hcell⟩ : ∃ b o, ps = some ⟨b, o, none⟩ ∧ wr.cell? ⟨b, o + j, none⟩ = some (.int .i64 (t.stamps.getD j 0)) := by
        rcases HI.out with h0 | ⟨b, o, e, hc⟩
        · rw [h0] at hlt; simp at hlt
        · exact ⟨b, o, e, cell_on (hc j hlt) hF.out.below⟩
      generalize given (t.stamps.take j) = M at *
      generalize t.stamps.getD j 0 = xx at *
      clear HS HG HI HU HM
      by_cases he : 0 ≤ xx
      · have hs2 := Lib.hid (hs.out.trans (by rw [if_pos he]))
        clear hs
        have HN := Lib.hid hlen
        have hn5 : n ≤ 1000 := by omega
        clear hlen hgl
        go_wp2_with (at_builtin; refine push_int rfl (.tmp 22) (.tmp 28) rfl w.heap.size (.slice q n d) rfl M n HN.out.symm (FA.out xx).own (FA.out xx).below.size _ xx rfl (heap_alloc_new _ _) (by omega) ?_; intro q1 d1 w4 R4 G4 A4; have F4 := Lib.hid ((FA.out xx).push R4.out G4); clear R4 G4 A4 FA x0 x1 x2 x3 x4)
        go_roundw
        case rel => exact ⟨j + 1, q1, d1, n + 1, by omega, by go_num, rfl, by rw [hs2.out, List.length_append, ← HN.out]; exact Lib.hid rfl, by rw [hs2.out]; exact F4⟩
        case measure => simp [intOf]; omega
      · have hs2 := Lib.hid (hs.out.trans (by rw [if_neg he, List.append_nil]))
        clear hs FA
        go_wp2
        go_roundw
        case rel => exact ⟨j + 1, q, d, n, by omega, by go_num, rfl, by rw [hs2.out]; exact hnn, by rw [hs2.out]; exact hF⟩
        case measure => simp [intOf]; omega
    · have hjl : j = t.stamps.length := by omega
      have hlt' : ¬ (j : Int) < (t.stamps.length : Int) := by omega
      have hown := hF.out.own
      rw [hjl, List.take_length] at hown hlen
      have HB := Lib.hid hF.out.below
      have hG : (given t.stamps).length ≤ 1000 := Nat.le_trans (List.length_filter_le _ _) hn
      generalize given t.stamps = G at *
      subst hlen
      have hints := own_ints hown
      clear HS HG HI hnn hF hown hgl
      by_cases hc : 1 ≤ maj t.stamps.length ∧ maj t.stamps.length ≤ (G.length : Int)
      · have HR := Lib.hid (HU.out.trans (by rw [if_pos hc]))
        obtain ⟨b, o, rfl, hcells⟩ : ∃ b o, q = some ⟨b, o, none⟩ ∧ ∀ i, i < G.length → wr.cell? ⟨b, o + i, none⟩ = some (.int .i64 (G.getD i 0)) := by
          rcases hints with h0 | h
          · rw [h0] at hc; simp at hc; omega
          · exact h
        have HNT := Lib.hid (fun u (hu : Below wr.heap.size wr u) => Ring.refnth_in b o d G (maj t.stamps.length) u hG hc.1 hc.2 (fun i hi => cell_on (hcells i hi) hu))
        have HTW := Lib.hid (fun u => Sat.rtwo_any (nth G (maj t.stamps.length)) span u)
        clear HU hcells hints hc
        generalize nth G (maj t.stamps.length) = N at *
        generalize maj (t.stamps.length : Int) = mj at *
        go_wp2_with (first
          | (go_at_call 132; (with_reducible refine (HM.out _).mono ?_); rintro e u1 ⟨rfl, rfl⟩)
          | (go_at_call 131; (with_reducible refine (HNT.out _ (Below.refl _ _)).mono ?_); rintro e u1 ⟨rfl, hb⟩; have HB1 := Lib.hid (HB.out.trans (hb.mono HB.out.size)); clear hb)
          | (go_at_call 50; (with_reducible refine (HTW.out _).mono ?_); rintro e u1 ⟨rfl, rfl⟩))
        go_ret
        exact ⟨by rw [HR.out]; rfl, HB1.out⟩
      · have HR := Lib.hid (HU.out.trans (by rw [if_neg hc]))
        have HNT := Lib.hid (fun u => Ring.refnth_out q G.length d (maj t.stamps.length) u hc)
        clear HU hints hc
        generalize maj (t.stamps.length : Int) = mj at *
        go_wp2_with (first
          | (go_at_call 132; (with_reducible refine (HM.out _).mono ?_); rintro e u1 ⟨rfl, rfl⟩)
          | (go_at_call 131; (with_reducible refine (HNT.out _).mono ?_); rintro e u1 ⟨rfl, rfl⟩))
        go_ret
        exact ⟨by rw [HR.out]; rfl, HB.out⟩
set_option maxRecDepth 100000 in
theorem rvalid_any (t : Tk) (ps : Option Addr) (cs : Nat) (p : Option Addr) (c : Nat) (now span : Int) (w : World) (hn : t.stamps.length ≤ 1000) (hst : Ints w ps t.stamps) :
    Calls Tryz.prog 25 #[tokVal t ps cs p c, .int .i64 now, .int .i64 span] w (Asked w (valid t.stamps now span)) := by
  have HU := Lib.hid (fun u (hu : Below w.heap.size w u) => runtil_any t ps cs p c span u hn (hst.below hu))
  have HF := Lib.hid (fun u => Sat.rfit_any now u)
  have hv : valid t.stamps now span = (decide (0 ≤ upto t.stamps span) && decide (fit now ≤ upto t.stamps span)) := rfl
  generalize upto t.stamps span = U at *
  generalize fit now = fn at *
  rw [hv]
  unfold tokVal at *
  have HB0 := Lib.hid (((Mem.start w).box #[.int .i64 t.gen, .int .i64 t.hop, .slice ps t.stamps.length cs, .int .i64 t.table.start, .slice p t.table.rows.length c] 30))
  clear hv hst
  have hcs : (0 ≤ U ∧ fn ≤ U) ∨ (0 ≤ U ∧ ¬ fn ≤ U) ∨ ¬ 0 ≤ U := by omega
  go_enter Tryz.func25, Tryz.ntmps25
  rcases hcs with ⟨h1, h2⟩ | ⟨h1, h2⟩ | h1
  all_goals
    go_wp2_with (first
      | (go_at_call 69; (with_reducible refine (HU.out _ HB0.out.below).mono ?_); rintro e u1 ⟨rfl, hb⟩; have HB1 := Lib.hid (HB0.out.below.trans (hb.mono HB0.out.below.size)); clear hb)
      | (go_at_call 70; (with_reducible refine (HF.out _).mono ?_); rintro e u1 ⟨rfl, rfl⟩))
  all_goals go_ret
  · exact ⟨by rw [show (decide (0 ≤ U) && decide (fn ≤ U)) = true by simp; omega]; rfl, HB1.out⟩
  · exact ⟨by rw [show (decide (0 ≤ U) && decide (fn ≤ U)) = decide (fn ≤ U) by rw [decide_eq_true (show 0 ≤ U by omega)]; rfl]; rfl, HB1.out⟩
  · exact ⟨by rw [show (decide (0 ≤ U) && decide (fn ≤ U)) = false by simp; omega]; rfl, HB1.out⟩
end Go.Proofs.YtbgdlokegibkmaaGreat.Token
