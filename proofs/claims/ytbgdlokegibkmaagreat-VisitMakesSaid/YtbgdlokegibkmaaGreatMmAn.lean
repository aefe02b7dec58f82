/-
  slices.Clone of rates; the program's forget, Crash, New.
  The program's New of an edge, of any configuration.
  The program's New where there are more rates than may be.
  The program's objection, spendAtOnce, wait and Ask, of any edge that is kept well.
  The program's spendAtOnce, wait and Ask, of any edge that is kept well.
  The program's Ask, of any edge that is kept well.
-/
import Derived.Deep.DeepCutAuto
import Derived.Test.YtbgdlokegibkmaaGreatMmAm
import Derived.Test.YtbgdlokegibkmaaGreatMmAe
import Derived.Test.YtbgdlokegibkmaaGreatMmAb
namespace Go.Proofs.YtbgdlokegibkmaaGreat.Edge
open Go.RowKit
open _root_.Go.Proofs.YtbgdlokegibkmaaGreat.Codec (lt_of_heap frozen_of heap_set)
open _root_.Go.Proofs.YtbgdlokegibkmaaGreat.Kit (Enc Lies At Kept Laid Off cell_on lt_heap take_snoc below_drewN own_keep box5)
open _root_.Go.Proofs.YtbgdlokegibkmaaGreat.Lease (Lz Num spend)
open _root_.Go.Proofs.YtbgdlokegibkmaaGreat.Queue (It take)
open _root_.Go.Proofs.YtbgdlokegibkmaaGreat.Demand (Nt)
theorem laidR : Laid Tryz.prog pair 77 22 := ⟨Tryz.underlying22, .agg #[.int .i64 0, .int .i64 0], 16, by kernel_rfl, rfl, by decide⟩
theorem eq_nilR (w : World) (a : Option Addr) (n c n' c' : Nat) : (binOp .eql 22 (.slice a n c) (.slice none n' c')).run Tryz.prog w = .ok (.bool a.isNone) w := Lib.run_eql_slice_nil w _ _ a n c n' c' Tryz.underlying22
set_option maxRecDepth 100000 in
set_option maxHeartbeats 1000000 in
theorem clone_rates {l : List (Int × Int)} {p : Option Addr} {d : Nat} {w : World} (h : Lies pair w p l) (hl : l.length ≤ 1000) :
    Calls Tryz.prog 32 #[.slice p l.length d] w fun e w' => ∃ y, e = .returned y ∧ Kit.Own pair 77 w.heap.size w' y l ∧ Below w.heap.size w w' := by
  have HL := Lib.hid h
  have hq := fun (w : World) a n c n' c' => eq_nilR w a n c n' c'
  clear h
  cases p with
  | none =>
    have hl0 := HL.out.resolve_right (fun ⟨b, o, e, _⟩ => by cases e)
    subst hl0
    go_enter Tryz.func32, Tryz.ntmps32
    go_wp2
    go_ret
    exact ⟨_, rfl, Kit.Own.none _ _ _ _, Below.refl _ _⟩
  | some a =>
    have OM := Lib.hid (Kit.own_made (E := pair) (T := 77) w w.heap.size (Nat.le_refl _))
    have HB := Lib.hid (lay w (.cells #[] 77))
    have LX := Lib.hid (HL.out.below HB.out)
    go_enter Tryz.func32, Tryz.ntmps32
    go_wp2_with (at_builtin; refine Kit.pushes laidR rfl _ _ rfl w _ _ rfl [] 0 rfl OM.out HB.out (Below.refl _ _) l l.length d (some a) rfl rfl LX.out (fun e => nomatch e) (by omega) ?_; intro p4 c4 w4 R4 B4; have R5 := Lib.hid (show Kit.Own pair 77 w.heap.size w4 (.slice p4 l.length c4) l from by (have := R4.out; rw [Nat.zero_add] at this; exact this)); have B5 := Lib.hid B4; clear R4 B4)
    go_ret
    exact ⟨_, rfl, R5.out, B5.out⟩
/-! The parts, new. -/
section
variable {R : Nat → Prop} {B B' q qw qq qd : Nat} {w w' u u' : World} {y : Value} {c : Cf} {e e' e2 : Eg}
theorem pw_low {L : List Lz} (h : Lease.Pm B' w qw L) (hB : B ≤ B') : Lease.Pm B w qw L := by
  obtain ⟨h0, m, h1, h2⟩ := h
  refine ⟨Nat.le_trans hB h0, m, h1, ?_⟩
  rcases h2 with h2 | ⟨b, D, e, hb, ho, hi⟩
  · exact .inl h2
  · exact .inr ⟨b, D, e, Nat.le_trans hB hb, ho, hi⟩
theorem pd_low {D : List Nt} (h : Demand.Pm B' w qd D) (hB : B ≤ B') : Demand.Pm B w qd D := by
  obtain ⟨h0, m, h1, h2⟩ := h
  refine ⟨Nat.le_trans hB h0, m, h1, ?_⟩
  rcases h2 with h2 | ⟨b, D, e, hb, ho, hi⟩
  · exact .inl h2
  · exact .inr ⟨b, D, e, Nat.le_trans hB hb, ho, hi⟩
theorem pq_low {F : Nat → Prop} {room : Int} {l : List It} (h : Queue.Pq F B' w qq room l) (hB : B ≤ B') : Queue.Pq F B w qq room l := by
  obtain ⟨y, hy⟩ := h
  exact ⟨y, Nat.le_trans hB hy.ge, hy.nf, hy.blk, Kit.Own.lower hy.own hB, hy.nfy, hy.fl⟩
theorem holds_w {L : List Lz} {b : Nat} (h : Lease.Pm B w qw L) (hb : holds w qw b) : B ≤ b ∧ b < w.heap.size := by
  obtain ⟨m, hc, -, hm⟩ := h.cell
  unfold holds at hb
  rw [hc] at hb
  simp only [Option.some.injEq, Value.map.injEq] at hb
  subst hb
  obtain ⟨es, cl, hx⟩ := hm.map_at
  rcases hm with ⟨e, -⟩ | ⟨b', D, e, hB, -⟩
  · cases e
  · cases e
    exact ⟨hB, lt_of_heap hx⟩
theorem holds_d {D : List Nt} {b : Nat} (h : Demand.Pm B w qd D) (hb : holds w qd b) : B ≤ b ∧ b < w.heap.size := by
  obtain ⟨m, hc, -, hm⟩ := h.cell
  unfold holds at hb
  rw [hc] at hb
  simp only [Option.some.injEq, Value.map.injEq] at hb
  subst hb
  obtain ⟨es, cl, hx⟩ := hm.map_at
  rcases hm with ⟨e, -⟩ | ⟨b', D, e, hB, -⟩
  · cases e
  · cases e
    exact ⟨hB, lt_of_heap hx⟩
/-- Nothing turns but the edge's own block. -/
structure Only (q : Nat) (w w' : World) : Prop where
  size : w.heap.size ≤ w'.heap.size
  rest : ∀ g, g ≠ q → g < w.heap.size → w'.heap[g]? = w.heap[g]?
theorem Only.trans (h : Only q w w') (k : Only q w' u) : Only q w u := ⟨Nat.le_trans h.size k.size, fun g hn hg => (k.rest g hn (Nat.lt_of_lt_of_le hg h.size)).trans (h.rest g hn hg)⟩
theorem Only.below (hb : Below w.heap.size w w') : Only q w w' := ⟨hb.size, fun g _ hg => hb.block g hg⟩
theorem Only.set (i : Nat) (v : Value) : Only q w (w.setCell ⟨q, i, none⟩ v) := ⟨by simp, fun g hn _ => Below.heap_setCell _ _ _ _ hn⟩
/-- The edge's block, of any pointers. -/
def ecs (a0 : Value) (c : Cf) (y a10 a11 : Value) : Array Value := #[a0, .int .i64 c.n, .int .i64 c.sk, .int .i64 c.tl, .int .i64 c.va, .int .i64 c.lo, .int .i64 c.he, .int .i64 c.ke, .int .i64 c.qu, y, a10, a11]
theorem Only.keep {cs : Array Value} (h : Only q w w') (hq : w.heap[q]? = some (.cells cs 88 (0, 0))) {T : TypeId} (hT : T ≠ 88) : KeepC T w w' := fun g cs' z hg => by
  refine (h.rest g ?_ (lt_of_heap hg)).trans hg
  rintro rfl
  rw [hq] at hg
  simp only [Option.some.injEq, Obj.cells.injEq] at hg
  exact hT hg.2.1.symm
theorem ecs_cell {a0 a10 a11 : Value} {i : Nat} {v : Value} (hk : w.heap[q]? = some (.cells (ecs a0 c y a10 a11) 88 (0, 0))) (hv : (ecs a0 c y a10 a11)[i]? = some v) : w.cell? ⟨q, i, none⟩ = some v ∧ w.frozen? ⟨q, i, none⟩ = false :=
  ⟨by rw [cell_of_row w q i _ _ (0, 0) hk, hv], frozen_of hk⟩
set_option maxRecDepth 100000 in
set_option maxHeartbeats 4000000 in
theorem forget_any (P : Queue.Way12 Queue.Pq) {a0 a10 a11 : Value} (hk : w.heap[q]? = some (.cells (ecs a0 c y a10 a11) 88 (0, 0))) (hq0 : B ≤ q) (hB : B ≤ w.heap.size) (hr : Kit.Own pair 77 B w y c.zs) (h0 : 0 ≤ c.qu) (h1 : c.qu ≤ 16) (hR : ∀ g, R g → g < w.heap.size) :
    Calls Tryz.prog 33 #[.pointer (some ⟨q, 0, none⟩)] w fun x w' => x = .returned (.tuple #[]) ∧ (∃ qw qq qd, In R B w' q y qw qq qd c e0) ∧ Only q w w' ∧ Below B w w' := by
  have HRL := Lib.hid hR
  clear hR
  have c1 := Lease.new_any w
  have HD := Lib.hid (fun u => Demand.new_any u)
  have HQ := Lib.hid (fun u => P.new c.qu u h0 h1)
  have HK := Lib.hid hk
  have HQL := Lib.hid (lt_of_heap hk)
  clear hk
  go_enter Tryz.func33, Tryz.ntmps33
  go_wp2_with (first
    | (go_at_call 77; (with_reducible refine c1.mono ?_); rintro e1 w1 ⟨qw, rfl, hw, hb⟩; have HW1 := Lib.hid hw; have HB1 := Lib.hid hb; have HK1 := Lib.hid ((hb.block q HQL.out).trans HK.out); obtain ⟨x0, f0⟩ := ecs_cell HK1.out (i := 0) (v := a0) rfl; clear hw hb c1)
    | (go_at_call 78; (with_reducible refine (HD.out _).mono ?_); rintro e1 w2 ⟨qd, rfl, hd, hb⟩; have HD2 := Lib.hid hd; have HB2 := Lib.hid hb; have HK2 := Lib.hid (show w2.heap[q]? = some (.cells (ecs (.pointer (some ⟨qw, 0, none⟩)) c y a10 a11) 88 (0, 0)) from (hb.block q (lt_heap (heap_set q 0 _ (.pointer (some ⟨qw, 0, none⟩)) HK1.out))).trans (heap_set q 0 _ (.pointer (some ⟨qw, 0, none⟩)) HK1.out)); obtain ⟨x11, f11⟩ := ecs_cell HK2.out (i := 11) (v := a11) rfl; obtain ⟨x8, -⟩ := ecs_cell HK2.out (i := 8) (v := .int .i64 c.qu) rfl; clear hd hb HD)
    | (go_at_call 79; (with_reducible refine (HQ.out _).mono ?_); rintro e1 w3 ⟨qq, rfl, hqu, hb⟩; have HQ3 := Lib.hid hqu; have HB3 := Lib.hid hb; have HK3 := Lib.hid (show w3.heap[q]? = some (.cells (ecs (.pointer (some ⟨qw, 0, none⟩)) c y a10 (.pointer (some ⟨qd, 0, none⟩))) 88 (0, 0)) from (hb.block q (lt_heap (heap_set q 11 _ (.pointer (some ⟨qd, 0, none⟩)) HK2.out))).trans (heap_set q 11 _ (.pointer (some ⟨qd, 0, none⟩)) HK2.out)); obtain ⟨x10, f10⟩ := ecs_cell HK3.out (i := 10) (v := a10) rfl; clear hqu hb HQ))
  go_end0
  have KF : (w3.setCell ⟨q, 10, none⟩ (.pointer (some ⟨qq, 0, none⟩))).heap[q]? = some (.cells (ecells qw c y qq qd) 88 (0, 0)) := heap_set q 10 _ _ HK3.out
  have O3 : Only q w3 (w3.setCell ⟨q, 10, none⟩ (.pointer (some ⟨qq, 0, none⟩))) := Only.set _ _
  have O2 : Only q w2 (w3.setCell ⟨q, 10, none⟩ (.pointer (some ⟨qq, 0, none⟩))) := ((Only.set 11 (.pointer (some ⟨qd, 0, none⟩))).trans (Only.below HB3.out)).trans O3
  have O1 : Only q w1 (w3.setCell ⟨q, 10, none⟩ (.pointer (some ⟨qq, 0, none⟩))) := ((Only.set 0 (.pointer (some ⟨qw, 0, none⟩))).trans (Only.below HB2.out)).trans O2
  have O0 : Only q w (w3.setCell ⟨q, 10, none⟩ (.pointer (some ⟨qq, 0, none⟩))) := (Only.below HB1.out).trans O1
  have z1 : w.heap.size ≤ w1.heap.size := HB1.out.size
  have z2 : w1.heap.size ≤ w2.heap.size := by have := HB2.out.size; simpa using this
  have z3 : w2.heap.size ≤ w3.heap.size := by have := HB3.out.size; simpa using this
  have hBW : Below B w (w3.setCell ⟨q, 10, none⟩ (.pointer (some ⟨qq, 0, none⟩))) := by
    have b1 : Below B w w1 := HB1.out.mono hB
    have b2 : Below B w w2 := (b1.setCell (p := ⟨q, 0, none⟩) hq0 (.pointer (some ⟨qw, 0, none⟩))).trans (HB2.out.mono (by simp; omega))
    have b3 : Below B w w3 := (b2.setCell (p := ⟨q, 11, none⟩) hq0 (.pointer (some ⟨qd, 0, none⟩))).trans (HB3.out.mono (by simp; omega))
    exact b3.setCell (p := ⟨q, 10, none⟩) hq0 _
  generalize w3.setCell ⟨q, 10, none⟩ (.pointer (some ⟨qq, 0, none⟩)) = wF at *
  have nm : ∀ {W : World} {cs : Array Value} {b : Nat} {es : _} {cl : _}, W.heap[q]? = some (.cells cs 88 (0, 0)) → W.heap[b]? = some (.map es cl) → b ≠ q := by
    rintro W cs b es cl h1 h2 rfl
    rw [h1] at h2
    cases h2
  have hw1 := HW1.out
  have hd2 := HD2.out
  refine ⟨rfl, ⟨qw, qq, qd, ⟨hq0, KF, rt_stays hr (O0.keep HK.out (by decide)), pw_stays (pw_low hw1 hB) (O1.keep HK1.out (by decide)) (fun b es cl _ hm => (O1.rest b (nm HK1.out hm) (lt_of_heap hm)).trans hm),
    pq_stays (pq_low (P.sub HQ3.out (fun g hg => by have := HRL.out g hg; simp; omega)) (by simp; omega)) O3.size (O3.keep HK3.out (by decide)) (O3.keep HK3.out (by decide)), pd_stays (pd_low hd2 (by simp; omega)) (O2.keep HK2.out (by decide)) (fun b es cl _ hm => (O2.rest b (nm HK2.out hm) (lt_of_heap hm)).trans hm), fun b ha hb => ?_⟩⟩, O0, hBW⟩
  have a1 : holds w1 qw b := by
    obtain ⟨_, m, g1, _⟩ := hw1
    unfold holds at ha ⊢
    rwa [World.cell?_of_block (a := ⟨qw, 0, none⟩) ((O1.keep HK1.out (by decide) _ _ _ g1).trans g1.symm)] at ha
  have a2 : holds w2 qd b := by
    obtain ⟨_, m, g1, _⟩ := hd2
    unfold holds at hb ⊢
    rwa [World.cell?_of_block (a := ⟨qd, 0, none⟩) ((O2.keep HK2.out (by decide) _ _ _ g1).trans g1.symm)] at hb
  have := (holds_w hw1 a1).2
  have := (holds_d hd2 a2).1
  simp at this
  omega
theorem Only.off {cs : Array Value} (h : Only q w w') (hq : w.heap[q]? = some (.cells cs 88 (0, 0))) : Off mine w w' :=
  ⟨h.size, fun g cs' T z hg ht => h.keep hq (by rintro rfl; simp [mine] at ht) g cs' z hg⟩
set_option maxRecDepth 100000 in
set_option maxHeartbeats 4000000 in
theorem pcrash_in (P : Queue.Way12 Queue.Pq) (h : In R B w q y qw qq qd c e) (hB : B ≤ w.heap.size) (hf : Lens e) (hc : 0 ≤ c.qu ∧ c.qu ≤ 16) :
    Calls Tryz.prog 10 #[.pointer (some ⟨q, 0, none⟩)] w fun x w' => ∃ v, x = .returned v ∧ Says w' v (crash e).2 ∧ (∃ qw' qq' qd', In R B w' q y qw' qq' qd' c e0) ∧ Off mine w w' ∧ Below B w w' ∧ ∀ g, g ≠ q → g < w.heap.size → w'.heap[g]? = w.heap[g]? := by
  have c1 := Queue.pall_any h.qu hf.2.1
  have HA := Lib.hid (fun u p k (hl : Lies Queue.item u p e.Q) => answered_any (d := k) hl (by have := hf.2.1; omega) 8)
  have HF := Lib.hid (fun u (hu : Below w.heap.size w u) => forget_any P (h.below hu).blk h.ge (Nat.le_trans hB hu.size) (h.below hu).rt hc.1 hc.2 (h.below hu).low)
  have HI := Lib.hid (fun u (hu : Below w.heap.size w u) => Moves.same h hB hu)
  have s10 := h.sees.k10
  have HBB := Lib.hid hB
  rw [show crash e = (e0, all e.Q 8) from rfl]
  generalize all e.Q 8 = A at *
  clear h hf P
  go_enter Tryz.func10, Tryz.ntmps10
  go_wp2_with (first
    | (go_at_call 36; (with_reducible refine c1.mono ?_); rintro e1 w1 ⟨y1, rfl, ho, hb⟩; obtain ⟨p1, d1, rfl, hl1⟩ := Kit.Own.lies ho; have HL1 := Lib.hid hl1; have HB1 := Lib.hid hb; clear ho hb hl1 c1)
    | (go_at_call 35; (with_reducible refine (HA.out _ _ _ HL1.out).mono ?_); rintro e1 w2 ⟨v, rfl, ht, hb⟩; have HT := Lib.hid ht; have HB2 := Lib.hid (HB1.out.trans (hb.mono HB1.out.size)); clear ht hb HA)
    | (go_at_call 33; (with_reducible refine (HF.out _ HB2.out).mono ?_); rintro e1 w3 ⟨rfl, hin, hon, hb⟩; have HN := Lib.hid hin; have HO := Lib.hid (hon.off (HI.out _ HB2.out).inn.blk); have HON := Lib.hid hon; have HB3 := Lib.hid hb; clear hin hon hb HF))
  go_ret
  exact ⟨v, rfl, HT.out.off HO.out, HN.out, (HI.out _ HB2.out).off.trans HO.out, (HI.out _ HB2.out).below.trans HB3.out, fun g hn hl => (HON.out.rest g hn (Nat.lt_of_lt_of_le hl HB2.out.size)).trans (HB2.out.block g hl)⟩
end
end Go.Proofs.YtbgdlokegibkmaaGreat.Edge

namespace Go.Proofs.YtbgdlokegibkmaaGreat.Edge
open Go.RowKit
open _root_.Go.Proofs.YtbgdlokegibkmaaGreat.Codec (lt_of_heap frozen_of heap_set)
open _root_.Go.Proofs.YtbgdlokegibkmaaGreat.Kit (Enc Lies At Kept Laid Off cell_on lt_heap take_snoc below_drewN own_keep box5)
theorem rates_lie {B : Nat} {w : World} {p : Option Addr} {zs : List (Int × Int)} (h : RatesB B w p zs) : Lies pair w p zs := by
  rcases h with h | ⟨b, o, e, -, hc⟩
  · exact .inl h
  · refine .inr ⟨b, o, e, fun j hj k u hu => ?_⟩
    match k, hu with
    | 0, hu =>
      simp only [pair, List.getElem?_cons_zero, Option.some.injEq] at hu
      subst hu
      exact (hc j hj).1
    | 1, hu =>
      simp only [pair, List.getElem?_cons_succ, List.getElem?_cons_zero, Option.some.injEq] at hu
      subst hu
      exact (hc j hj).2
/-- The nine cells of a configuration's box. -/
def nines (c : Cf) (y : Value) : Array Value := #[.int .i64 c.n, .int .i64 c.sk, .int .i64 c.tl, .int .i64 c.va, .int .i64 c.lo, .int .i64 c.he, .int .i64 c.ke, .int .i64 c.qu, y]
theorem nine_cells {w : World} {g : Nat} {c : Cf} {y : Value} {T : TypeId} (h : w.heap[g]? = some (.cells (nines c y) T (0, 0))) :
    w.cell? ⟨g, 0, none⟩ = some (.int .i64 c.n) ∧ w.cell? ⟨g, 1, none⟩ = some (.int .i64 c.sk) ∧ w.cell? ⟨g, 2, none⟩ = some (.int .i64 c.tl) ∧ w.cell? ⟨g, 3, none⟩ = some (.int .i64 c.va) ∧ w.cell? ⟨g, 4, none⟩ = some (.int .i64 c.lo) ∧ w.cell? ⟨g, 5, none⟩ = some (.int .i64 c.he) ∧
      w.cell? ⟨g, 6, none⟩ = some (.int .i64 c.ke) ∧ w.cell? ⟨g, 7, none⟩ = some (.int .i64 c.qu) ∧ w.cell? ⟨g, 8, none⟩ = some y ∧ w.frozen? ⟨g, 8, none⟩ = false := by
  have hc : ∀ i v, (nines c y)[i]? = some v → w.cell? ⟨g, i, none⟩ = some v := fun i v hv => by rw [cell_of_row w g i _ _ (0, 0) h, hv]
  exact ⟨hc 0 _ rfl, hc 1 _ rfl, hc 2 _ rfl, hc 3 _ rfl, hc 4 _ rfl, hc 5 _ rfl, hc 6 _ rfl, hc 7 _ rfl, hc 8 _ rfl, frozen_of h⟩
theorem new3 {w w1 w2 : World} {c : Cf} {v y : Value} (hO : Kit.Own pair 77 w1.heap.size w2 y c.zs) (h1 : w.heap.size < w1.heap.size) (hb : Below w.heap.size w w2) :
    ((w2.setCell ⟨w.heap.size, 8, none⟩ v).alloc (.cells (ecs (.pointer none) c y (.pointer none) (.pointer none)) 88)).heap[w2.heap.size]? = some (.cells (ecs (.pointer none) c y (.pointer none) (.pointer none)) 88 (0, 0)) ∧
      Kit.Own pair 77 w.heap.size ((w2.setCell ⟨w.heap.size, 8, none⟩ v).alloc (.cells (ecs (.pointer none) c y (.pointer none) (.pointer none)) 88)) y c.zs ∧
      Below w.heap.size w ((w2.setCell ⟨w.heap.size, 8, none⟩ v).alloc (.cells (ecs (.pointer none) c y (.pointer none) (.pointer none)) 88)) ∧ w.heap.size ≤ w2.heap.size := by
  have k := heap_alloc_new (w2.setCell ⟨w.heap.size, 8, none⟩ v) (.cells (ecs (.pointer none) c y (.pointer none) (.pointer none)) 88)
  rw [show (w2.setCell ⟨w.heap.size, 8, none⟩ v).heap.size = w2.heap.size by simp] at k
  have hs := hb.size
  exact ⟨k, Kit.Own.lower (Kit.Own.on (Kit.Own.set hO h1) (lay _ _)) (Nat.le_of_lt h1), (hb.setCell (p := ⟨w.heap.size, 8, none⟩) (Nat.le_refl _) v).alloc (by simpa using hs) _, hs⟩
set_option maxRecDepth 100000 in
set_option maxHeartbeats 8000000 in
theorem pnew_in (P : Queue.Way12 Queue.Pq) {c : Cf} {p : Option Addr} {k : Nat} {w : World} (hr : RatesB w.heap.size w p c.zs) (hl : c.zs.length ≤ 100) :
    Calls Tryz.prog 8 #[c.val p k] w fun x w' => Below w.heap.size w w' ∧ ((c.check ≠ 0 ∧ x = .returned (.tuple #[.pointer none, .int .i64 c.check])) ∨ (c.check = 0 ∧ ∃ q, x = .returned (.tuple #[.pointer (some ⟨q, 0, none⟩), .int .i64 0]) ∧ (0 ≤ c.qu ∧ c.qu ≤ 16) ∧ ∃ y qw qq qd, In (fun g => g < w.heap.size) w.heap.size w' q y qw qq qd c e0)) := by
  have HB0 := Lib.hid (lay w (.cells (nines c (.slice p c.zs.length k)) 24))
  have HK0 := Lib.hid (heap_alloc_new w (.cells (nines c (.slice p c.zs.length k)) 24))
  have HC := Lib.hid (fun u (hu : Below w.heap.size w u) => Conf.check_any c.n c.sk c.tl c.va c.lo c.he c.ke c.qu p c.zs k u hl (hr.on hu).rates)
  have HCL := Lib.hid (fun u (hu : Below w.heap.size w u) => clone_rates (d := k) (rates_lie (hr.on hu)) (by omega))
  have HFG := Lib.hid (fun u q y a0 a10 a11 (hk : u.heap[q]? = some (.cells (ecs a0 c y a10 a11) 88 (0, 0))) (hq : w.heap.size ≤ q) (hu : w.heap.size ≤ u.heap.size) (ho : Kit.Own pair 77 w.heap.size u y c.zs) (h0 : 0 ≤ c.qu ∧ c.qu ≤ 16) => forget_any (R := fun g => g < w.heap.size) P hk hq hu ho h0.1 h0.2 (fun g hg => Nat.lt_of_lt_of_le hg hu))
  have HRM := Lib.hid (fun (h : c.check = 0) => check_room h)
  have hcheck : c.check = Conf.check c.n c.sk c.tl c.va c.lo c.he c.ke c.qu c.zs := rfl
  rw [← hcheck] at HC
  generalize c.check = ck at *
  simp only [nines] at HB0
  clear hcheck hr hl P
  obtain ⟨b0, b1, b2, b3, b4, b5, b6, b7, b8, f8⟩ := nine_cells HK0.out
  have HNC := Lib.hid (fun (u : World) (hu : u.heap[w.heap.size]? = some (.cells (nines c (.slice p c.zs.length k)) 24 (0, 0))) => nine_cells hu)
  rcases Decidable.em (ck = 0) with h0 | h0
  · subst h0
    unfold Cf.val
    go_enter Tryz.func8, Tryz.ntmps8
    go_wp2_with (first
      | (go_at_call 31; (with_reducible refine (HC.out _ HB0.out).mono ?_); rintro e1 w1 ⟨rfl, hb⟩; have HB1 := Lib.hid (HB0.out.trans (hb.mono HB0.out.size)); have HK1 := Lib.hid ((hb.block _ (lt_heap HK0.out)).trans HK0.out); clear hb b0 b1 b2 b3 b4 b5 b6 b7 b8 f8 HC; obtain ⟨b0, b1, b2, b3, b4, b5, b6, b7, b8, f8⟩ := HNC.out _ HK1.out)
      | (go_at_call 32; (with_reducible refine (HCL.out _ HB1.out).mono ?_); rintro e1 w2 ⟨y2, rfl, ho, hb⟩; obtain ⟨py, ky, rfl, -⟩ := Kit.Own.lies ho; have HB2 := Lib.hid (HB1.out.trans (hb.mono HB1.out.size)); have HK2 := Lib.hid ((hb.block _ (lt_heap HK1.out)).trans HK1.out); have H3 := Lib.hid (new3 (v := .slice py c.zs.length ky) ho (lt_of_heap HK1.out) HB2.out); clear ho hb b0 b1 b2 b3 b4 b5 b6 b7 b8 f8 HCL; obtain ⟨b0, b1, b2, b3, b4, b5, b6, b7, b8, f8⟩ := HNC.out _ HK2.out))
    have c4 := HFG.out _ _ _ _ _ _ H3.out.1 H3.out.2.2.2 H3.out.2.2.1.size H3.out.2.1 (HRM.out trivial)
    simp only [ecs] at c4
    refine c4.mono ?_
    rintro e1 w4 ⟨rfl, ⟨qw, qq, qd, hin⟩, -, hb⟩
    have HN := Lib.hid (show (0 ≤ c.qu ∧ c.qu ≤ 16) ∧ ∃ y qw qq qd, In (fun g => g < w.heap.size) w.heap.size w4 w2.heap.size y qw qq qd c e0 from ⟨HRM.out trivial, _, qw, qq, qd, hin⟩)
    have HB4 := Lib.hid (H3.out.2.2.1.trans hb)
    clear hin hb c4
    go_wp2
    refine bodyPost_ret (v := .tuple #[.pointer (some ⟨w2.heap.size, 0, none⟩), .int .i64 0]) (by simp [results, Tryz.results8, go_sem]) rfl ?_
    exact ⟨HB4.out, .inr ⟨trivial, w2.heap.size, rfl, HN.out⟩⟩
  · have h1 : (ck != 0) = true := by simpa using h0
    unfold Cf.val
    go_enter Tryz.func8, Tryz.ntmps8
    go_wp2_with (go_at_call 31; (with_reducible refine (HC.out _ HB0.out).mono ?_); rintro e1 w1 ⟨rfl, hb⟩; have HB1 := Lib.hid (HB0.out.trans (hb.mono HB0.out.size)); clear hb)
    refine bodyPost_ret (v := .tuple #[.pointer none, .int .i64 ck]) (by simp [results, Tryz.results8, go_sem]) rfl ?_
    exact ⟨HB1.out, .inl ⟨h0, rfl⟩⟩
end Go.Proofs.YtbgdlokegibkmaaGreat.Edge

namespace Go.Proofs.YtbgdlokegibkmaaGreat.Visit
open Go.RowKit
open _root_.Go.Proofs.YtbgdlokegibkmaaGreat.Conf (within within_any rates rooms times times_any rooms_any check_core)
open _root_.Go.Proofs.YtbgdlokegibkmaaGreat.Edge (Cf nines lay)
set_option maxRecDepth 100000 in
theorem rates_many {n : Nat} (h : 8 < n) (p : Option Addr) (c : Nat) (w : World) : Calls Tryz.prog 76 #[.slice p n c] w fun e w' => e = .returned (.bool false) ∧ w = w' := by
  have hw : within (n : Int) 1 8 = false := by simp [within]; omega
  have c0 := fun u => within_any (n : Int) 1 8 u
  rw [hw] at c0
  clear hw
  go_enter Tryz.func76, Tryz.ntmps76
  go_wp2_with (go_at_call 133; (with_reducible refine (c0 _).mono ?_); rintro e w' ⟨rfl, rfl⟩)
  go_ret
  exact ⟨rfl, rfl⟩
theorem rates_no {zs : List (Int × Int)} (h : 8 < zs.length) : rates zs = false := by
  unfold rates
  rw [show within (zs.length : Int) 1 8 = false by simp [within]; omega]
  rfl
theorem check_ke {c : Cf} (h : c.check = 0) : 1 ≤ c.ke ∧ c.ke ≤ 16 := by
  unfold Cf.check Conf.check at h
  split at h
  · simp at h
  · split at h
    · simp at h
    · split at h
      · simp at h
      · rename_i h3
        simp only [Conf.rooms, Conf.within, Bool.not_eq_false, Bool.and_eq_true, decide_eq_true_eq] at h3
        exact h3.1
theorem check_len {c : Cf} (h : c.check = 0) : 1 ≤ c.zs.length ∧ c.zs.length ≤ 8 := by
  unfold Cf.check Conf.check at h
  repeat' split at h
  all_goals first | (simp at h; done) | skip
  rename_i h4
  simp only [rates, within, Bool.not_eq_false, Bool.and_eq_true, decide_eq_true_eq] at h4
  omega
theorem check_many {c : Cf} (p : Option Addr) (k : Nat) (w : World) (h : 8 < c.zs.length) : Calls Tryz.prog 31 #[c.val p k] w fun e w' => e = .returned (.int .i64 c.check) ∧ Below w.heap.size w w' := by
  refine check_core c.n c.sk c.tl c.va c.lo c.he c.ke c.qu p c.zs.length k w (times c.sk c.tl c.va c.lo c.he) (rooms c.ke c.qu) false _
    (fun u hu => (times_any c.n c.sk c.tl c.va c.lo c.he c.ke c.qu p c.zs.length k u).mono fun e W k => ⟨k.1, hu.step k.2, (hu.step k.2).2⟩)
    (fun u hu => (rooms_any c.n c.sk c.tl c.va c.lo c.he c.ke c.qu p c.zs.length k u).mono fun e W k => ⟨k.1, hu.step k.2, (hu.step k.2).2⟩)
    (fun u hu => (rates_many h p k u).mono fun e W ⟨h1, h2⟩ => ⟨h1, h2 ▸ hu⟩) ?_
  have hn := rates_no h
  unfold Cf.check Conf.check
  rw [hn]
  cases within c.n 1 64 <;> cases times c.sk c.tl c.va c.lo c.he <;> cases rooms c.ke c.qu <;> simp
set_option maxRecDepth 100000 in
set_option maxHeartbeats 2000000 in
theorem new_many {c : Cf} {p : Option Addr} {k : Nat} {w : World} (h : 8 < c.zs.length) : Calls Tryz.prog 8 #[c.val p k] w fun x w' => x = .returned (.tuple #[.pointer none, .int .i64 c.check]) ∧ Below w.heap.size w w' := by
  have h0 : c.check ≠ 0 := fun e => by have := (check_len e).2; omega
  have HB0 := Lib.hid (lay w (.cells (nines c (.slice p c.zs.length k)) 24))
  have HK0 := Lib.hid (heap_alloc_new w (.cells (nines c (.slice p c.zs.length k)) 24))
  have HC := Lib.hid (fun u => check_many (c := c) p k u h)
  obtain ⟨b0, b1, b2, b3, b4, b5, b6, b7, b8, f8⟩ := Edge.nine_cells HK0.out
  have h1 : (c.check != 0) = true := by simpa using h0
  generalize c.check = ck at *
  simp only [nines] at HB0
  unfold Cf.val at *
  clear HK0 h0
  go_enter Tryz.func8, Tryz.ntmps8
  go_wp2_with (go_at_call 31; (with_reducible refine (HC.out _).mono ?_); rintro e1 w1 ⟨rfl, hb⟩; have HB1 := Lib.hid (HB0.out.trans (hb.mono HB0.out.size)); clear hb)
  refine bodyPost_ret (v := .tuple #[.pointer none, .int .i64 ck]) (by simp [results, Tryz.results8, go_sem]) rfl ⟨rfl, HB1.out⟩
end Go.Proofs.YtbgdlokegibkmaaGreat.Visit

namespace Go.Proofs.YtbgdlokegibkmaaGreat.Edge
open Go.RowKit
open _root_.Go.Proofs.YtbgdlokegibkmaaGreat.Codec (lt_of_heap frozen_of heap_set)
open _root_.Go.Proofs.YtbgdlokegibkmaaGreat.Kit (Enc Lies At Kept Laid Off cell_on lt_heap take_snoc below_drewN own_keep box5)
open _root_.Go.Proofs.YtbgdlokegibkmaaGreat.Lease (Lz Num spend)
open _root_.Go.Proofs.YtbgdlokegibkmaaGreat.Queue (It take)
open _root_.Go.Proofs.YtbgdlokegibkmaaGreat.Demand (Nt)
/-- Why a request is denied, whatever there is to spend. -/
def obj (c : Cf) (e : Eg) (r : Rq) (now : Int) : Int :=
  if bad e.Q r then 7 else if now < 0 ∨ 4611686018427387904 ≤ now then 1 else if c.rate r.key < 0 then 6 else if c.b r.key < r.cost then 5 else 0
theorem obj_cases (c : Cf) (e : Eg) (r : Rq) (now : Int) :
    (¬ mb r ∧ obj c e r now = 7) ∨ mb r ∧ ((0 ≤ Queue.place e.Q r.id ∧ obj c e r now = 7) ∨ ¬ 0 ≤ Queue.place e.Q r.id ∧ ((now < 0 ∧ obj c e r now = 1) ∨ ¬ now < 0 ∧ ((4611686018427387904 ≤ now ∧ obj c e r now = 1) ∨ ¬ 4611686018427387904 ≤ now ∧ ((c.rate r.key < 0 ∧ obj c e r now = 6) ∨ ¬ c.rate r.key < 0 ∧ ((rb c r.key < r.cost ∧ obj c e r now = 5) ∨ ¬ rb c r.key < r.cost ∧ obj c e r now = 0))))) := by
  unfold obj rb
  by_cases h1 : mb r
  · refine .inr ⟨h1, ?_⟩
    by_cases h2 : 0 ≤ Queue.place e.Q r.id
    · exact .inl ⟨h2, if_pos ((bad_iff _ _).2 (.inr h2))⟩
    · refine .inr ⟨h2, ?_⟩
      rw [if_neg (fun h => ((bad_iff _ _).1 h).elim (fun h => h h1) h2)]
      by_cases h3 : now < 0
      · exact .inl ⟨h3, if_pos (.inl h3)⟩
      · refine .inr ⟨h3, ?_⟩
        by_cases h4 : 4611686018427387904 ≤ now
        · exact .inl ⟨h4, if_pos (.inr h4)⟩
        · refine .inr ⟨h4, ?_⟩
          rw [if_neg (by omega)]
          by_cases h5 : c.rate r.key < 0
          · exact .inl ⟨h5, if_pos h5⟩
          · refine .inr ⟨h5, ?_⟩
            rw [if_neg h5, if_pos (by omega)]
            by_cases h6 : c.b r.key < r.cost
            · exact .inl ⟨h6, if_pos h6⟩
            · exact .inr ⟨h6, if_neg h6⟩
  · exact .inl ⟨h1, if_pos ((bad_iff _ _).2 (.inl h1))⟩
section
variable {R : Nat → Prop} {B q qw qq qd : Nat} {w w' u u' : World} {y : Value} {c : Cf} {e e' e2 : Eg}
/-- What an Ask reads: the request's box, the edge's cells. -/
structure Reads (w : World) (q g : Nat) (y : Value) (qw qq qd : Nat) (c : Cf) (r : Rq) : Prop where
  r0 : w.cell? ⟨g, 0, none⟩ = some (.int .i64 r.id)
  r1 : w.cell? ⟨g, 1, none⟩ = some (.int .i64 r.key)
  r2 : w.cell? ⟨g, 2, none⟩ = some (.int .i64 r.cost)
  r3 : w.cell? ⟨g, 3, none⟩ = some (.int .i64 r.cls)
  r4 : w.cell? ⟨g, 4, none⟩ = some (.int .i64 r.wait)
  s : Sees12 w q y qw qq qd c
theorem Sees12.on (h : Sees12 w q y qw qq qd c) (hb : Below w.heap.size w w') : Sees12 w' q y qw qq qd c :=
  ⟨cell_on h.k0 hb, cell_on h.k1 hb, cell_on h.k2 hb, cell_on h.k3 hb, cell_on h.k4 hb, cell_on h.k5 hb, cell_on h.k6 hb, cell_on h.k7 hb, cell_on h.k8 hb, cell_on h.k9 hb, cell_on h.k10 hb, cell_on h.k11 hb⟩
theorem Reads.on {g : Nat} {r : Rq} (h : Reads w q g y qw qq qd c r) (hb : Below w.heap.size w w') : Reads w' q g y qw qq qd c r :=
  ⟨cell_on h.r0 hb, cell_on h.r1 hb, cell_on h.r2 hb, cell_on h.r3 hb, cell_on h.r4 hb, h.s.on hb⟩
theorem reads_new (h : In R B w q y qw qq qd c e) (r : Rq) : Reads (w.alloc (.cells #[.int .i64 r.id, .int .i64 r.key, .int .i64 r.cost, .int .i64 r.cls, .int .i64 r.wait] 42)) q w.heap.size y qw qq qd c r := by
  obtain ⟨b0, b1, b2, b3, b4⟩ := box5 (heap_alloc_new w (.cells #[.int .i64 r.id, .int .i64 r.key, .int .i64 r.cost, .int .i64 r.cls, .int .i64 r.wait] 42))
  exact ⟨b0, b1, b2, b3, b4, (h.below (lay w _)).sees⟩
theorem box_two {X w3 : World} {a b : Value} {T : TypeId} (hb : Below (X.alloc (.cells #[a, b] T)).drew.heap.size (X.alloc (.cells #[a, b] T)).drew w3) : w3.cell? ⟨X.heap.size, 0, none⟩ = some a ∧ w3.cell? ⟨X.heap.size, 1, none⟩ = some b ∧ w3.frozen? ⟨X.heap.size, 0, none⟩ = false ∧ w3.frozen? ⟨X.heap.size, 1, none⟩ = false ∧ w3.heap[X.heap.size]? = some (.cells #[a, b] T (0, 0)) := by
  have k : w3.heap[X.heap.size]? = some (.cells #[a, b] T (0, 0)) := (hb.block X.heap.size (by show X.heap.size < (X.alloc (.cells #[a, b] T)).heap.size; simp)).trans (heap_alloc_new X (.cells #[a, b] T))
  exact ⟨by rw [cell_of_row w3 _ 0 _ _ (0, 0) k]; rfl, by rw [cell_of_row w3 _ 1 _ _ (0, 0) k]; rfl, frozen_of k, frozen_of k, k⟩
/-- A box of two, behind a region. -/
def Box2 (w0 wx : World) (a : Value) (x y : Int) : Prop := ∃ g, a = .pointer (some ⟨g, 0, none⟩) ∧ wx.cell? ⟨g, 0, none⟩ = some (.int .i64 x) ∧ wx.cell? ⟨g, 1, none⟩ = some (.int .i64 y) ∧ Below w0.heap.size w0 wx
theorem box2_new {S : Prop} {w0 w3 : World} {x y : Int} {T : TypeId} (h : Below w0.heap.size w0 w3 ∧ S) : Box2 w0 (w3.alloc (.cells #[.int .i64 x, .int .i64 y] T)) (.pointer (some ⟨w3.heap.size, 0, none⟩)) x y := by
  have k := heap_alloc_new w3 (.cells #[.int .i64 x, .int .i64 y] T)
  exact ⟨_, rfl, by rw [cell_of_row _ _ 0 _ _ (0, 0) k]; rfl, by rw [cell_of_row _ _ 1 _ _ (0, 0) k]; rfl, h.1.alloc h.1.size _⟩
theorem box2_set {S : Prop} {w0 w3 : World} {a b : Value} {x y : Int} {T : TypeId} {g : Nat} (k : w3.heap[g]? = some (.cells #[a, b] T (0, 0))) (h : Below w0.heap.size w0 w3 ∧ S) (hg : w0.heap.size ≤ g) : Box2 w0 ((w3.setCell ⟨g, 0, none⟩ (.int .i64 x)).setCell ⟨g, 1, none⟩ (.int .i64 y)) (.pointer (some ⟨g, 0, none⟩)) x y := by
  have k2 := heap_set g 1 _ (.int .i64 y) (heap_set g 0 _ (.int .i64 x) k)
  exact ⟨_, rfl, by rw [cell_of_row _ _ 0 _ _ (0, 0) k2]; rfl, by rw [cell_of_row _ _ 1 _ _ (0, 0) k2]; rfl, (h.1.setCell (p := ⟨g, 0, none⟩) hg _).setCell (p := ⟨g, 1, none⟩) hg _⟩
theorem s_next {S : Prop} {w0 X : World} (h : Below w0.heap.size w0 X ∧ S) (hb : Below X.heap.size X w') : Below w0.heap.size w0 w' := h.1.trans (hb.mono h.1.size)
theorem s_set {S : Prop} {w0 X : World} {g : Nat} {a b : Value} (h : Below w0.heap.size w0 X ∧ S) (hg : w0.heap.size ≤ g) : Below w0.heap.size w0 ((X.setCell ⟨g, 0, none⟩ a).setCell ⟨g, 1, none⟩ b) := (h.1.setCell (p := ⟨g, 0, none⟩) hg _).setCell (p := ⟨g, 1, none⟩) hg _
theorem s_low {S : Prop} {w0 X : World} (h : Below w0.heap.size w0 X ∧ S) (hb : Below w.heap.size w w0) : Below w.heap.size w X := hb.trans (h.1.mono hb.size)
theorem s_alloc {S : Prop} {w0 X : World} (h : Below w0.heap.size w0 X ∧ S) (o : Obj) : Below w0.heap.size w0 (X.alloc o) := h.1.alloc h.1.size _
set_option maxRecDepth 100000 in
set_option maxHeartbeats 16000000 in
theorem objection_any (h : In R B w q y qw qq qd c e) (hf : Lens e) (r : Rq) (now : Int) :
    Calls Tryz.prog 38 #[.pointer (some ⟨q, 0, none⟩), rval r, .int .i64 now] w fun x w' => x = .returned (.int .i64 (obj c e r now)) ∧ Below w.heap.size w w' := by
  have hcase := obj_cases c e r now
  have hx := reads_new h r
  have HB0 := Lib.hid (lay w (.cells #[.int .i64 r.id, .int .i64 r.key, .int .i64 r.cost, .int .i64 r.cls, .int .i64 r.wait] 42))
  obtain ⟨p, k, rfl, hl⟩ := h.rates
  have HX := Lib.hid (fun u (hu : Below (w.alloc (.cells #[.int .i64 r.id, .int .i64 r.key, .int .i64 r.cost, .int .i64 r.cls, .int .i64 r.wait] 42)).heap.size (w.alloc (.cells #[.int .i64 r.id, .int .i64 r.key, .int .i64 r.cost, .int .i64 r.cls, .int .i64 r.wait] 42)) u) => hx.on hu)
  have HK := Lib.hid (fun u (hu : Below w.heap.size w u) => prate_any k (hl.below hu) r.key)
  have HM := Lib.hid (fun u => mayBe_any r u)
  have HW := Lib.hid (fun u (hu : Below w.heap.size w u) => pwaits_any (h.below hu) hf.2.1 r.id)
  generalize obj c e r now = O at *
  generalize Queue.place e.Q r.id = pl at *
  generalize ra c r.key = vra at *
  generalize rb c r.key = vrb at *
  generalize c.rate r.key = kk at *
  have hkk : decide (0 ≤ kk) = !decide (kk < 0) := by
    by_cases h0 : kk < 0
    · simp [h0, show ¬ 0 ≤ kk by omega]
    · simp [h0, show 0 ≤ kk by omega]
  rw [hkk] at HK
  clear hkk
  generalize hmm : decide (mb r) = mm at *
  have hmb : mb r ↔ mm = true := by rw [← hmm]; simp
  simp only [hmb] at hcase
  obtain ⟨ri, rkey, rc, rs, rw'⟩ := r
  simp only [rval, Cf.val] at *
  obtain ⟨r0, r1, r2, r3, r4, s⟩ := hx
  obtain ⟨k0, k1, k2, k3, k4, k5, k6, k7, k8, k9, k10, k11⟩ := s
  simp only at *
  clear h hl hmm hmb k0 k10 k11 r0 r2 r3 r4
  go_enter Tryz.func38, Tryz.ntmps38
  go_wp2
  generalize w.alloc (.cells #[.int .i64 ri, .int .i64 rkey, .int .i64 rc, .int .i64 rs, .int .i64 rw'] 42) = w0 at *
  have HS := Lib.hid (fun u (hu : Below w0.heap.size w0 u) => show Below w0.heap.size w0 u ∧ u.cell? ⟨q, 1, none⟩ = some (.int .i64 c.n) ∧ u.cell? ⟨q, 2, none⟩ = some (.int .i64 c.sk) ∧ u.cell? ⟨q, 3, none⟩ = some (.int .i64 c.tl) ∧ u.cell? ⟨q, 4, none⟩ = some (.int .i64 c.va) ∧ u.cell? ⟨q, 5, none⟩ = some (.int .i64 c.lo) ∧ u.cell? ⟨q, 6, none⟩ = some (.int .i64 c.he) ∧ u.cell? ⟨q, 7, none⟩ = some (.int .i64 c.ke) ∧ u.cell? ⟨q, 8, none⟩ = some (.int .i64 c.qu) ∧ u.cell? ⟨q, 9, none⟩ = some (.slice p c.zs.length k) ∧ u.cell? ⟨w.heap.size, 1, none⟩ = some (.int .i64 rkey) from
    ⟨hu, (HX.out u hu).s.k1, (HX.out u hu).s.k2, (HX.out u hu).s.k3, (HX.out u hu).s.k4, (HX.out u hu).s.k5, (HX.out u hu).s.k6, (HX.out u hu).s.k7, (HX.out u hu).s.k8, (HX.out u hu).s.k9, (HX.out u hu).r1⟩)
  have y0 := HS.out _ (Below.refl w0.heap.size w0).drew
  clear k1 k2 k3 k4 k5 k6 k7 k8 k9 r1
  go_cut [7, 8] (fun a b wx => b = .bool (!decide (kk < 0)) ∧ Box2 w0 wx a vra vrb)
  case first =>
    go_region_held3 (fun u => Below w0.heap.size w0 u ∧ u.cell? ⟨q, 1, none⟩ = some (.int .i64 c.n) ∧ u.cell? ⟨q, 2, none⟩ = some (.int .i64 c.sk) ∧ u.cell? ⟨q, 3, none⟩ = some (.int .i64 c.tl) ∧ u.cell? ⟨q, 4, none⟩ = some (.int .i64 c.va) ∧ u.cell? ⟨q, 5, none⟩ = some (.int .i64 c.lo) ∧ u.cell? ⟨q, 6, none⟩ = some (.int .i64 c.he) ∧ u.cell? ⟨q, 7, none⟩ = some (.int .i64 c.ke) ∧ u.cell? ⟨q, 8, none⟩ = some (.int .i64 c.qu) ∧ u.cell? ⟨q, 9, none⟩ = some (.slice p c.zs.length k) ∧ u.cell? ⟨w.heap.size, 1, none⟩ = some (.int .i64 rkey)) (first | assumption | exact HS.out _ (s_alloc (by assumption) _) | exact HS.out _ (s_set (by assumption) (Nat.le_refl _))) (first
      | (go_at_call 83; (with_reducible refine (HK.out _ (s_low (by assumption) HB0.out)).mono ?_); rintro e1 w3 ⟨rfl, hb⟩; have y3 := HS.out _ (s_next (by assumption) hb); (try (have zz := box_two hb; obtain ⟨z0, z1, z2, z3, zk⟩ := zz))))
    all_goals (go_wp2_with fail; go_meet; first | exact ⟨rfl, box2_new (by assumption)⟩ | exact ⟨rfl, box2_set zk (by assumption) (Nat.le_refl _)⟩)
  case rest =>
    obtain ⟨rfl, gr, rfl, -, hy, hbc⟩ := hcut
    have HY := Lib.hid (fun u (hu : Below wc.heap.size wc u) => cell_on hy hu)
    have HXC := Lib.hid (fun u (hu : Below wc.heap.size wc u) => HX.out u (hbc.trans (hu.mono hbc.size)))
    have HBC := Lib.hid (HB0.out.trans (hbc.mono HB0.out.size))
    obtain ⟨r0, r1, r2, r3, r4, -⟩ := HXC.out _ (Below.refl _ _)
    simp only at r0 r1 r2 r3 r4
    clear HK HS HX hbc
    rcases hcase with ⟨h1, rfl⟩ | ⟨rfl, ⟨h2, rfl⟩ | ⟨h2, ⟨h3, rfl⟩ | ⟨h3, ⟨h4, rfl⟩ | ⟨h4, ⟨h5, rfl⟩ | ⟨h5, ⟨h6, rfl⟩ | ⟨h6, rfl⟩⟩⟩⟩⟩⟩
    · obtain rfl : mm = false := by simpa using h1
      go_wp2_with (go_at_call 84; (with_reducible refine (HM.out _).mono ?_); rintro e1 w4 ⟨rfl, hb⟩; have HB4 := Lib.hid hb; clear hb)
      go_ret
      exact ⟨rfl, HBC.out.trans (HB4.out.mono HBC.out.size)⟩
    all_goals
      go_wp2_with (first
        | (go_at_call 84; (with_reducible refine (HM.out _).mono ?_); rintro e1 w4 ⟨rfl, hb⟩; have HB4 := Lib.hid hb; have t0 := cell_on r0 hb; clear hb)
        | (go_at_call 85; (with_reducible refine (HW.out _ (HBC.out.trans (HB4.out.mono HBC.out.size))).mono ?_); rintro e1 w5 ⟨rfl, hb⟩; have HB5 := Lib.hid (HB4.out.trans (hb.mono HB4.out.size)); have t2 := cell_on r2 HB5.out; have ty := HY.out _ HB5.out; clear hb))
      go_ret
      exact ⟨rfl, HBC.out.trans (HB5.out.mono HBC.out.size)⟩
end
end Go.Proofs.YtbgdlokegibkmaaGreat.Edge

namespace Go.Proofs.YtbgdlokegibkmaaGreat.Edge
open Go.RowKit
open _root_.Go.Proofs.YtbgdlokegibkmaaGreat.Codec (lt_of_heap frozen_of heap_set)
open _root_.Go.Proofs.YtbgdlokegibkmaaGreat.Kit (Enc Lies At Kept Laid Off cell_on lt_heap take_snoc below_drewN own_keep box5)
open _root_.Go.Proofs.YtbgdlokegibkmaaGreat.Lease (Lz Num spend)
open _root_.Go.Proofs.YtbgdlokegibkmaaGreat.Queue (It take)
open _root_.Go.Proofs.YtbgdlokegibkmaaGreat.Demand (Nt)
/-- What is spent at once. -/
def sa (e : Eg) (r : Rq) (now : Int) : List Lz × Int × Bool := if Queue.of e.Q r.key = [] then spend e.L r.key r.cost now else (e.L, 0, false)
theorem head_some (l : List It) : (l = [] ∧ (Queue.head l).2 = false) ∨ (l ≠ [] ∧ (Queue.head l).2 = true) := by
  cases l with
  | nil => exact .inl ⟨rfl, rfl⟩
  | cons x l => exact .inr ⟨List.cons_ne_nil _ _, rfl⟩
section
variable {R : Nat → Prop} {B q qw qq qd : Nat} {w w' u u' : World} {y : Value} {c : Cf} {e e' e2 : Eg}
theorem box_five {X w3 : World} {a b c d e : Value} {T : TypeId} (hb : Below (X.alloc (.cells #[a, b, c, d, e] T)).drew.heap.size (X.alloc (.cells #[a, b, c, d, e] T)).drew w3) :
    (w3.cell? ⟨X.heap.size, 0, none⟩ = some a ∧ w3.cell? ⟨X.heap.size, 1, none⟩ = some b ∧ w3.cell? ⟨X.heap.size, 2, none⟩ = some c ∧ w3.cell? ⟨X.heap.size, 3, none⟩ = some d ∧ w3.cell? ⟨X.heap.size, 4, none⟩ = some e) ∧
    (w3.frozen? ⟨X.heap.size, 0, none⟩ = false ∧ w3.frozen? ⟨X.heap.size, 1, none⟩ = false ∧ w3.frozen? ⟨X.heap.size, 2, none⟩ = false ∧ w3.frozen? ⟨X.heap.size, 3, none⟩ = false ∧ w3.frozen? ⟨X.heap.size, 4, none⟩ = false) := by
  have k : w3.heap[X.heap.size]? = some (.cells #[a, b, c, d, e] T (0, 0)) := (hb.block X.heap.size (by show X.heap.size < (X.alloc (.cells #[a, b, c, d, e] T)).heap.size; simp)).trans (heap_alloc_new X (.cells #[a, b, c, d, e] T))
  exact ⟨box5 k, Kit.frozen5 k⟩
theorem s_set5 {S : Prop} {w0 X : World} {g : Nat} {a b c d e : Value} (h : Below w0.heap.size w0 X ∧ S) (hg : w0.heap.size ≤ g) : Below w0.heap.size w0 (((((X.setCell ⟨g, 0, none⟩ a).setCell ⟨g, 1, none⟩ b).setCell ⟨g, 2, none⟩ c).setCell ⟨g, 3, none⟩ d).setCell ⟨g, 4, none⟩ e) :=
  ((((h.1.setCell (p := ⟨g, 0, none⟩) hg _).setCell (p := ⟨g, 1, none⟩) hg _).setCell (p := ⟨g, 2, none⟩) hg _).setCell (p := ⟨g, 3, none⟩) hg _).setCell (p := ⟨g, 4, none⟩) hg _
set_option maxRecDepth 100000 in
set_option maxHeartbeats 16000000 in
theorem spendAtOnce_any (P : Queue.Way12 Queue.Pq) (h : In R B w q y qw qq qd c e) (hB : B ≤ w.heap.size) (hg : Good c e) (hf : Lens e) (r : Rq) (hr : RqNum r) (now : Int) :
    Calls Tryz.prog 40 #[.pointer (some ⟨q, 0, none⟩), rval r, .int .i64 now] w fun x w' => x = .returned (.tuple #[.int .i64 (sa e r now).2.1, .bool (sa e r now).2.2]) ∧ Moves R B w q y qw qq qd c ⟨(sa e r now).1, e.Q, e.D⟩ w' := by
  have HB0 := Lib.hid (lay w (.cells #[.int .i64 r.id, .int .i64 r.key, .int .i64 r.cost, .int .i64 r.cls, .int .i64 r.wait] 42))
  have hx := reads_new h r
  have HX := Lib.hid (fun u (hu : Below (w.alloc (.cells #[.int .i64 r.id, .int .i64 r.key, .int .i64 r.cost, .int .i64 r.cls, .int .i64 r.wait] 42)).heap.size (w.alloc (.cells #[.int .i64 r.id, .int .i64 r.key, .int .i64 r.cost, .int .i64 r.cls, .int .i64 r.wait] 42)) u) => hx.on hu)
  have HK := Lib.hid (fun u (hu : Below (w.alloc (.cells #[.int .i64 r.id, .int .i64 r.key, .int .i64 r.cost, .int .i64 r.cls, .int .i64 r.wait] 42)).heap.size (w.alloc (.cells #[.int .i64 r.id, .int .i64 r.key, .int .i64 r.cost, .int .i64 r.cls, .int .i64 r.wait] 42)) u) => (hu.block w.heap.size (by simp)).trans (heap_alloc_new w (.cells #[.int .i64 r.id, .int .i64 r.key, .int .i64 r.cost, .int .i64 r.cls, .int .i64 r.wait] 42)))
  have HF := Lib.hid (fun u (hu : Below w.heap.size w u) => P.first (h.below hu).qu hg.q hf.2.1 r.key hr.2.1)
  have HS := Lib.hid (fun u (hu : Below w.heap.size w u) => espend (h.below hu) (Nat.le_trans hB hu.size) hg.l (by have := hf.1; omega) (cost := r.cost) (now := now) hr.2.1)
  have HM := Lib.hid (fun u (hu : Below w.heap.size w u) => Moves.same h hB hu)
  have HBB := Lib.hid hB
  have hh := head_some (Queue.of e.Q r.key)
  have hsa : sa e r now = if Queue.of e.Q r.key = [] then spend e.L r.key r.cost now else (e.L, 0, false) := rfl
  generalize sa e r now = S at *
  generalize Queue.head (Queue.of e.Q r.key) = hd at *
  generalize Queue.of e.Q r.key = OF at *
  generalize spend e.L r.key r.cost now = SP at *
  obtain ⟨L', gen, so⟩ := SP
  obtain ⟨⟨zi, zk, zc, zs, zt⟩, ok⟩ := hd
  obtain ⟨ri, rkey, rc, rs, rw'⟩ := r
  simp only [rval, Queue.val] at *
  obtain ⟨r0, r1, r2, r3, r4, s⟩ := hx
  have s10 := s.k10
  simp only at *
  clear h hg hf hB s r0 r3 r4 P
  go_enter Tryz.func40, Tryz.ntmps40
  go_wp2
  generalize w.alloc (.cells #[.int .i64 ri, .int .i64 rkey, .int .i64 rc, .int .i64 rs, .int .i64 rw'] 42) = w0 at *
  have HY := Lib.hid (fun u (hu : Below w0.heap.size w0 u) => show Below w0.heap.size w0 u ∧ u.cell? ⟨q, 10, none⟩ = some (.pointer (some ⟨qq, 0, none⟩)) ∧ u.cell? ⟨w.heap.size, 1, none⟩ = some (.int .i64 rkey) from
    ⟨hu, (HX.out u hu).s.k10, (HX.out u hu).r1⟩)
  have y0 := HY.out _ (Below.refl w0.heap.size w0).drew
  clear s10 r1 r2
  go_cut [9] (fun a wx => a = .bool ok ∧ Below w0.heap.size w0 wx)
  case first =>
    go_region_held3 (fun u => Below w0.heap.size w0 u ∧ u.cell? ⟨q, 10, none⟩ = some (.pointer (some ⟨qq, 0, none⟩)) ∧ u.cell? ⟨w.heap.size, 1, none⟩ = some (.int .i64 rkey)) (first | with_reducible assumption | ((with_reducible refine HY.out _ ?_); first | with_reducible exact s_set5 (by with_reducible assumption) (Nat.le_refl _) | with_reducible exact s_alloc (by with_reducible assumption) _ | exact s_alloc (by with_reducible assumption) _)) (first
      | (go_at_call 86; (with_reducible refine (HF.out _ (s_low (by with_reducible assumption) HB0.out)).mono ?_); rintro e1 w3 ⟨rfl, hb⟩; have y3 := HY.out _ (s_next (by with_reducible assumption) hb); (try (have zz := box_five hb; obtain ⟨⟨z0, z1, z2, z3, z4⟩, ⟨x0, x1, x2, x3, x4⟩⟩ := zz))))
    all_goals (go_wp2_with fail; go_meet; (refine ⟨rfl, ?_⟩; first | with_reducible exact s_alloc (by with_reducible assumption) _ | with_reducible exact s_set5 (by with_reducible assumption) (Nat.le_refl _)))
  case rest =>
    obtain ⟨rfl, hbc⟩ := hcut
    have HBC := Lib.hid (HB0.out.trans (hbc.mono HB0.out.size))
    have hs0 := (HX.out _ hbc).s.k0
    obtain ⟨r0, r1, r2, r3, r4, -⟩ := HX.out _ hbc
    simp only at r0 r1 r2 r3 r4
    have HKC := Lib.hid (HK.out _ hbc)
    clear HF HY HX HK hbc r0 r3 r4
    rcases hh with ⟨rfl, rfl⟩ | ⟨hne, rfl⟩
    · rw [if_pos rfl] at hsa
      subst hsa
      have HBCD := Lib.hid (HBC.out.trans ((Below.refl wc.heap.size wc).drew.mono HBC.out.size))
      have c1 := HS.out _ HBCD.out
      have HMD := Lib.hid (HM.out _ HBCD.out)
      clear HS HM
      go_wp2
      go_region_held3 (fun u => u.cell? ⟨q, 0, none⟩ = some (.pointer (some ⟨qw, 0, none⟩)) ∧ u.cell? ⟨w.heap.size, 1, none⟩ = some (.int .i64 rkey) ∧ u.cell? ⟨w.heap.size, 2, none⟩ = some (.int .i64 rc)) (first | assumption | exact ⟨hs0, r1, r2⟩) (first
        | (go_at_call 87; (with_reducible refine c1.mono ?_); rintro e1 w3 ⟨rfl, h3⟩; have H3 := Lib.hid h3; have y3 : _ ∧ _ ∧ _ := ⟨h3.inn.sees.k0, (box5 (h3.off2.block _ _ _ _ HKC.out (by simp [theirs]))).2.1, (box5 (h3.off2.block _ _ _ _ HKC.out (by simp [theirs]))).2.2.1⟩; clear h3 c1))
      go_wp2
      refine bodyPost_ret (v := .tuple #[.int .i64 gen, .bool so]) (by simp [results, Tryz.results40, go_sem]) rfl ⟨rfl, HMD.out.trans H3.out⟩
    · rw [if_neg hne] at hsa
      subst hsa
      go_wp2
      refine bodyPost_ret (v := .tuple #[.int .i64 0, .bool false]) (by simp [results, Tryz.results40, go_sem]) rfl ⟨rfl, HM.out _ HBC.out⟩
/-- Two numbers in a row. -/
def TwoAt (u : World) (b : Nat) (x z : Int) : Prop := u.cell? ⟨b, 0, none⟩ = some (.int .i64 x) ∧ u.cell? ⟨b, 1, none⟩ = some (.int .i64 z)
theorem two_a {X : World} {b : Nat} {x z : Int} {T : TypeId} (hb : b = X.heap.size) : TwoAt (X.alloc (.cells #[.int .i64 x, .int .i64 z] T)).drew b x z := by
  subst hb
  have k : (X.alloc (.cells #[.int .i64 x, .int .i64 z] T)).drew.heap[X.heap.size]? = some (.cells #[.int .i64 x, .int .i64 z] T (0, 0)) := heap_alloc_new X (.cells #[.int .i64 x, .int .i64 z] T)
  exact ⟨by rw [cell_of_row _ _ 0 _ _ (0, 0) k]; rfl, by rw [cell_of_row _ _ 1 _ _ (0, 0) k]; rfl⟩
theorem two_b {X : World} {b : Nat} {x z : Int} {T : TypeId} {o : Obj} (hb : b = X.heap.size) : TwoAt ((X.alloc (.cells #[.int .i64 x, .int .i64 z] T)).alloc o).drew b x z := by
  obtain ⟨h0, h1⟩ := two_a (X := X) (x := x) (z := z) (T := T) hb
  have hb2 : Below (X.alloc (.cells #[.int .i64 x, .int .i64 z] T)).drew.heap.size (X.alloc (.cells #[.int .i64 x, .int .i64 z] T)).drew ((X.alloc (.cells #[.int .i64 x, .int .i64 z] T)).alloc o).drew := lay (X.alloc (.cells #[.int .i64 x, .int .i64 z] T)).drew o
  exact ⟨cell_on h0 hb2, cell_on h1 hb2⟩
theorem add_two {u : World} {b : Nat} {x z : Int} (h : TwoAt u b x z) : Calls Tryz.prog 88 #[.slice (some ⟨b, 0, none⟩) 2 2] u fun e w' => e = .returned (.int .i64 (Sat.add [x, z])) ∧ u = w' :=
  _root_.Go.Proofs.YtbgdlokegibkmaaGreat.Sat.add_any [x, z] b 2 u (by simp) fun k hk => by
    match k, hk with
    | 0, _ => exact h.1
    | 1, _ => exact h.2
theorem bel1 (w0 : World) (o : Obj) : Below w0.heap.size w0 (w0.alloc o).drew := (lay w0 o).drew
theorem bel2 (w0 : World) (o o' : Obj) : Below w0.heap.size w0 ((w0.alloc o).alloc o').drew := ((lay w0 o).trans ((lay (w0.alloc o) o').mono (lay w0 o).size)).drew
/-- A box of an item's, behind a region. -/
def Box5 (w0 wx : World) (a : Value) (x : It) : Prop := ∃ g, a = .pointer (some ⟨g, 0, none⟩) ∧ wx.heap[g]? = some (.cells #[.int .i64 x.id, .int .i64 x.key, .int .i64 x.cost, .int .i64 x.cls, .int .i64 x.til] 136 (0, 0)) ∧ w0.heap.size ≤ g ∧ Below w0.heap.size w0 wx
theorem box5_aa (w0 : World) (o : Obj) (x : It) : Box5 w0 ((w0.alloc o).alloc (.cells #[.int .i64 x.id, .int .i64 x.key, .int .i64 x.cost, .int .i64 x.cls, .int .i64 x.til] 136)).drew (.pointer (some ⟨w0.heap.size + 1, 0, none⟩)) x := by
  have k : ((w0.alloc o).alloc (.cells #[.int .i64 x.id, .int .i64 x.key, .int .i64 x.cost, .int .i64 x.cls, .int .i64 x.til] 136)).drew.heap[(w0.alloc o).heap.size]? = some (.cells #[.int .i64 x.id, .int .i64 x.key, .int .i64 x.cost, .int .i64 x.cls, .int .i64 x.til] 136 (0, 0)) := heap_alloc_new (w0.alloc o) _
  rw [show (w0.alloc o).heap.size = w0.heap.size + 1 by simp] at k
  exact ⟨_, rfl, k, by omega, bel2 _ _ _⟩
theorem box5_a (w0 : World) (o : Obj) (x : It) : Box5 w0 ((w0.alloc (.cells #[.int .i64 x.id, .int .i64 x.key, .int .i64 x.cost, .int .i64 x.cls, .int .i64 x.til] 136)).alloc o).drew (.pointer (some ⟨w0.heap.size, 0, none⟩)) x := by
  have k : ((w0.alloc (.cells #[.int .i64 x.id, .int .i64 x.key, .int .i64 x.cost, .int .i64 x.cls, .int .i64 x.til] 136)).alloc o).drew.heap[w0.heap.size]? = some (.cells #[.int .i64 x.id, .int .i64 x.key, .int .i64 x.cost, .int .i64 x.cls, .int .i64 x.til] 136 (0, 0)) :=
    ((lay (w0.alloc (.cells #[.int .i64 x.id, .int .i64 x.key, .int .i64 x.cost, .int .i64 x.cls, .int .i64 x.til] 136)) o).block w0.heap.size (by simp)).trans (heap_alloc_new w0 _)
  exact ⟨_, rfl, k, Nat.le_refl _, bel2 _ _ _⟩
set_option maxRecDepth 100000 in
set_option maxHeartbeats 16000000 in
theorem pwait_any (P : Queue.Way12 Queue.Pq) (h : In R B w q y qw qq qd c e) (hB : B ≤ w.heap.size) (hg : Good c e) (hf : Lens e) (r : Rq) (hr : RqNum r) (now : Int) :
    Calls Tryz.prog 42 #[.pointer (some ⟨q, 0, none⟩), rval r, .int .i64 now] w fun x w' => ∃ v, x = .returned v ∧ Says w' v (wait c e r now).2 ∧ Moves R B w q y qw qq qd c (wait c e r now).1 w' := by
  have HB0 := Lib.hid (lay w (.cells #[.int .i64 r.id, .int .i64 r.key, .int .i64 r.cost, .int .i64 r.cls, .int .i64 r.wait] 42))
  have hx := reads_new h r
  have HX := Lib.hid (fun u (hu : Below (w.alloc (.cells #[.int .i64 r.id, .int .i64 r.key, .int .i64 r.cost, .int .i64 r.cls, .int .i64 r.wait] 42)).heap.size (w.alloc (.cells #[.int .i64 r.id, .int .i64 r.key, .int .i64 r.cost, .int .i64 r.cls, .int .i64 r.wait] 42)) u) => hx.on hu)
  have hwait := wait_cases c e r now
  have HKQ := Lib.hid (fun u (hu : Below (w.alloc (.cells #[.int .i64 r.id, .int .i64 r.key, .int .i64 r.cost, .int .i64 r.cls, .int .i64 r.wait] 42)).heap.size (w.alloc (.cells #[.int .i64 r.id, .int .i64 r.key, .int .i64 r.cost, .int .i64 r.cls, .int .i64 r.wait] 42)) u) => show u.heap[w.heap.size]? = some (.cells #[.int .i64 r.id, .int .i64 r.key, .int .i64 r.cost, .int .i64 r.cls, .int .i64 r.wait] 42 (0, 0)) from (hu.block w.heap.size (by simp)).trans (heap_alloc_new w _))
  have HX2 := Lib.hid (fun (u : World) (hu : u.heap[w.heap.size]? = some (.cells #[.int .i64 r.id, .int .i64 r.key, .int .i64 r.cost, .int .i64 r.cls, .int .i64 r.wait] 42 (0, 0))) => box5 hu)
  have HPU := Lib.hid (fun (R' : Nat → Prop) u (hu : In R' B u q y qw qq qd c e) (hb : B ≤ u.heap.size) => eputq P hu hb hg.q hf.2.1 (item r now) (nums_item hr now))
  have HM := Lib.hid (fun u (hu : Below w.heap.size w u) => Moves.same h hB hu)
  have HD1 := Lib.hid (fun u => denied_any r 1 u)
  have HD2 := Lib.hid (fun u => denied_any r 2 u)
  have HAD := Lib.hid (fun u b (hb : TwoAt u b now r.wait) => add_two hb)
  have HBB := Lib.hid hB
  simp only [item, Queue.val] at HPU hwait
  generalize wait c e r now = WT at *
  generalize no r.id 1 = A1 at *
  generalize no r.id 2 = A2 at *
  generalize Sat.add [now, r.wait] = til at *
  generalize Queue.put c.qu e.Q ⟨r.id, r.key, r.cost, r.cls, til⟩ = PU at *
  obtain ⟨ri, rkey, rc, rs, rw'⟩ := r
  obtain ⟨PQ, pf⟩ := PU
  simp only [rval] at *
  obtain ⟨r0, r1, r2, r3, r4, s⟩ := hx
  have s10 := s.k10
  simp only at *
  clear h hg hf hB s P
  rcases hwait with ⟨g1, rfl⟩ | ⟨g1, g2, rfl⟩ | ⟨g1, g2, g4, rfl⟩
  · subst g1
    go_enter Tryz.func42, Tryz.ntmps42
    go_wp2_with (go_at_call 39; (with_reducible refine (HD1.out _).mono ?_); rintro e1 w3 ⟨v, rfl, ht, hb⟩; have HT := Lib.hid ht; have HB3 := Lib.hid hb; clear ht hb)
    go_ret
    exact ⟨v, rfl, HT.out, HM.out _ (HB0.out.trans (HB3.out.mono HB0.out.size))⟩
  · have g5 : (rw' == 0) = false := by simpa using g1
    subst g2
    clear g1
    have HI0 := Lib.hid (HM.out _ HB0.out)
    go_enter Tryz.func42, Tryz.ntmps42
    go_wp2
    generalize w.alloc (.cells #[.int .i64 ri, .int .i64 rkey, .int .i64 rc, .int .i64 rs, .int .i64 rw'] 42) = w0 at *
    have HY := Lib.hid (fun u (hu : Below w0.heap.size w0 u) => show Below w0.heap.size w0 u ∧ u.cell? ⟨w.heap.size, 0, none⟩ = some (.int .i64 ri) ∧ u.cell? ⟨w.heap.size, 1, none⟩ = some (.int .i64 rkey) ∧ u.cell? ⟨w.heap.size, 2, none⟩ = some (.int .i64 rc) ∧ u.cell? ⟨w.heap.size, 3, none⟩ = some (.int .i64 rs) ∧ u.cell? ⟨w.heap.size, 4, none⟩ = some (.int .i64 rw') from
      ⟨hu, (HX.out u hu).r0, (HX.out u hu).r1, (HX.out u hu).r2, (HX.out u hu).r3, (HX.out u hu).r4⟩)
    have y0 := HY.out _ (Below.refl w0.heap.size w0).drew
    clear s10 r0 r1 r2 r3 r4
    go_cut [7] (fun a wx => Box5 w0 wx a ⟨ri, rkey, rc, rs, til⟩)
    case first =>
      go_region_held3 (fun u => Below w0.heap.size w0 u ∧ u.cell? ⟨w.heap.size, 0, none⟩ = some (.int .i64 ri) ∧ u.cell? ⟨w.heap.size, 1, none⟩ = some (.int .i64 rkey) ∧ u.cell? ⟨w.heap.size, 2, none⟩ = some (.int .i64 rc) ∧ u.cell? ⟨w.heap.size, 3, none⟩ = some (.int .i64 rs) ∧ u.cell? ⟨w.heap.size, 4, none⟩ = some (.int .i64 rw')) (first | with_reducible assumption | ((with_reducible refine HY.out _ ?_); first | with_reducible exact bel1 _ _ | with_reducible exact bel2 _ _ _)) (first
        | (go_at_call 88; (with_reducible refine (HAD.out _ _ (by first | exact two_a rfl | exact two_a (by simp) | exact two_b rfl | exact two_b (by simp))).mono ?_); rintro e1 w3 ⟨rfl, rfl⟩))
      all_goals (go_wp2_with fail; go_meet; first | with_reducible exact box5_aa _ _ ⟨ri, rkey, rc, rs, til⟩ | with_reducible exact box5_a _ _ ⟨ri, rkey, rc, rs, til⟩)
    case rest =>
      obtain ⟨g, rfl, hk, hg0, hbc⟩ := hcut
      have s10 := (HX.out _ hbc).s.k10
      have HM1 := Lib.hid (HI0.out.on HBB.out (hbc.trans ((Below.refl wc.heap.size wc).drew.mono hbc.size)))
      have HI1 := Lib.hid ((HI0.out.inn.grow hbc).below (Below.refl wc.heap.size wc).drew)
      have c1 := HPU.out _ _ HI1.out (Nat.le_trans HBB.out HM1.out.off.size)
      have HK := Lib.hid hk
      have HRG := Lib.hid (show R g ∨ w0.heap.size ≤ g ∧ g < wc.heap.size from .inr ⟨hg0, lt_of_heap hk⟩)
      obtain ⟨b0, b1, b2, b3, b4⟩ := box5 hk
      clear HX HY hbc HPU hk
      go_wp2
      go_region_held3 (fun u => u.cell? ⟨q, 10, none⟩ = some (.pointer (some ⟨qq, 0, none⟩)) ∧ u.cell? ⟨g, 0, none⟩ = some (.int .i64 ri) ∧ u.cell? ⟨g, 1, none⟩ = some (.int .i64 rkey) ∧ u.cell? ⟨g, 2, none⟩ = some (.int .i64 rc) ∧ u.cell? ⟨g, 3, none⟩ = some (.int .i64 rs) ∧ u.cell? ⟨g, 4, none⟩ = some (.int .i64 til)) (first | with_reducible assumption | exact ⟨s10, b0, b1, b2, b3, b4⟩) (first
        | (go_at_call 89; (with_reducible refine c1.mono ?_); rintro e1 w3 ⟨rfl, h3⟩; have H3 := Lib.hid h3; have y3 : _ ∧ _ := ⟨h3.inn.sees.k10, box5 (h3.box (x := ⟨ri, rkey, rc, rs, til⟩) HRG.out HK.out)⟩; clear h3 c1))
      go_wp2
      go_ret
      exact ⟨_, rfl, says_none _, HM1.out.trans (H3.out.sub fun g hg => .inl hg)⟩
  · have g5 : (rw' == 0) = false := by simpa using g1
    have g6 : (pf != 0) = true := by simpa using g2
    subst g4
    clear g1 g2
    have HI0 := Lib.hid (HM.out _ HB0.out)
    go_enter Tryz.func42, Tryz.ntmps42
    go_wp2
    generalize w.alloc (.cells #[.int .i64 ri, .int .i64 rkey, .int .i64 rc, .int .i64 rs, .int .i64 rw'] 42) = w0 at *
    have HY := Lib.hid (fun u (hu : Below w0.heap.size w0 u) => show Below w0.heap.size w0 u ∧ u.cell? ⟨w.heap.size, 0, none⟩ = some (.int .i64 ri) ∧ u.cell? ⟨w.heap.size, 1, none⟩ = some (.int .i64 rkey) ∧ u.cell? ⟨w.heap.size, 2, none⟩ = some (.int .i64 rc) ∧ u.cell? ⟨w.heap.size, 3, none⟩ = some (.int .i64 rs) ∧ u.cell? ⟨w.heap.size, 4, none⟩ = some (.int .i64 rw') from
      ⟨hu, (HX.out u hu).r0, (HX.out u hu).r1, (HX.out u hu).r2, (HX.out u hu).r3, (HX.out u hu).r4⟩)
    have y0 := HY.out _ (Below.refl w0.heap.size w0).drew
    clear s10 r0 r1 r2 r3 r4
    go_cut [7] (fun a wx => Box5 w0 wx a ⟨ri, rkey, rc, rs, til⟩)
    case first =>
      go_region_held3 (fun u => Below w0.heap.size w0 u ∧ u.cell? ⟨w.heap.size, 0, none⟩ = some (.int .i64 ri) ∧ u.cell? ⟨w.heap.size, 1, none⟩ = some (.int .i64 rkey) ∧ u.cell? ⟨w.heap.size, 2, none⟩ = some (.int .i64 rc) ∧ u.cell? ⟨w.heap.size, 3, none⟩ = some (.int .i64 rs) ∧ u.cell? ⟨w.heap.size, 4, none⟩ = some (.int .i64 rw')) (first | with_reducible assumption | ((with_reducible refine HY.out _ ?_); first | with_reducible exact bel1 _ _ | with_reducible exact bel2 _ _ _)) (first
        | (go_at_call 88; (with_reducible refine (HAD.out _ _ (by first | exact two_a rfl | exact two_a (by simp) | exact two_b rfl | exact two_b (by simp))).mono ?_); rintro e1 w3 ⟨rfl, rfl⟩))
      all_goals (go_wp2_with fail; go_meet; first | with_reducible exact box5_aa _ _ ⟨ri, rkey, rc, rs, til⟩ | with_reducible exact box5_a _ _ ⟨ri, rkey, rc, rs, til⟩)
    case rest =>
      obtain ⟨g, rfl, hk, hg0, hbc⟩ := hcut
      have s10 := (HX.out _ hbc).s.k10
      have HKR := Lib.hid (HKQ.out _ hbc)
      have HM1 := Lib.hid (HI0.out.on HBB.out (hbc.trans ((Below.refl wc.heap.size wc).drew.mono hbc.size)))
      have HI1 := Lib.hid ((HI0.out.inn.grow hbc).below (Below.refl wc.heap.size wc).drew)
      have c1 := HPU.out _ _ HI1.out (Nat.le_trans HBB.out HM1.out.off.size)
      have HK := Lib.hid hk
      have HRG := Lib.hid (show R g ∨ w0.heap.size ≤ g ∧ g < wc.heap.size from .inr ⟨hg0, lt_of_heap hk⟩)
      obtain ⟨b0, b1, b2, b3, b4⟩ := box5 hk
      clear HX HY hbc HPU hk
      go_wp2
      go_region_held3 (fun u => u.cell? ⟨q, 10, none⟩ = some (.pointer (some ⟨qq, 0, none⟩)) ∧ u.cell? ⟨g, 0, none⟩ = some (.int .i64 ri) ∧ u.cell? ⟨g, 1, none⟩ = some (.int .i64 rkey) ∧ u.cell? ⟨g, 2, none⟩ = some (.int .i64 rc) ∧ u.cell? ⟨g, 3, none⟩ = some (.int .i64 rs) ∧ u.cell? ⟨g, 4, none⟩ = some (.int .i64 til)) (first | with_reducible assumption | exact ⟨s10, b0, b1, b2, b3, b4⟩) (first
        | (go_at_call 89; (with_reducible refine c1.mono ?_); rintro e1 w3 ⟨rfl, h3⟩; have H3 := Lib.hid h3; have y3 : _ ∧ _ := ⟨h3.inn.sees.k10, box5 (h3.box (x := ⟨ri, rkey, rc, rs, til⟩) HRG.out HK.out)⟩; clear h3 c1))
      have t2 := (HX2.out _ (H3.out.off2.block _ _ _ _ HKR.out (by simp [theirs])))
      obtain ⟨t0, t1, t2, t3, t4⟩ := t2
      go_wp2_with (go_at_call 39; (with_reducible refine (HD2.out _).mono ?_); rintro e1 w4 ⟨v, rfl, ht, hb⟩; have HT := Lib.hid ht; have HB4 := Lib.hid hb; clear ht hb)
      go_ret
      exact ⟨v, rfl, HT.out, (HM1.out.trans (H3.out.sub fun g hg => .inl hg)).on HBB.out HB4.out⟩
end
end Go.Proofs.YtbgdlokegibkmaaGreat.Edge

namespace Go.Proofs.YtbgdlokegibkmaaGreat.Edge
open Go.RowKit
open _root_.Go.Proofs.YtbgdlokegibkmaaGreat.Codec (lt_of_heap frozen_of heap_set)
open _root_.Go.Proofs.YtbgdlokegibkmaaGreat.Kit (Enc Lies At Kept Laid Off cell_on lt_heap take_snoc below_drewN own_keep box5)
open _root_.Go.Proofs.YtbgdlokegibkmaaGreat.Lease (Lz Num spend)
open _root_.Go.Proofs.YtbgdlokegibkmaaGreat.Queue (It take)
open _root_.Go.Proofs.YtbgdlokegibkmaaGreat.Demand (Nt)
theorem ask_obj (c : Cf) (e : Eg) (r : Rq) (now : Int) : (obj c e r now ≠ 0 ∧ ask c e r now = (e, no r.id (obj c e r now))) ∨ (obj c e r now = 0 ∧
    (((sa e r now).2.2 = true ∧ ask c e r now = (⟨(sa e r now).1, e.Q, e.D⟩, [⟨r.id, (sa e r now).2.1, 0⟩])) ∨ ((sa e r now).2.2 = false ∧ (sa e r now).1 = e.L ∧ ask c e r now = wait c e r now))) := by
  unfold obj ask sa
  by_cases h1 : bad e.Q r
  · rw [if_pos h1, if_pos h1]
    exact .inl ⟨by decide, rfl⟩
  · rw [if_neg h1, if_neg h1]
    by_cases h2 : now < 0 ∨ 4611686018427387904 ≤ now
    · rw [if_pos h2, if_pos h2]
      exact .inl ⟨by decide, rfl⟩
    · rw [if_neg h2, if_neg h2]
      by_cases h3 : c.rate r.key < 0
      · rw [if_pos h3, if_pos h3]
        exact .inl ⟨by decide, rfl⟩
      · rw [if_neg h3, if_neg h3]
        by_cases h4 : c.b r.key < r.cost
        · rw [if_pos h4, if_pos h4]
          exact .inl ⟨by decide, rfl⟩
        · rw [if_neg h4, if_neg h4]
          refine .inr ⟨rfl, ?_⟩
          by_cases h5 : Queue.of e.Q r.key = []
          · rw [if_pos h5]
            by_cases h6 : (spend e.L r.key r.cost now).2.2 = true
            · exact .inl ⟨h6, by rw [if_pos ⟨h5, h6⟩]⟩
            · have h6' : (spend e.L r.key r.cost now).2.2 = false := by simpa using h6
              exact .inr ⟨h6', spend_no h6', by rw [if_neg (fun hh => h6 hh.2)]⟩
          · rw [if_neg h5]
            exact .inr ⟨rfl, rfl, by rw [if_neg (fun hh => h5 hh.1)]⟩
section
variable {R : Nat → Prop} {B q qw qq qd : Nat} {w w' u u' : World} {y : Value} {c : Cf} {e e' e2 : Eg}
set_option maxRecDepth 100000 in
set_option maxHeartbeats 16000000 in
theorem pask_any (P : Queue.Way12 Queue.Pq) (h : In R B w q y qw qq qd c e) (hB : B ≤ w.heap.size) (hg : Good c e) (hf : Lens e) (r : Rq) (hr : RqNum r) (now : Int) :
    Calls Tryz.prog 13 #[.pointer (some ⟨q, 0, none⟩), rval r, .int .i64 now] w fun x w' => ∃ v, x = .returned v ∧ Says w' v (ask c e r now).2 ∧ Moves R B w q y qw qq qd c (ask c e r now).1 w' := by
  have hbx := lay w (.cells #[.int .i64 r.id, .int .i64 r.key, .int .i64 r.cost, .int .i64 r.cls, .int .i64 r.wait] 42)
  have HK := Lib.hid (heap_alloc_new w (.cells #[.int .i64 r.id, .int .i64 r.key, .int .i64 r.cost, .int .i64 r.cls, .int .i64 r.wait] 42))
  have HM0 := Lib.hid (Moves.same h hB hbx)
  have c1 := objection_any HM0.out.inn hf r now
  have HSA := Lib.hid (fun u (hu : In R B u q y qw qq qd c e) (hb : B ≤ u.heap.size) => spendAtOnce_any P hu hb hg hf r hr now)
  have HWT := Lib.hid (fun u (hu : In R B u q y qw qq qd c e) (hb : B ≤ u.heap.size) => pwait_any P hu hb hg hf r hr now)
  have HDN := Lib.hid (fun u => denied_any r (obj c e r now) u)
  have HGR := Lib.hid (fun u => granted_any r.id (sa e r now).2.1 u)
  have HBX := Lib.hid (fun (u : World) (hu : u.heap[w.heap.size]? = some (.cells #[.int .i64 r.id, .int .i64 r.key, .int .i64 r.cost, .int .i64 r.cls, .int .i64 r.wait] 42 (0, 0))) => box5 hu)
  have hcase := ask_obj c e r now
  have HBB := Lib.hid hB
  have HS1 := Lib.hid (fun (u : World) (g : Nat) (hg : g = u.heap.size) => show Says (u.alloc (.cells #[.int .i64 r.id, .int .i64 (sa e r now).2.1, .int .i64 0] 60)) (.slice (some ⟨g, 0, none⟩) 1 1) [⟨r.id, (sa e r now).2.1, 0⟩] from by rw [hg]; exact says_one u ⟨r.id, (sa e r now).2.1, 0⟩)
  generalize ask c e r now = AS at *
  generalize wait c e r now = WT at *
  generalize no r.id (obj c e r now) = AN at *
  generalize obj c e r now = O at *
  generalize sa e r now = SA at *
  obtain ⟨L', gen, ok⟩ := SA
  obtain ⟨ri, rkey, rc, rs, rw'⟩ := r
  simp only [rval, aval] at *
  obtain ⟨r0, r1, r2, r3, r4⟩ := HBX.out _ HK.out
  clear h hg hf hB hbx P hr
  rcases hcase with ⟨h1, rfl⟩ | ⟨rfl, ⟨rfl, rfl⟩ | ⟨rfl, rfl, rfl⟩⟩
  · have h1' : (O != 0) = true := by simpa using h1
    go_enter Tryz.func13, Tryz.ntmps13
    go_wp2_with (first
      | (go_at_call 38; (with_reducible refine c1.mono ?_); rintro e1 w1 ⟨rfl, hb⟩; have HM1 := Lib.hid (HM0.out.on HBB.out hb); obtain ⟨t0, t1, t2, t3, t4⟩ := HBX.out _ ((hb.block _ (lt_heap HK.out)).trans HK.out); clear hb c1 r0 r1 r2 r3 r4)
      | (go_at_call 39; (with_reducible refine (HDN.out _).mono ?_); rintro e1 w4 ⟨v, rfl, ht, hb⟩; have HT := Lib.hid ht; have HB4 := Lib.hid hb; clear ht hb))
    go_ret
    exact ⟨v, rfl, HT.out, HM1.out.on HBB.out HB4.out⟩
  · go_enter Tryz.func13, Tryz.ntmps13
    go_wp2_with (first
      | (go_at_call 38; (with_reducible refine c1.mono ?_); rintro e1 w1 ⟨rfl, hb⟩; have HM1 := Lib.hid (HM0.out.on HBB.out hb); have HK1 := Lib.hid ((hb.block _ (lt_heap HK.out)).trans HK.out); obtain ⟨t0, t1, t2, t3, t4⟩ := HBX.out _ HK1.out; clear hb c1 r0 r1 r2 r3 r4)
      | (go_at_call 40; (with_reducible refine (HSA.out _ HM1.out.inn (Nat.le_trans HBB.out HM1.out.off.size)).mono ?_); rintro e1 w2 ⟨rfl, h2⟩; have HM2 := Lib.hid (HM1.out.trans h2); obtain ⟨x0, x1, x2, x3, x4⟩ := HBX.out _ (h2.off2.block _ _ _ _ HK1.out (by simp [theirs])); clear h2 HSA)
      | (go_at_call 41; (with_reducible refine (HGR.out _).mono ?_); rintro e1 w3 ⟨rfl, hb⟩; have HM3 := Lib.hid (HM2.out.on HBB.out hb); clear hb))
    go_ret
    exact ⟨_, rfl, HS1.out _ _ rfl, HM3.out.on HBB.out (lay _ _)⟩
  · go_enter Tryz.func13, Tryz.ntmps13
    go_wp2_with (first
      | (go_at_call 38; (with_reducible refine c1.mono ?_); rintro e1 w1 ⟨rfl, hb⟩; have HM1 := Lib.hid (HM0.out.on HBB.out hb); have HK1 := Lib.hid ((hb.block _ (lt_heap HK.out)).trans HK.out); obtain ⟨t0, t1, t2, t3, t4⟩ := HBX.out _ HK1.out; clear hb c1 r0 r1 r2 r3 r4)
      | (go_at_call 40; (with_reducible refine (HSA.out _ HM1.out.inn (Nat.le_trans HBB.out HM1.out.off.size)).mono ?_); rintro e1 w2 ⟨rfl, h2⟩; have HM2 := Lib.hid (HM1.out.trans h2); obtain ⟨x0, x1, x2, x3, x4⟩ := HBX.out _ (h2.off2.block _ _ _ _ HK1.out (by simp [theirs])); clear h2 HSA)
      | (go_at_call 42; (with_reducible refine (HWT.out _ HM2.out.inn (Nat.le_trans HBB.out HM2.out.off.size)).mono ?_); rintro e1 w3 ⟨v, rfl, ht, h3⟩; have HM3 := Lib.hid (HM2.out.trans h3); have HT := Lib.hid ht; clear ht h3))
    go_ret
    exact ⟨v, rfl, HT.out, HM3.out⟩
end
end Go.Proofs.YtbgdlokegibkmaaGreat.Edge
