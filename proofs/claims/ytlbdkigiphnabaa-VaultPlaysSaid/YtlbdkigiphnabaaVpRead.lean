/-
  The program's read: the next record's state, of any reader; it turns no block but the reader's own.
-/
import Derived.Test.YtlbdkigiphnabaaVpOpenPlain
import Derived.Test.YtlbdkigiphnabaaVpAsk
namespace Go.Proofs.Ytlbdkigiphnabaa.Vault
open Go.RowKit
open _root_.Go.Proofs.Ytlbdkigiphnabaa.Codec (pUpto num IsBytes St Rdr Step Stays Lies Cel lt_of_heap frozen_of heap_set grown_set)

theorem rdr_set25 {u : World} {rb b : Nat} {l : List Int} {f : Bool} {cs : Array Value} (h : Rdr 95 5 u rb l f) (hk : u.heap[b]? = some (.cells cs 25 (0, 0))) (o : Nat) (y : Value) : Rdr 95 5 (u.setCell ⟨b, o, none⟩ y) rb l f := by
  refine h.keep (.grown hk (by decide) (grown_set b o y)) ((grown_set b o y).block rb h.lt ?_)
  intro e
  simp only [Option.some.injEq] at e
  subst e
  obtain ⟨p, c, hh, _⟩ := h
  rw [hk] at hh
  simp at hh
/-- A reader's step leaves states' boxes. -/
theorem box_step {u u' : World} {rb b : Nat} {l : List Int} {f : Bool} {cs : Array Value} (h : Rdr 95 5 u rb l f) (hk : u.heap[b]? = some (.cells cs 25 (0, 0))) (hg : u.grownBy u' (some rb)) : u'.heap[b]? = some (.cells cs 25 (0, 0)) := by
  refine (hg.block b (lt_of_heap hk) ?_).trans hk
  intro e
  simp only [Option.some.injEq] at e
  subst e
  obtain ⟨p, c, hh, _⟩ := h
  rw [hk] at hh
  simp at hh
theorem box_facts {u : World} {b : Nat} {a1 a2 a3 a4 : Value} (h : u.heap[b]? = some (.cells #[a1, a2, a3, a4] 25 (0, 0))) :
    u.cell? ⟨b, 0, none⟩ = some a1 ∧ u.cell? ⟨b, 1, none⟩ = some a2 ∧ u.cell? ⟨b, 2, none⟩ = some a3 ∧ u.cell? ⟨b, 3, none⟩ = some a4 ∧ ∀ o, u.frozen? ⟨b, o, none⟩ = false :=
  ⟨by rw [cell_of_row u b 0 _ _ (0, 0) h]; rfl, by rw [cell_of_row u b 1 _ _ (0, 0) h]; rfl, by rw [cell_of_row u b 2 _ _ (0, 0) h]; rfl, by rw [cell_of_row u b 3 _ _ (0, 0) h]; rfl, fun _ => frozen_of h⟩

/-- The boxes of read, and its reader. -/
structure Rst (w : World) (rb : Nat) (st : St) (y1 y2 y3 y4 : Int) (u : World) : Prop where
  rdr : Rdr 95 5 u rb st.1 st.2
  res : u.heap[w.heap.size]? = some (.cells #[.int .i64 0, .int .i64 0, .int .i64 0, .int .i64 0] 25 (0, 0))
  box : u.heap[w.heap.size + 1]? = some (.cells #[.int .i64 y1, .int .i64 y2, .int .i64 y3, .int .i64 y4] 25 (0, 0))
  grown : w.grownBy u (some rb)
section
variable {w u u' : World} {rb : Nat} {st st' : St} {y1 y2 y3 y4 : Int}
theorem Rst.step {y : Value} {e : Ending} (h : Rst w rb st y1 y2 y3 y4 u) (hs : Step 95 5 u rb st' y e u') : Rst w rb st' y1 y2 y3 y4 u' :=
  ⟨hs.2.1, box_step h.rdr h.res hs.2.2, box_step h.rdr h.box hs.2.2, h.grown.trans hs.2.2⟩
theorem res_set (h : Rst w rb st y1 y2 y3 y4 u) (o : Nat) (y : Value) : (u.setCell ⟨w.heap.size + 1, o, none⟩ y).heap[w.heap.size]? = some (.cells #[.int .i64 0, .int .i64 0, .int .i64 0, .int .i64 0] 25 (0, 0)) :=
  (Below.heap_setCell _ _ _ _ (by simp)).trans h.res
theorem Rst.set0 (h : Rst w rb st y1 y2 y3 y4 u) (y : Int) : Rst w rb st y y2 y3 y4 (u.setCell ⟨w.heap.size + 1, 0, none⟩ (.int .i64 y)) :=
  ⟨rdr_set25 h.rdr h.box 0 _, res_set h 0 _, by rw [heap_set _ 0 _ _ h.box]; rfl, grown_setCell h.grown (by omega)⟩
theorem Rst.set1 (h : Rst w rb st y1 y2 y3 y4 u) (y : Int) : Rst w rb st y1 y y3 y4 (u.setCell ⟨w.heap.size + 1, 1, none⟩ (.int .i64 y)) :=
  ⟨rdr_set25 h.rdr h.box 1 _, res_set h 1 _, by rw [heap_set _ 1 _ _ h.box]; rfl, grown_setCell h.grown (by omega)⟩
theorem Rst.set2 (h : Rst w rb st y1 y2 y3 y4 u) (y : Int) : Rst w rb st y1 y2 y y4 (u.setCell ⟨w.heap.size + 1, 2, none⟩ (.int .i64 y)) :=
  ⟨rdr_set25 h.rdr h.box 2 _, res_set h 2 _, by rw [heap_set _ 2 _ _ h.box]; rfl, grown_setCell h.grown (by omega)⟩
theorem Rst.set3 (h : Rst w rb st y1 y2 y3 y4 u) (y : Int) : Rst w rb st y1 y2 y3 y (u.setCell ⟨w.heap.size + 1, 3, none⟩ (.int .i64 y)) :=
  ⟨rdr_set25 h.rdr h.box 3 _, res_set h 3 _, by rw [heap_set _ 3 _ _ h.box]; rfl, grown_setCell h.grown (by omega)⟩
/-- The result's box is set. -/
theorem Rst.out (h : Rst w rb st y1 y2 y3 y4 u) (z1 z2 z3 z4 : Value) : Rdr 95 5 ((((u.setCell ⟨w.heap.size, 0, none⟩ z1).setCell ⟨w.heap.size, 1, none⟩ z2).setCell ⟨w.heap.size, 2, none⟩ z3).setCell ⟨w.heap.size, 3, none⟩ z4) rb st.1 st.2 ∧
    w.grownBy ((((u.setCell ⟨w.heap.size, 0, none⟩ z1).setCell ⟨w.heap.size, 1, none⟩ z2).setCell ⟨w.heap.size, 2, none⟩ z3).setCell ⟨w.heap.size, 3, none⟩ z4) (some rb) := by
  have k1 := heap_set _ 0 _ z1 h.res
  have k2 := heap_set _ 1 _ z2 k1
  have k3 := heap_set _ 2 _ z3 k2
  exact ⟨rdr_set25 (rdr_set25 (rdr_set25 (rdr_set25 h.rdr h.res 0 _) k1 1 _) k2 2 _) k3 3 _, grown_setCell (grown_setCell (grown_setCell (grown_setCell h.grown (Nat.le_refl _)) (Nat.le_refl _)) (Nat.le_refl _)) (Nat.le_refl _)⟩
end

set_option maxRecDepth 100000 in
set_option maxHeartbeats 1000000 in
theorem read_core (rb : Nat) (s0 s1 s2 s3 s4 : St) (x1 x2 x3 x4 : Int) (w : World) (h : Rdr 95 5 w rb s0.1 s0.2)
    (hU1 : ∀ u y1 y2 y3 y4, Rst w rb s0 y1 y2 y3 y4 u → Calls Try.prog 51 #[.pointer (some ⟨rb, 0, none⟩), .int .i64 1099511627776] u fun e w' => e = .returned (.int .i64 x1) ∧ Rst w rb s1 y1 y2 y3 y4 w')
    (hU2 : ∀ u y1 y2 y3 y4, Rst w rb s1 y1 y2 y3 y4 u → Calls Try.prog 51 #[.pointer (some ⟨rb, 0, none⟩), .int .i64 1099511627776] u fun e w' => e = .returned (.int .i64 x2) ∧ Rst w rb s2 y1 y2 y3 y4 w')
    (hU3 : ∀ u y1 y2 y3 y4, Rst w rb s2 y1 y2 y3 y4 u → Calls Try.prog 51 #[.pointer (some ⟨rb, 0, none⟩), .int .i64 1099511627776] u fun e w' => e = .returned (.int .i64 x3) ∧ Rst w rb s3 y1 y2 y3 y4 w')
    (hU4 : ∀ u y1 y2 y3 y4, Rst w rb s3 y1 y2 y3 y4 u → Calls Try.prog 51 #[.pointer (some ⟨rb, 0, none⟩), .int .i64 1099511627776] u fun e w' => e = .returned (.int .i64 x4) ∧ Rst w rb s4 y1 y2 y3 y4 w') :
    Calls Try.prog 43 #[.pointer (some ⟨rb, 0, none⟩)] w fun e w' => e = .returned (.agg #[.int .i64 x1, .int .i64 x2, .int .i64 x3, .int .i64 x4]) ∧ Rdr 95 5 w' rb s4.1 s4.2 ∧ w.grownBy w' (some rb) := by
  have r0 : Rst w rb s0 0 0 0 0 ((w.alloc (.cells #[.int .i64 0, .int .i64 0, .int .i64 0, .int .i64 0] 25)).alloc (.cells #[.int .i64 0, .int .i64 0, .int .i64 0, .int .i64 0] 25)) := by
    have hb : Below w.heap.size w ((w.alloc (.cells #[.int .i64 0, .int .i64 0, .int .i64 0, .int .i64 0] 25)).alloc (.cells #[.int .i64 0, .int .i64 0, .int .i64 0, .int .i64 0] 25)) := ((Below.refl _ _).alloc (Nat.le_refl _) _).alloc (by simp) _
    refine ⟨h.below hb, (Below.heap_alloc _ _ _ (by simp)).trans (heap_alloc_new _ _), ?_, grown_below5 hb⟩
    have := heap_alloc_new (w.alloc (.cells #[.int .i64 0, .int .i64 0, .int .i64 0, .int .i64 0] 25)) (.cells #[.int .i64 0, .int .i64 0, .int .i64 0, .int .i64 0] 25)
    rwa [show (w.alloc (.cells #[.int .i64 0, .int .i64 0, .int .i64 0, .int .i64 0] 25)).heap.size = w.heap.size + 1 by simp] at this
  have R0 := Lib.hid r0
  clear r0 h
  go_enter Try.func43, Try.ntmps43
  go_wp2_with (first
    | (go_at_call 51; (with_reducible refine (hU1 _ _ _ _ _ R0.out).mono ?_); rintro e u1 ⟨rfl, hr⟩; obtain ⟨q10, q11, q12, q13, ff1⟩ := box_facts hr.box; have f10 := ff1 0; have R1 := Lib.hid (hr.set0 x1); clear hU1 hr R0 ff1)
    | (go_at_call 51; (with_reducible refine (hU2 _ _ _ _ _ R1.out).mono ?_); rintro e u2 ⟨rfl, hr⟩; clear q10 q11 q12 q13 f10; obtain ⟨q20, q21, q22, q23, ff2⟩ := box_facts hr.box; have f20 := ff2 1; have R2 := Lib.hid (hr.set1 x2); clear hU2 hr R1 ff2)
    | (go_at_call 51; (with_reducible refine (hU3 _ _ _ _ _ R2.out).mono ?_); rintro e u3 ⟨rfl, hr⟩; clear q20 q21 q22 q23 f20; obtain ⟨q30, q31, q32, q33, ff3⟩ := box_facts hr.box; have f30 := ff3 2; have R3 := Lib.hid (hr.set2 x3); clear hU3 hr R2 ff3)
    | (go_at_call 51; (with_reducible refine (hU4 _ _ _ _ _ R3.out).mono ?_); rintro e u4 ⟨rfl, hr⟩; clear q30 q31 q32 q33 f30; obtain ⟨q40, q41, q42, q43, ff4⟩ := box_facts hr.box; have f40 := ff4 3; obtain ⟨z40, z41, z42, z43, gg4⟩ := box_facts hr.res; have g40 := gg4 0; have g41 := gg4 1; have g42 := gg4 2; have g43 := gg4 3; have R4 := Lib.hid (hr.set3 x4); clear hU4 hr R3 ff4 gg4))
  have RR := Lib.hid (R4.out.out (.int .i64 x1) (.int .i64 x2) (.int .i64 x3) (.int .i64 x4))
  refine bodyPost_ret (v := .agg #[.int .i64 x1, .int .i64 x2, .int .i64 x3, .int .i64 x4]) (by simp [results, Try.results43, go_sem, z40, z41, z42, z43]) rfl ⟨rfl, RR.out⟩

/-- read, of any reader. -/
theorem read_any7 (rb : Nat) (st : St) (w : World) (h : Rdr 95 5 w rb st.1 st.2) (hy : IsBytes st.1) :
    Calls Try.prog 43 #[.pointer (some ⟨rb, 0, none⟩)] w fun e w' => e = .returned (val (pFour st).1) ∧ Rdr 95 5 w' rb (pFour st).2.1 (pFour st).2.2 ∧ w.grownBy w' (some rb) := by
  have up : ∀ (s : St) (_ : IsBytes s.1) u y1 y2 y3 y4, Rst w rb s y1 y2 y3 y4 u → Calls Try.prog 51 #[.pointer (some ⟨rb, 0, none⟩), .int .i64 1099511627776] u fun e w' => e = .returned (.int .i64 (pUpto 1099511627776 s).1) ∧ Rst w rb (pUpto 1099511627776 s).2 y1 y2 y3 y4 w' := by
    intro s hs u y1 y2 y3 y4 hu
    refine (Codec.pupto_any rb s 1099511627776 u hu.rdr hs).mono ?_
    intro e w' hst
    exact ⟨hst.1, hu.step hst⟩
  exact read_core rb st _ _ _ _ _ _ _ _ w h (up st hy) (up _ (Codec.pUpto_ok _ hy)) (up _ (Codec.pUpto_ok _ (Codec.pUpto_ok _ hy))) (up _ (Codec.pUpto_ok _ (Codec.pUpto_ok _ (Codec.pUpto_ok _ hy))))
end Go.Proofs.Ytlbdkigiphnabaa.Vault
