/-
  The statements' live question about package conf answers true, and of what lay nothing has turned; no condition.
-/
import Derived.Test.YtblmmijjabahiaaConfRate
import Derived.Test.YtblmmijjabahiaaConfWait
namespace Go.Proofs.Ytblmmijjabahiaa.Conf
open Go.RowKit Ring

/-- How the world stands in the live question: two rates, the configuration, its Keys. -/
def Al (w W : World) (ke : Int) : Prop :=
  Below w.heap.size w W ∧ IsRates W (some ⟨w.heap.size, 0, none⟩) [(1, 9), (2, 8)] ∧ W.frozen? ⟨w.heap.size + 1, 6, none⟩ = false ∧
  Nine W (w.heap.size + 1) (.int .i64 3) (.int .i64 2) (.int .i64 10) (.int .i64 20) (.int .i64 99) (.int .i64 5) (.int .i64 ke) (.int .i64 2) (.slice (some ⟨w.heap.size, 0, none⟩) 2 2)
theorem Al.step {w u W : World} {ke : Int} (h : Al w u ke) (hb : Below u.heap.size u W) : Al w W ke := by
  obtain ⟨h1, h2, h3, h4⟩ := h
  refine ⟨h1.trans (hb.mono h1.size), h2.stays hb, ?_, h4.stays hb⟩
  rw [hb.frozen (World.block_lt_of_cell? u _ h4.2.2.2.2.2.2.1)]; exact h3
theorem Al.start (w : World) : Al w ((w.alloc (.cells #[.int .i64 1, .int .i64 9, .int .i64 2, .int .i64 8] 50)).alloc (.cells #[.int .i64 3, .int .i64 2, .int .i64 10, .int .i64 20, .int .i64 99, .int .i64 5, .int .i64 4, .int .i64 2, .slice (some ⟨w.heap.size, 0, none⟩) 2 2] 48)) 4 := by
  have e : (w.alloc (.cells #[.int .i64 1, .int .i64 9, .int .i64 2, .int .i64 8] 50)).heap.size = w.heap.size + 1 := by simp
  refine ⟨(below_new _ _).trans ((below_new _ _).mono (by simp)), ?_, ?_, ?_⟩
  · refine IsRates.stays ?_ (below_new _ _)
    refine .inr ⟨_, _, rfl, fun i hi => ?_⟩
    rw [World.cell?_alloc_new, World.cell?_alloc_new]
    match i, hi with
    | 0, _ => exact ⟨rfl, rfl⟩
    | 1, _ => exact ⟨rfl, rfl⟩
  · rw [← e]; exact World.frozen?_alloc_new _ _ _ _
  · rw [← e]; exact nine_new _ _ _ _ _ _ _ _ _ _ _
theorem Al.set {w W : World} (h : Al w W 4) : Al w (W.setCell ⟨w.heap.size + 1, 6, none⟩ (.int .i64 0)) 0 := by
  obtain ⟨h1, h2, h3, c0, c1, c2, c3, c4, c5, c6, c7, c8⟩ := h
  have hb : Below w.heap.size w (W.setCell ⟨w.heap.size + 1, 6, none⟩ (.int .i64 0)) := h1.setCell (p := ⟨w.heap.size + 1, 6, none⟩) (by simp) _
  have hs : ∀ (q : Addr) (v : Value), W.cell? q = some v → q ≠ ⟨w.heap.size + 1, 6, none⟩ → (W.setCell ⟨w.heap.size + 1, 6, none⟩ (.int .i64 0)).cell? q = some v := by
    intro q v hq hne
    exact (World.cell?_setCell_other _ _ _ _ (Ne.symm hne)).trans hq
  refine ⟨hb, ?_, ?_, hs _ _ c0 (by simp), hs _ _ c1 (by simp), hs _ _ c2 (by simp), hs _ _ c3 (by simp), hs _ _ c4 (by simp), hs _ _ c5 (by simp), ?_, hs _ _ c7 (by simp), hs _ _ c8 (by simp)⟩
  · rcases h2 with h | ⟨b, o, hp, h⟩
    · cases h
    · cases hp
      exact .inr ⟨_, _, rfl, fun i hi => ⟨hs _ _ (h i hi).1 (by simp), hs _ _ (h i hi).2 (by simp)⟩⟩
  · rw [World.frozen?_setCell]; exact h3
  · exact World.cell?_setCell_same _ _ _ c6

theorem key17 (w : World) : Calls Try.prog 50 #[.int .i64 1, .int .i64 7] w fun e w' => e = .returned (.tuple #[.int .i64 65543, .int .i64 0]) ∧ w = w' := by
  have h := key_any 1 7 w; rwa [show key 1 7 = (65543, 0) by decide +kernel] at h
theorem next512 (w : World) : Calls Try.prog 51 #[.int .i64 5, .int .i64 12, .int .i64 1] w fun e w' => e = .returned (.tuple #[.int .i64 16, .int .i64 0]) ∧ w = w' := by
  have h := next_any 5 12 1 w; rwa [show next 5 12 1 = (16, 0) by decide +kernel] at h
theorem owner516 (w : World) : Calls Try.prog 53 #[.int .i64 5, .int .i64 16] w fun e w' => e = .returned (.int .i64 1) ∧ w = w' := by
  have h := owner_any 5 16 w; rwa [show owner 5 16 = 1 by decide +kernel] at h

/-- What stands in the live question, limb by limb. -/
def AlN (w W : World) (ke : Int) : Prop := Al w W ke ∧ w.heap.size + 1 < W.heap.size ∧ W.frozen? ⟨w.heap.size + 1, 6, none⟩ = false ∧ Nine W (w.heap.size + 1) (.int .i64 3) (.int .i64 2) (.int .i64 10) (.int .i64 20) (.int .i64 99) (.int .i64 5) (.int .i64 ke) (.int .i64 2) (.slice (some ⟨w.heap.size, 0, none⟩) 2 2)
theorem Al.n {w W : World} {ke : Int} (h : Al w W ke) : AlN w W ke := ⟨h, World.block_lt_of_cell? W _ h.2.2.2.1, h.2.2.1, h.2.2.2⟩

theorem rate_al (w u : World) (h : Al w u 4) : Calls Try.prog 40 #[.agg #[.int .i64 3, .int .i64 2, .int .i64 10, .int .i64 20, .int .i64 99, .int .i64 5, .int .i64 4, .int .i64 2, .slice (some ⟨w.heap.size, 0, none⟩) 2 2], .int .i64 65543] u fun e W => e = .returned (.tuple #[.agg #[.int .i64 2, .int .i64 8], .bool true]) ∧ AlN w W 4 := by
  rcases h.2.1 with h0 | ⟨b, o, hp, hc⟩
  · cases h0
  cases hp
  exact (rate_some 3 2 10 20 99 5 4 2 w.heap.size 0 2 2 1 65543 2 8 u (by decide) (by decide) (by decide) (by decide) (by decide) (hc 1 (by decide)).1 (hc 1 (by decide)).2).mono fun e W k => ⟨k.1, (h.step k.2).n⟩
theorem check_al (w u : World) (h : Al w u 0) : Calls Try.prog 42 #[.agg #[.int .i64 3, .int .i64 2, .int .i64 10, .int .i64 20, .int .i64 99, .int .i64 5, .int .i64 0, .int .i64 2, .slice (some ⟨w.heap.size, 0, none⟩) 2 2]] u fun e W => e = .returned (.int .i64 23) ∧ AlN w W 0 := by
  have k := check_any 3 2 10 20 99 5 0 2 _ [(1, 9), (2, 8)] 2 u (by decide) h.2.1
  rw [show check 3 2 10 20 99 5 0 2 [(1, 9), (2, 8)] = 23 by decide +kernel] at k
  exact k.mono fun e W k => ⟨k.1, (h.step k.2).n⟩
theorem wait_al (w u : World) (h : Al w u 0) : Calls Try.prog 44 #[.agg #[.int .i64 3, .int .i64 2, .int .i64 10, .int .i64 20, .int .i64 99, .int .i64 5, .int .i64 0, .int .i64 2, .slice (some ⟨w.heap.size, 0, none⟩) 2 2]] u fun e W => e = .returned (.int .i64 38) ∧ AlN w W 0 := by
  have k := wait_any 3 2 10 20 99 5 0 2 (some ⟨w.heap.size, 0, none⟩) 2 2 u
  rw [show Sat.add [20, 10, Sat.mul 4 2] = 38 by decide +kernel] at k
  exact k.mono fun e W k => ⟨k.1, (h.step k.2).n⟩

set_option maxRecDepth 100000 in
set_option maxHeartbeats 1000000 in
theorem alive_any (w : World) :
    Calls Try.prog 39 #[] w fun e w' => e = .returned (.bool true) ∧ Below w.heap.size w w' := by
  go_enter Try.func39, Try.ntmps39
  go_wp2_with (first
    | (go_at_call 50; (with_reducible refine (key17 _).mono ?_); rintro e w' ⟨rfl, rfl⟩)
    | (go_at_call 40; (with_reducible refine (rate_al _ _ (Al.start _)).mono ?_); rintro e w1 ⟨rfl, hP, hlt, hf, c0, c1, c2, c3, c4, c5, c6, c7, c8⟩)
    | (go_at_call 51; (with_reducible refine (next512 _).mono ?_); rintro e w' ⟨rfl, rfl⟩)
    | (go_at_call 42; (with_reducible refine (check_al _ _ (hP.set.step (below_new _ _))).mono ?_); clear hP hlt hf c0 c1 c2 c3 c4 c5 c6 c7 c8; rintro e w1 ⟨rfl, hP, hlt, hf, c0, c1, c2, c3, c4, c5, c6, c7, c8⟩)
    | (go_at_call 44; (with_reducible refine (wait_al _ _ hP).mono ?_); clear hP hlt hf c0 c1 c2 c3 c4 c5 c6 c7 c8; rintro e w1 ⟨rfl, hP, hlt, hf, c0, c1, c2, c3, c4, c5, c6, c7, c8⟩)
    | (go_at_call 53; (with_reducible refine (owner516 _).mono ?_); rintro e w' ⟨rfl, rfl⟩))
  go_ret
  exact ⟨rfl, hP.1⟩
end Go.Proofs.Ytblmmijjabahiaa.Conf
