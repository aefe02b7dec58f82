/-
  The program's size, Heard, Hear, New, Live and Next, and each of a view that is none. Of up to 64 nodes.
-/
import Derived.Test.YtgbenfdffhcjiaaVwMem
import Derived.Test.YtgbenfdffhcjiaaClkProg
import Derived.Test.YtgbenfdffhcjiaaRingNext
import Derived.Deep.QuietTactic
import Derived.BigQuiet
import Derived.Deep.OwnRows
import Derived.Lib.MinMax
import Derived.StillTailTactics
import Derived.WalkSpells
namespace Go.Proofs.Ytgbenfdffhcjiaa.View
open Go.RowKit
open _root_.Go.Proofs.Ytgbenfdffhcjiaa.Codec (lt_of_heap frozen_of heap_set below_new)
open _root_.Go.Proofs.Ytgbenfdffhcjiaa.Kit (Enc Lies Own At Kept Laid Off cell_on lt_heap take_snoc below_drewN ints)
open _root_.Go.Proofs.Ytgbenfdffhcjiaa.Ring (has put all okRing has_all all_lo all_hi)
open _root_.Go.Proofs.Ytgbenfdffhcjiaa.Clock (cpassed)

section
variable {F : Nat → Prop} {w : World} {B q : Nat} {V : Vw}
theorem size_any (h : Pv F B w q V) : Calls Try.prog 19 #[.pointer (some ⟨q, 0, none⟩)] w fun e w' => e = .returned (.int .i64 (V.l.length : Int)) ∧ w = w' := by
  obtain ⟨g, k0, k1, k2, k⟩ := h.cell
  clear h k k0 k1
  go_enter Try.func19, Try.ntmps19
  go_wp2
  go_ret
  exact ⟨rfl, rfl⟩
theorem nsize_any (w : World) : Calls Try.prog 19 #[.pointer none] w fun e w' => e = .returned (.int .i64 0) ∧ w = w' := by
  go_enter Try.func19, Try.ntmps19
  go_wp2
  go_ret
  exact ⟨rfl, rfl⟩
set_option maxRecDepth 100000 in
theorem hear_out (h : Pv F B w q V) (hB : B ≤ w.heap.size) (i x : Int) (ho : ¬ (0 ≤ i ∧ i < (V.l.length : Int))) : Calls Try.prog 8 #[.pointer (some ⟨q, 0, none⟩), .int .i64 i, .int .i64 x] w fun e w' => e = .returned (.tuple #[]) ∧ Moved Pv F B w q V w' := by
  have HM := Lib.hid (Moved.same h hB (Below.refl _ _))
  have HS := Lib.hid (size_any h)
  have HA := Lib.hid (fun u => Ring.all_any (V.l.length : Int) u)
  have HH := Lib.hid (fun u => Ring.has_any (all (V.l.length : Int)) i u (all_lo _) (all_hi _))
  rw [show has (all (V.l.length : Int)) i = false by rw [has_all]; simp; intros; omega] at HH
  clear h ho
  go_enter Try.func8, Try.ntmps8
  go_wp2_with (first
    | (go_at_call 19; (with_reducible refine HS.out.mono ?_); rintro e u1 ⟨rfl, rfl⟩)
    | (go_at_call 17; (with_reducible refine (HA.out _).mono ?_); rintro e u1 ⟨rfl, rfl⟩)
    | (go_at_call 16; (with_reducible refine (HH.out _).mono ?_); rintro e u1 ⟨rfl, rfl⟩))
  refine bodyPost_ret (results_none rfl _ _ _) rfl ?_
  exact ⟨rfl, HM.out⟩
set_option maxRecDepth 100000 in
theorem hear_in (h : Pv F B w q V) (hB : B ≤ w.heap.size) (k : Nat) (x : Int) (hk : k < V.l.length) : Calls Try.prog 8 #[.pointer (some ⟨q, 0, none⟩), .int .i64 (k : Int), .int .i64 x] w fun e w' => e = .returned (.tuple #[]) ∧ Moved Pv F B w q ⟨V.node, V.span, V.l.set k (max (V.l.getD k 0) x)⟩ w' := by
  have HS := Lib.hid (size_any h)
  have HA := Lib.hid (fun u => Ring.all_any (V.l.length : Int) u)
  have HH := Lib.hid (fun u => Ring.has_any (all (V.l.length : Int)) (k : Int) u (all_lo _) (all_hi _))
  rw [show has (all (V.l.length : Int)) (k : Int) = true by rw [has_all, h.2.2.1.2]; simp; omega] at HH
  obtain ⟨g, k0, k1, k2, hr⟩ := h.cell
  have kc := hr.cell hk
  have fc := hr.frozen k
  have HM := Lib.hid (h.put hB k2 (Below.refl _ _) k (max (V.l.getD k 0) x))
  have hlt : (k : Int) < (V.l.length : Int) := by omega
  generalize V.l.getD k 0 = a at *
  clear h hr k0 k1
  go_enter Try.func8, Try.ntmps8
  go_wp2_with (first
    | (go_at_call 19; (with_reducible refine HS.out.mono ?_); rintro e u1 ⟨rfl, rfl⟩)
    | (go_at_call 17; (with_reducible refine (HA.out _).mono ?_); rintro e u1 ⟨rfl, rfl⟩)
    | (go_at_call 16; (with_reducible refine (HH.out _).mono ?_); rintro e u1 ⟨rfl, rfl⟩))
  go_still_tail 15, (by kernel_rfl)
  go_wp2
  go_end0
  exact ⟨rfl, HM.out.draw⟩
theorem phear_any (h : Pv F B w q V) (hB : B ≤ w.heap.size) (i x : Int) : Calls Try.prog 8 #[.pointer (some ⟨q, 0, none⟩), .int .i64 i, .int .i64 x] w fun e w' => e = .returned (.tuple #[]) ∧ Moved Pv F B w q (hear V i x) w' := by
  by_cases ho : 0 ≤ i ∧ i < (V.l.length : Int)
  · obtain ⟨k, rfl⟩ : ∃ k : Nat, i = (k : Int) := ⟨i.toNat, by omega⟩
    have e : hear V (k : Int) x = ⟨V.node, V.span, V.l.set k (max (V.l.getD k 0) x)⟩ := by
      unfold hear
      rw [one_in (by omega)]
    rw [e]
    exact hear_in h hB k x (by omega)
  · have e : hear V i x = V := by
      unfold hear
      rw [one_out ho]
    rw [e]
    exact hear_out h hB i x ho
set_option maxRecDepth 100000 in
theorem pnhear_any (i x : Int) (w : World) : Calls Try.prog 8 #[.pointer none, .int .i64 i, .int .i64 x] w fun e w' => e = .returned (.tuple #[]) ∧ Below w.heap.size w w' := by
  have HS := Lib.hid (nsize_any w)
  have HA := Lib.hid (fun u => Ring.all_any 0 u)
  have HH := Lib.hid (fun u => Ring.has_any (all 0) i u (all_lo _) (all_hi _))
  rw [show has (all 0) i = false by rw [has_all]; simp [okRing]] at HH
  generalize all 0 = z at *
  go_enter Try.func8, Try.ntmps8
  go_wp2_with (first
    | (go_at_call 19; (with_reducible refine HS.out.mono ?_); rintro e u1 ⟨rfl, rfl⟩)
    | (go_at_call 17; (with_reducible refine (HA.out _).mono ?_); rintro e u1 ⟨rfl, rfl⟩)
    | (go_at_call 16; (with_reducible refine (HH.out _).mono ?_); rintro e u1 ⟨rfl, rfl⟩))
  refine bodyPost_ret (results_none rfl _ _ _) rfl ?_
  exact ⟨rfl, Below.refl _ _⟩
theorem eq_nil_ints (w : World) (a : Option Addr) (n c n' c' : Nat) : (binOp .eql 35 (.slice a n c) (.slice none n' c')).run Try.prog w = .ok (.bool a.isNone) w := Lib.run_eql_slice_nil w _ _ a n c n' c' Try.underlying35
/-- slices.Clone of a row. -/
theorem clone_row {g : Nat} {l : List Int} (hr : Row w g l) (hl : l.length ≤ 1000) (c : Nat) :
    Calls Try.prog 20 #[.slice (some ⟨g, 0, none⟩) l.length c] w fun e w' => ∃ p c, e = .returned (.slice p l.length c) ∧ Lies ints w' p l ∧ Below w.heap.size w w' := by
  have hc : ∀ j u, (Kit.cells ints l)[j]? = some u → w.cell? ((⟨g, 0, none⟩ : Addr).add j) = some u := fun j u hu => by
    rw [Codec.add_at, Nat.zero_add]
    obtain ⟨h1, h2⟩ := Kit.cells_get (E := ints) l j u hu
    have hn : ints.n = 1 := rfl
    rw [hn, Nat.div_one] at h1 h2
    rw [hr.cell h1]
    rw [Nat.mod_one] at h2
    exact h2
  obtain ⟨i0, hi, hz0, hz1, hz2⟩ := info_parts (show (Try.prog.info? 3).map (fun i => (i.zero, i.size, i.bytes)) = some (some (.int .i64 0), 1, 8) by kernel_rfl)
  have hb : Below w.heap.size w (w.alloc (.cells #[] 3)) := (Below.refl _ _).alloc (Nat.le_refl _) _
  have HC := Lib.hid (show ∀ j u, (Kit.cells ints l)[j]? = some u → (w.alloc (.cells #[] 3)).cell? ((⟨g, 0, none⟩ : Addr).add j) = some u from fun j u h => (hb.cell (World.block_lt_of_cell? _ _ (hc j u h))).trans (hc j u h))
  have H1 := Lib.hid (Kit.cells_one (E := ints) l)
  have HX := Lib.hid (show (Kit.cells ints l).length = l.length * 1 from Kit.cells_len l)
  have HL := Lib.hid (fun v w' (h : Kit.Own ints 3 w.heap.size w' v l) => h.lies)
  generalize hxs : Kit.cells ints l = xs at *
  clear hc
  have hown : (w.alloc (.cells #[] 3)).ownsRow w.heap.size 3 1 (.slice (some ⟨w.heap.size, 0, none⟩) 0 0) 0 [] := World.ownsRow_made w #[] 0 (Nat.le_refl _) (Nat.zero_le _) rfl
  have hq := fun (w : World) a n c n' c' => eq_nil_ints w a n c n' c'
  go_enter Try.func20, Try.ntmps20
  go_wp2_with (at_builtin; refine wpList_append_own _ rfl (.tmp 5) (.tmp 6) 35 rfl w.heap.size 3 i0 (.int .i64 0) 1 8 Try.underlying35 hi hz0 hz1 hz2 rfl (by decide) _ _ _ rfl hown ⟨g, 0, none⟩ l.length c xs rfl HX.out HC.out H1.out (by unfold maxLen; omega) (by omega) (by simp) ?_)
  intro v w1 ho hg _
  have hb1 := hb.grown hg (by simp) (fun k hk => by simp [Value.ownBlock] at hk; omega)
  have HO := Lib.hid (HL.out v w1 (by unfold Kit.Own; rw [hxs]; exact (by simpa using ho : w1.ownsRow w.heap.size 3 1 v l.length xs)))
  clear hg hown HC ho
  go_wp2
  go_ret
  obtain ⟨p, c', rfl, hp⟩ := HO.out
  exact ⟨p, c', rfl, hp, hb1⟩
theorem pheard_any (h : Pv F B w q V) : Calls Try.prog 11 #[.pointer (some ⟨q, 0, none⟩)] w fun e w' => ∃ p c, e = .returned (.slice p V.l.length c) ∧ Lies ints w' p V.l ∧ Below w.heap.size w w' := by
  obtain ⟨g, k0, k1, k2, hr⟩ := h.cell
  have HC := Lib.hid (clone_row hr (by have := h.2.2.1.1; omega) V.l.length)
  clear h hr k0 k1
  go_enter Try.func11, Try.ntmps11
  go_wp2_with (go_at_call 20; (with_reducible refine HC.out.mono ?_); rintro e u1 ⟨p, c, rfl, h1, h2⟩; have H1 := Lib.hid h1; have H2 := Lib.hid h2; clear h1 h2 HC)
  go_ret
  exact ⟨p, c, rfl, H1.out, H2.out⟩
theorem pnheard_any (w : World) : Calls Try.prog 11 #[.pointer none] w fun e w' => ∃ p c, e = .returned (.slice p 0 c) ∧ Below w.heap.size w w' := by
  go_enter Try.func11, Try.ntmps11
  go_wp2
  go_ret
  exact ⟨none, 0, rfl, Below.refl _ _⟩
end
end Go.Proofs.Ytgbenfdffhcjiaa.View
