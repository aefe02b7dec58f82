/-
  The program's New, empty, Sent (package relay), and what a relay that is none answers to each call.
-/
import Derived.Test.YtkdjhphakopfeaaRlCopied
import Derived.Test.YtkdjhphakopfeaaTkNewer
import Derived.Test.YtkdjhphakopfeaaFrmRight
import Derived.Deep.RegionHeld3
import Derived.Deep.QuietTactic
import Derived.BigQuiet
namespace Go.Proofs.Ytkdjhphakopfeaa.Relay
open Go.RowKit
open _root_.Go.Proofs.Ytkdjhphakopfeaa.Codec (lt_of_heap frozen_of heap_set grown_set below_new Ints)
open _root_.Go.Proofs.Ytkdjhphakopfeaa.Frame (Fr Tk Tb Rw noRow frameOk Lying frameVal fitsTk OwnS RowsS Kp Asked pright_any)
open _root_.Go.Proofs.Ytkdjhphakopfeaa.Kit (Kept Off cell_on)

set_option maxRecDepth 100000 in
theorem pnew_any (w : World) : Calls Try.prog 7 #[] w fun e w' => ∃ q, e = .returned (.pointer (some ⟨q, 0, none⟩)) ∧ Pr (fun g => g < w.heap.size) w.heap.size w' q r0 ∧ Below w.heap.size w w' := by
  have HB := Lib.hid (fun o => lay w o)
  have HZ := Lib.hid (fun o => heap_alloc_new w o)
  go_enter Try.func7, Try.ntmps7
  go_wp2
  go_ret
  exact ⟨_, rfl, ⟨Nat.le_refl _, Nat.lt_irrefl _, none, HZ.out _, rfl⟩, HB.out _⟩
section
variable {F : Nat → Prop} {w : World} {B q : Nat} {r : Rl}
set_option maxRecDepth 100000 in
theorem pempty_any (h : Pr F B w q r) : Calls Try.prog 21 #[.pointer (some ⟨q, 0, none⟩)] w fun e w' => e = .returned (.bool (!isHeld r)) ∧ w' = w := by
  obtain ⟨y, hy, k0, -⟩ := h.cell
  rw [← hy]
  clear hy h
  cases y with
  | none =>
    go_enter Try.func21, Try.ntmps21
    go_wp2
    go_ret
    exact ⟨rfl, rfl⟩
  | some a =>
    go_enter Try.func21, Try.ntmps21
    go_wp2
    go_ret
    exact ⟨rfl, rfl⟩
set_option maxRecDepth 100000 in
theorem pempty_none (w : World) : Calls Try.prog 21 #[.pointer none] w fun e w' => e = .returned (.bool true) ∧ w' = w := by
  go_enter Try.func21, Try.ntmps21
  go_wp2
  go_ret
  exact ⟨rfl, rfl⟩
set_option maxRecDepth 100000 in
theorem psent_any (h : Pr F B w q r) : Calls Try.prog 9 #[.pointer (some ⟨q, 0, none⟩)] w fun e w' => e = .returned (.int .i64 (r.sent : Int)) ∧ Below w.heap.size w w' := by
  obtain ⟨y, hy, k0, k1, -⟩ := h.cell
  have hl := fun (u : World) (hu : u.cell? ⟨q, 1, none⟩ = some (.int .i64 (r.sent : Int))) => aload u q 1 (r.sent : Int) hu
  generalize (r.sent : Int) = n at *
  clear hy h k0
  go_enter Try.func9, Try.ntmps9
  go_wp2_with (go_at_call 20; (with_reducible refine (hl _ k1).mono ?_); rintro e u1 ⟨rfl, rfl⟩)
  go_ret
  exact ⟨rfl, Below.refl _ _⟩
end
set_option maxRecDepth 100000 in
theorem pnsent_any (w : World) : Calls Try.prog 9 #[.pointer none] w fun e w' => e = .returned (.int .i64 0) ∧ Below w.heap.size w w' := by
  go_enter Try.func9, Try.ntmps9
  go_wp2
  go_ret
  exact ⟨rfl, Below.refl _ _⟩
set_option maxRecDepth 100000 in
theorem pnheld_any (w : World) : Calls Try.prog 10 #[.pointer none] w fun e w' => ∃ f ps p cs c, e = .returned (.tuple #[frameVal f ps p cs c, .bool false]) ∧ Below w.heap.size w w' := by
  have he := pempty_none
  go_enter Try.func10, Try.ntmps10
  have hb := lay w (.cells (cells11 noFr none none 0 0) 41)
  have HZ := heap_alloc_new w (.cells (cells11 noFr none none 0 0) 41)
  simp only [cells11, noFr, List.length_nil] at hb HZ
  go_wp2_with (go_at_call 21; (with_reducible refine (he _).mono ?_); rintro e u1 ⟨rfl, rfl⟩)
  obtain ⟨b0, b1, b2, b3, b4, b5, b6, b7, b8, b9, b10⟩ := box11 (f := noFr) HZ
  simp only [noFr, List.length_nil] at b0 b1 b2 b3 b4 b5 b6 b7 b8 b9 b10
  refine bodyPost_ret (v := .tuple #[frameVal noFr none none 0 0, .bool false]) (by simp [results, Try.results10, go_sem, frameVal, noFr, b0, b1, b2, b3, b4, b5, b6, b7, b8, b9, b10]) rfl ⟨noFr, none, none, 0, 0, rfl, hb⟩
set_option maxRecDepth 100000 in
theorem pnack_any (w : World) : Calls Try.prog 12 #[.pointer none, frameVal noFr none none 0 0] w fun e w' => e = .returned (.bool false) ∧ Below w.heap.size w w' := by
  have he := pempty_none
  have hb := lay w (.cells (cells11 noFr none none 0 0) 41)
  simp only [frameVal, noFr, cells11] at *
  go_enter Try.func12, Try.ntmps12
  go_wp2
  generalize w.alloc _ = W at *
  go_quiet ((go_at_call 21; exact Calls.quiet_of_same (he _)))
  go_wp2
  go_ret
  exact ⟨rfl, hb.trans ⟨rfl, rfl, rfl, Nat.le_refl _, fun _ _ => rfl⟩⟩
set_option maxRecDepth 100000 in
theorem pndrop_any (g h : Int) (w : World) : Calls Try.prog 13 #[.pointer none, .agg #[.int .i64 g, .int .i64 h]] w fun e w' => e = .returned (.bool false) ∧ Below w.heap.size w w' := by
  have he := pempty_none
  go_enter Try.func13, Try.ntmps13
  have hb := lay w (.cells #[.int .i64 g, .int .i64 h] 52)
  go_wp2
  generalize w.alloc _ = W at *
  go_quiet ((go_at_call 21; exact Calls.quiet_of_same (he _)))
  go_wp2
  go_ret
  exact ⟨rfl, hb.trans ⟨rfl, rfl, rfl, Nat.le_refl _, fun _ _ => rfl⟩⟩
set_option maxRecDepth 100000 in
theorem pnhold_any (w : World) : Calls Try.prog 11 #[.pointer none, frameVal noFr none none 0 0] w fun e w' => e = .returned (.int .i64 1) ∧ Below w.heap.size w w' := by
  simp only [frameVal, noFr] at *
  go_enter Try.func11, Try.ntmps11
  have hb := lay w (.cells (cells11 noFr none none 0 0) 41)
  simp only [cells11, noFr, List.length_nil] at hb
  go_wp2
  go_ret
  exact ⟨rfl, hb⟩
end Go.Proofs.Ytkdjhphakopfeaa.Relay
