/-
  An atomic number's Load and Add, in one goroutine.
-/
import Derived.Test.YtkdjhphakopfeaaChecked
import Derived.Test.YtkdjhphakopfeaaCodecWords
import Derived.Laws.LoneSync
namespace Go.Proofs.Ytkdjhphakopfeaa.Relay
open Go.RowKit

set_option maxRecDepth 100000 in
theorem aload (w : World) (b o : Nat) (n : Int) (h : w.cell? ⟨b, o, none⟩ = some (.int .i64 n)) :
    Calls Try.prog 20 #[.pointer (some ⟨b, o, none⟩)] w fun e w' => e = .returned (.int .i64 n) ∧ w' = w := by
  have hL := run_call_load (P := Try.prog) Try.func32 (by kernel_rfl) (by kernel_rfl) (by kernel_rfl) .i64 (by kernel_rfl) h
  go_enter Try.func20, Try.ntmps20
  go_wp2
  go_ret
  exact ⟨rfl, rfl⟩
set_option maxRecDepth 100000 in
theorem aadd (w : World) (b o : Nat) (n : Int) (h : w.cell? ⟨b, o, none⟩ = some (.int .i64 n)) (hz : w.frozen? ⟨b, o, none⟩ = false) (hn : 0 ≤ n ∧ n ≤ 1000) :
    Calls Try.prog 22 #[.pointer (some ⟨b, o, none⟩), .int .i64 1] w fun e w' => e = .returned (.int .i64 (n + 1)) ∧ w' = w.setCell ⟨b, o, none⟩ (.int .i64 (n + 1)) := by
  have hw : IntKind.i64.wrap (n + 1) = n + 1 := by
    have := hn.1
    have := hn.2
    simp [IntKind.wrap, IntKind.bits, IntKind.signed]
    omega
  have hA := run_call_add (P := Try.prog) Try.func33 (by kernel_rfl) (by kernel_rfl) (by kernel_rfl) .i64 (by kernel_rfl) (y := 1) (s := n + 1) h hz (by simp [go_sem, hw])
  go_enter Try.func22, Try.ntmps22
  go_wp2
  go_ret
  exact ⟨rfl, rfl⟩
end Go.Proofs.Ytkdjhphakopfeaa.Relay
