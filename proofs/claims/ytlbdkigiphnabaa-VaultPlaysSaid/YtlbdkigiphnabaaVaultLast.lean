/-
  The document's Last, of any vault: its last state, all 0 if there is none; of what lay when the call began nothing has turned.
-/
import Derived.Test.YtlbdkigiphnabaaVaultAsk
import Derived.Test.YtlbdkigiphnabaaVaultWords
import Derived.BigRegion
namespace Go.Proofs.Ytlbdkigiphnabaa.Vault
open Go.RowKit

section
variable {B v m : Nat} {l : List Sv} {w : World}
set_option maxRecDepth 100000 in
theorem rlast_any (h : Vlt 52 47 B w v m l) (hl : (l.length : Int) ≤ 100000000) :
    Calls Try.prog 31 #[.pointer (some ⟨v, 0, none⟩)] w fun e w' => e = .returned (val (last l)) ∧ Below w.heap.size w w' := by
  obtain ⟨p, c, -, c1, -, -, hp, -, -⟩ := h.cells
  have hlt := h.lt
  have hb : ∀ cs, Below w.heap.size w (w.alloc (.cells cs 47)) := fun cs => (Below.refl _ _).alloc (Nat.le_refl _) _
  have HB := Lib.hid hb
  by_cases h0 : l = []
  · subst h0
    clear h hp hb
    go_enter Try.func31, Try.ntmps31
    go_wp2
    refine bodyPost_ret (v := .agg #[.int .i64 0, .int .i64 0, .int .i64 0, .int .i64 0]) (by simp [results, Try.results31, go_sem]) rfl ⟨rfl, HB.out _⟩
  · have hn : 0 < l.length := List.length_pos_iff.2 h0
    obtain ⟨g, rfl, k0, k1, k2, k3⟩ := h.last_cells c1 hn
    have hk : l.length = (l.length - 1) + 1 := by omega
    have hg : g < w.heap.size := World.block_lt_of_cell? _ _ k0
    generalize l.length - 1 = n at *
    rw [hk] at c1
    have hn1 : (n : Int) ≤ 100000000 := by omega
    generalize last l = s at *
    obtain ⟨s0, s1, s2, s3⟩ := s
    simp only at k0 k1 k2 k3
    clear h hp hb hk hl h0 hn
    go_enter Try.func31, Try.ntmps31
    go_wp2
    go_region
    go_wp2
    refine bodyPost_ret (v := .agg #[.int .i64 s0, .int .i64 s1, .int .i64 s2, .int .i64 s3]) (by simp [results, Try.results31, go_sem]) rfl ⟨rfl, (HB.out _).drew⟩
end
end Go.Proofs.Ytlbdkigiphnabaa.Vault
