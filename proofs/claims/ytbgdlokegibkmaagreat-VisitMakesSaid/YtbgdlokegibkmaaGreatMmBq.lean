/-
  The program's Leases, of any edge that is kept well; its calls on no edge.
-/
import Derived.Test.YtbgdlokegibkmaaGreatMmAn
import Derived.Test.YtbgdlokegibkmaaGreatMmBp
namespace Go.Proofs.YtbgdlokegibkmaaGreat.Edge
open Go.RowKit
open _root_.Go.Proofs.YtbgdlokegibkmaaGreat.Codec (lt_of_heap frozen_of heap_set)
open _root_.Go.Proofs.YtbgdlokegibkmaaGreat.Kit (Enc Lies At Kept Laid Off cell_on lt_heap take_snoc below_drewN own_keep box5)
open _root_.Go.Proofs.YtbgdlokegibkmaaGreat.Lease (Lz Num spend)
open _root_.Go.Proofs.YtbgdlokegibkmaaGreat.Queue (It take)
open _root_.Go.Proofs.YtbgdlokegibkmaaGreat.Demand (Nt)
section
variable {R : Nat → Prop} {B q qw qq qd : Nat} {w w' u u' : World} {y : Value} {c : Cf} {e e' e2 : Eg}
set_option maxRecDepth 100000 in
set_option maxHeartbeats 1000000 in
theorem pleases_any (h : In R B w q y qw qq qd c e) (hg : Good c e) (hf : Lens e) :
    Calls Tryz.prog 22 #[.pointer (some ⟨q, 0, none⟩)] w fun x w' => ∃ p k, x = .returned (.slice p e.L.length k) ∧ Lease.Lies w' p e.L ∧ Below w.heap.size w w' := by
  have c1 := Lease.pall_any h.wl hg.l hf.1
  have s0 := h.sees.k0
  clear h hf hg
  go_enter Tryz.func22, Tryz.ntmps22
  go_wp2_with (go_at_call 68; (with_reducible refine c1.mono ?_); rintro e1 w1 ⟨p, k, rfl, hl, hb⟩; have HL := Lib.hid hl; have HB1 := Lib.hid hb; clear hl hb c1)
  go_ret
  exact ⟨p, k, rfl, HL.out, HB1.out⟩
end
end Go.Proofs.YtbgdlokegibkmaaGreat.Edge
