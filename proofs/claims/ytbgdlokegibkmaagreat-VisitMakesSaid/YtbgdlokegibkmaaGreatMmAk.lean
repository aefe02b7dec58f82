/-
  The document's at and Of, of any queue of up to 1000 items; of what lay when the call began nothing has turned.
  The document's Same, of two lists of items that are one; the law's Of; the document's Sum.
  The document's Keys, of any queue of up to 1000 items.
-/
import Derived.Laws.StructEq
import Derived.Test.YtbgdlokegibkmaaGreatMmAb
namespace Go.Proofs.YtbgdlokegibkmaaGreat.Queue
open Go.RowKit
open _root_.Go.Proofs.YtbgdlokegibkmaaGreat.Codec (lt_of_heap frozen_of heap_set)
open _root_.Go.Proofs.YtbgdlokegibkmaaGreat.Ledger (spot spot_at spot_none)
open _root_.Go.Proofs.YtbgdlokegibkmaaGreat.Kit (Enc Lies Own At Kept Laid cell_on lt_heap take_snoc below_drewN)
theorem filter_yes {f : It → Bool} {l : List It} {j : Nat} (h : j < l.length) (e : f (l.getD j z) = true) : (l.take (j + 1)).filter f = (l.take j).filter f ++ [l.getD j z] := by
  rw [take_snoc z h, List.filter_append]
  simp only [List.filter_cons, e, if_true, List.filter_nil]
theorem filter_no {f : It → Bool} {l : List It} {j : Nat} (h : j < l.length) (e : f (l.getD j z) = false) : (l.take (j + 1)).filter f = (l.take j).filter f := by
  rw [take_snoc z h, List.filter_append]
  simp only [List.filter_cons, e, Bool.false_eq_true, if_false, List.filter_nil, List.append_nil]
end Go.Proofs.YtbgdlokegibkmaaGreat.Queue

namespace Go.Proofs.YtbgdlokegibkmaaGreat.Queue
open Go.RowKit
open _root_.Go.Proofs.YtbgdlokegibkmaaGreat.Codec (lt_of_heap frozen_of heap_set own_below)
open _root_.Go.Proofs.YtbgdlokegibkmaaGreat.Kit (Enc Lies Own At Kept Laid cell_on lt_heap take_snoc below_drewN box5)
theorem sums_at {l : List It} {j : Nat} (h : j < l.length) : sums (l.take (j + 1)) = Sat.add [sums (l.take j), (l.getD j z).cost] := by
  rw [take_snoc z h, sums_snoc]
end Go.Proofs.YtbgdlokegibkmaaGreat.Queue

namespace Go.Proofs.YtbgdlokegibkmaaGreat.Queue
open Go.RowKit
open _root_.Go.Proofs.YtbgdlokegibkmaaGreat.Codec (lt_of_heap frozen_of heap_set)
open _root_.Go.Proofs.YtbgdlokegibkmaaGreat.Kit (Enc Lies Own At Kept Laid cell_on lt_heap take_snoc below_drewN box5 ints)
theorem laidI : Laid Tryz.prog ints 3 25 := ⟨Tryz.underlying25, .int .i64 0, 8, by kernel_rfl, rfl, by decide⟩
theorem at1 {w : World} {b o : Nat} {x : Int} (h : At ints w b o x) : w.cell? ⟨b, o, none⟩ = some (.int .i64 x) := h 0 _ rfl
end Go.Proofs.YtbgdlokegibkmaaGreat.Queue
