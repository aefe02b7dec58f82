/-
  What a step of both disks leaves. Any program's words; no conditions.
-/
import Derived.Test.YtklljhmedbbkkaaDiskRef
import Derived.Deep.RegionHeld3
namespace Go.Proofs.Ytklljhmedbbkkaa.Disk
open Go.RowKit Codec

section

/-- What a step of both leaves. -/
def Both (B : Nat) (w : World) (d m : Nat) (room : Int) (s : Sl) (w' : World) : Prop :=
  (∃ x', Pair 44 37 5 B w' d m room s s x') ∧ Below B w w'

theorem text_any {u : World} {v : Value} {xs : List Int} {base : Nat} (h : u.ownsRow base 5 1 v xs.length (cells8 xs)) : (convert 33 9 v).run Try.prog u = .ok (.string (strOfNums xs)) u :=
  own_text (P := Try.prog) Try.underlying33 Try.underlying5 Try.underlying9 h

end
end Go.Proofs.Ytklljhmedbbkkaa.Disk
