/-
  Numbers in order, and the m-th greatest, plain. No program.
-/
import Derived.WalkKit
namespace Go.Proofs.Ytkdjhphakopfeaa.Ring

def srt (zs : List Int) : List Int := zs.mergeSort (fun x y => decide (x ≤ y))
def nth (zs : List Int) (m : Int) : Int := if 1 ≤ m ∧ m ≤ (zs.length : Int) then (srt zs).getD (zs.length - m.toNat) 0 else 0
end Go.Proofs.Ytkdjhphakopfeaa.Ring
