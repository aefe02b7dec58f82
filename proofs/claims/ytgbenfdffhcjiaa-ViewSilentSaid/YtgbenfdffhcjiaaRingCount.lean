/-
  bits.OnesCount64, and Count of a set, return how many bits are set, and leave the world as it was; any number from 0 to 2^64 less 1.
-/
import Derived.Test.YtgbenfdffhcjiaaRingWalks
import Derived.Test.YtgbenfdffhcjiaaRingOnes
namespace Go.Proofs.Ytgbenfdffhcjiaa.Ring
open Go.RowKit


end Go.Proofs.Ytgbenfdffhcjiaa.Ring
