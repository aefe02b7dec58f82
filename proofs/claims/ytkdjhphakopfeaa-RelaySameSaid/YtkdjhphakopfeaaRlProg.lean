/-
  All that is asked of the program's relay (Way15) holds of it: its block and the frame that it holds, of lists of its own.
-/
import Derived.Test.YtkdjhphakopfeaaRlHold
import Derived.Test.YtkdjhphakopfeaaRlAck
namespace Go.Proofs.Ytkdjhphakopfeaa.Relay
open Go.RowKit
theorem way15 : Way15 Pr where
  below := fun h hb => h.below hb
  kept := fun h hk _ _ => h.turned hk h.2.1
  grow := fun h hb => h.grow hb
  new := pnew_any
  hold := fun h hB f ps p cs c hk hf hl => phold_any h hB f ps p cs c hk hf hl.now
  held := fun h hB hn => pheld_any h hB hn
  ack := fun h hB f ps p cs c hk _ hl => pack_any h hB f ps p cs c hk hl
  drop := fun h hB g p _ _ => pdrop_any h hB g p
  sent := fun h _ => psent_any h
  nhold := pnhold_any
  nheld := pnheld_any
  nack := pnack_any
  ndrop := pndrop_any
  nsent := pnsent_any
end Go.Proofs.Ytkdjhphakopfeaa.Relay
