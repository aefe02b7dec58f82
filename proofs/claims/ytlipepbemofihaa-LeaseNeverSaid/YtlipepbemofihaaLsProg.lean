/-
  The program's wallet does what is asked of it: Way11 of Pm; no condition.
-/
import Derived.Test.YtlipepbemofihaaLsAll
namespace Go.Proofs.Ytlipepbemofihaa.Lease

theorem way11 : Way11 Pm where
  below h hb := h.below hb
  kept h hk _ := h.kept hk
  new := new_any
  put h hB hg hl x hx := pput_any h hB hg hl x hx.1
  spend h hB hg hl _ _ _ hk _ _ := pspend_any h hB hg hl hk
  left h hg _ _ _ hk _ := pleft_any h hg hk
  close h hB hg _ _ _ hk _ := pclose_any h hB hg hk
  drop h hB _ hl g _ := pdrop_any h hB hl g
  all h hg hl := pall_any h hg hl
  nput := nput_any
  nspend := nspend_any
  nleft := nleft_any
  nclose := nclose_any
  ndrop := ndrop_any
  nall := nall_any
end Go.Proofs.Ytlipepbemofihaa.Lease
