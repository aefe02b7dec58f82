/-
  The program's package token does what is asked of it.
-/
import Derived.Test.YtagedggmfihhjaaTkNewer
import Derived.Test.YtagedggmfihhjaaTkUntil
import Derived.Test.YtagedggmfihhjaaTkStamp
import Derived.Test.YtagedggmfihhjaaTkMake
namespace Go.Proofs.Ytagedggmfihhjaa.Token
open Go.RowKit

theorem way10 : Way10 where
  newer := pnewer_any
  at_ := pat_any
  fresh := fun gen n node now w _ _ _ _ => pfresh_any gen n node now w
  stamp := fun t ps cs p c node now w h1 h2 h3 _ _ h4 h5 => pstamp_any t ps cs p c node now w (by omega) (by omega) (fun r hr => by have := h3 r hr; omega) h4 h5
  valid := fun t ps cs p c now span w h1 _ _ h2 => pvalid_any t ps cs p c now span w (by omega) h2
  upto := fun t ps cs p c span w h1 _ h2 => puntil_any t ps cs p c span w (by omega) h2
  pass := fun t ps cs p c w h1 h2 h3 h4 h5 h6 => ppass_any t ps cs p c w (by omega) (by omega) (fun r hr => by have := h3 r hr; omega) h4 h5 h6
end Go.Proofs.Ytagedggmfihhjaa.Token
