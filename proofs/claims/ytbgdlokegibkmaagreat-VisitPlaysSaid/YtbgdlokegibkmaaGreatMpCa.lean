/-
  A part of the proof of VisitPlays.
-/
import Derived.Test.YtbgdlokegibkmaaGreatMpBa
import Derived.Test.YtbgdlokegibkmaaGreatMpBz
set_option maxRecDepth 100000
set_option maxHeartbeats 1000000
namespace Go.Proofs.YtbgdlokegibkmaaGreat
open Go.RowKit
open Tryz
open Lib (hid)
namespace Zy
open Zq (ae aj ai)
open Zp (iE aL At bS eu fN af aD aA ag dQ bQ)
open Zw (Lz bC bH)
open Zu (It take)
open Zz (Nt)
section
variable {R:Nat->Prop}{B q qw qq qd:Nat}{w w' u u':World}{y:Value}{c:Cf}{e e' e2:Eg}
theorem Eb (h:In R B w q y qw qq qd c e)(hg:bu c e)(hf:iL e) :
 Calls prog 22 #[.pointer (some ⟨q,0,none⟩)] w fun x w'=>∃p k,x=.returned (.slice p e.L.length k)/\Zw.aL w' p e.L/\Below w.heap.size w w':=by
 have c1:=Zw.iz h.wl hg.l hf.1;have s0:=h.jh.k0;clear h hf hg;go_enter func22,ntmps22
 go_wp2_with (go_at_call 68;(with_reducible refine c1.mono ?_);rintro e1 w1 ⟨p,k,rfl,hl,hb⟩;have HL:=hid hl;have aO:=hid hb;clear hl hb c1)
 go_ret;exact⟨p,k,rfl,HL.out,aO.out⟩
end
end Zy
end Go.Proofs.YtbgdlokegibkmaaGreat
