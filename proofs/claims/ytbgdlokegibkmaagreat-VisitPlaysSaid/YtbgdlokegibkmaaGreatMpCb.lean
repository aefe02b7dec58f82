/-
  A part of the proof of VisitPlays.
-/
import Derived.Test.YtbgdlokegibkmaaGreatMpBx
import Derived.Test.YtbgdlokegibkmaaGreatMpCa
namespace Go.Proofs.YtbgdlokegibkmaaGreat
open Go.RowKit
open Tryz
namespace Zn
open Zx (Rw Tb Tk)
open Zq (ae)
open Zy (Cf Eg bD fh eo iK In e0)
open Zw (bC)
theorem US {R:Nat->Prop}{B B':Nat}{w:World}{q qw qq qd:Nat}{y:Value}{c:Cf}{e:Eg}(h:In R B' w q y qw qq qd c e)(hB:B<=B'):In R B w q y qw qq qd c e :=
 ⟨Nat.le_trans hB h.ge,h.mW,Zp.Own.lower h.rt hB,Zy.Oj h.wl hB,Zy.Om h.qu hB,Zy.Ol h.dm hB,h.fZ⟩
theorem L9 {B B':Nat}{w:World}{p:Option Addr}{zs:List (Int×Int)}(h:bD B w p zs)(hB:B<=B'):bD B' w p zs:=by
 rcases h with h | ⟨b,o,e,hl,hc⟩
 ·exact .inl h
 ·exact .inr ⟨b,o,e,Nat.lt_of_lt_of_le hl hB,hc⟩
theorem RI {R:Nat->Prop}{B:Nat}{w w':World}{q qw qq qd:Nat}{y:Value}{c:Cf}{e':Eg}(h0:0<=c.qu/\c.qu<=16)(hq:¬R q)(hD:∀x∈e'.D,bC x.key)(m:Zy.bZ R B w q y qw qq qd c e' w'):gP Pf R B w q c e' w' :=
 ⟨⟨⟨h0,hD,hq⟩,y,qw,qq,qd,m.kr⟩,m.off,m.below,m.bM⟩
theorem Yi:tU Pf where
 fr:=Rc
 new:=fun B c p k w hB hr hl _ h0=>(Zy.IU Zu.zB (L9 hr hB) hl).mono fun _ _ ⟨hb,h⟩=>by
  rcases h with ⟨h1,-⟩ | ⟨-,q,he,hq,y,qw,qq,qd,hi⟩
  ·exact absurd h0 h1
  ·exact ⟨q,he,⟨⟨hq,fun x hx=>by simp[e0] at hx,fun aC=>by have:=hi.ge;omega⟩,y,qw,qq,qd,US hi hB⟩,hb⟩
 Ii:=fun c p k w hr _ h0=>by
  by_cases hl:c.zs.length<=100
  ·refine (Zy.IU Zu.zB hr hl).mono fun _ _ ⟨hb,h⟩=> ?_
   rcases h with ⟨-,he⟩ | ⟨h1,-⟩
   ·exact ⟨he,hb⟩
   ·exact absurd h1 h0
  ·exact Ox (by omega)
 jF:=fun ⟨⟨h0,hD,hq⟩,_,_,_,_,h⟩ hB hg hf r hr now _=>(Zy.Oy Zu.zB h hB hg hf r hr now).mono fun _ _ ⟨v,he,hs,hm⟩=>⟨v,he,hs,RI h0 hq (by rw[(Zy.Io _ _ _ _).2];exact hD) hm⟩
 eI:=fun ⟨⟨h0,hD,hq⟩,y,_,_,_,h⟩ hB _ hf=>(Zy.La Zu.zB h hB hf h0).mono fun _ _ ⟨v,he,hs,⟨qw,qq,qd,hi⟩,ho,hb,hk⟩=>⟨v,he,hs,⟨⟨⟨h0,fun x hx=>by simp[Zy.eI,e0] at hx,hq⟩,y,qw,qq,qd,hi⟩,ho,hb,fun g hR _ hl=>hk g (fun e=>hq (e ▸ hR)) hl⟩⟩
 waiting:=fun ⟨_,_,_,_,_,h⟩ _ hf=>Zy.AO h hf
 dS:=fun ⟨_,_,_,_,_,h⟩ hg hf=>Zy.Eb h hg hf
 visit:=fun node now t m ps cs p d pf cf hp hB gL hm hR _ hn _ hz C5 hr=>Pn Zu.zB node now t m ps cs p d pf cf hp hB gL hm hR hn hz C5 hr
 uN:=fun node now t q ps cs p d c pf cf w hq hf _ hz hst hl hr=>Rm node now t q ps cs p d c pf cf w hq hf hz hst hl hr
end Zn
end Go.Proofs.YtbgdlokegibkmaaGreat
