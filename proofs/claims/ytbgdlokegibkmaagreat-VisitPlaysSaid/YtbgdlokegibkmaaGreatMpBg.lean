/-
  A part of the proof of VisitPlays.
-/
import Derived.Sort.OwnSortedInts
import Derived.Lib.OwnBridge
import Derived.Test.YtbgdlokegibkmaaGreatMpAa
import Derived.Test.YtbgdlokegibkmaaGreatShelf
set_option maxRecDepth 100000
set_option maxHeartbeats 1000000
namespace Go.Proofs.YtbgdlokegibkmaaGreat
open Tryz
open Lib (hid)
namespace Zj
open Go.RowKit Go.Sort
theorem nS (B g cap:Nat)(zs:List Int)(w w0:World)(ax:w.ownsRow B 3 1 (.slice (some ⟨g,0,none⟩) zs.length cap) zs.length (zs.map (Value.int .i64)))(hl:zs.length<=1000)(hb:Below B w0 w)(hB:B<=w.heap.size) :
 Calls prog 148 #[.slice (some ⟨g,0,none⟩) zs.length cap] w fun e w'=>e=.returned (.tuple #[])/\(∀j,j<zs.length->w'.cell? ⟨g,j,none⟩=some (.int .i64 ((o6 zs).getD j 0)))/\Below B w0 w':=by
 have hl2:(o6 zs).length=zs.length:=List.length_mergeSort zs;obtain⟨g',cap',e,hbase,aC,_,_,_,hH⟩:=Lib.holds_of_ownsRow (enc:=Value.int .i64) ax (by simp)
 cases e;rcases ax.2 with ⟨h0,_⟩ | ⟨g',cap',cur,hv,hbase',hblk,h1,h2,h3,h4⟩
 ·cases h0
 cases hv;refine(Tryz.slices_Sort_int g 0 cap zs w hH aC (by omega)).mono ?_
 rintro e w' ⟨rfl,n,os,rfl⟩;refine⟨rfl,?_,hb.grown (grownBy_sortedI _) hB (fun j hj=>by cases hj;exact hbase)⟩
 have hs:=ownsRow_sortedI (n:=n) (os:=os) (ts:=o6 zs) hl2 hbase hblk h1 h2 h3;rw[<-hl2] at hs;obtain⟨g2,ab5,e2,_,_,_,_,_,XF⟩:=Lib.holds_of_ownsRow (enc:=Value.int .i64) hs (by simp)
 cases e2;intro j hj;have k:=(XF j (by simpa[hl2] using hj)).1
 rw[Nat.zero_add] at k;have hj2:j<(o6 zs).length:=by rw[hl2];exact hj
 rw[show grow (putRow (Value.int .i64) (Sort.ahead w n) g 0 (zs.mergeSort fun x y=>decide (x<=y)).toArray) os=grow (putRow (Value.int .i64) (Sort.ahead w n) g 0 (o6 zs).toArray) os from rfl,k]
 simp[getElem!_pos,hj2]
theorem IY (p:Option Addr)(n c:Nat)(m:Int)(w:World)(h:¬(1<=m/\m<=(n:Int))) :
 Calls prog 145 #[.slice p n c,.int .i64 m] w fun e w'=>e=.returned (.tuple #[.int .i64 0,.bool false])/\w=w':=by
 by_cases h1:m<1
 ·go_enter func145,ntmps145
  go_wp2;go_ret2
  exact⟨rfl,rfl⟩
 ·have h2:(n:Int)<m:=by omega
  clear h;go_enter func145,ntmps145
  go_wp2;go_ret2
  exact⟨rfl,rfl⟩
theorem OI (b off c:Nat)(zs:List Int)(m:Int)(w:World)(hl:zs.length<=1000)(h1:1<=m)(h2:m<=(zs.length:Int))
 (hc:∀j,j<zs.length->w.cell? ⟨b,off+j,none⟩=some (.int .i64 (zs.getD j 0))) :
 Calls prog 145 #[.slice (some ⟨b,off,none⟩) zs.length c,.int .i64 m] w fun e w'=>e=.returned (.tuple #[.int .i64 (ni zs m),.bool true])/\Below w.heap.size w w':=by
 have GH:=Tryz.slices_Clone_int b off zs.length c zs w (Nat.le_refl _) (by omega) hc
 have HC:=hid hc;clear hc;rw[List.take_length] at GH;have hn:ni zs m=(o6 zs).getD (zs.length-m.toNat) 0:=by unfold ni;rw[if_pos ⟨h1,h2⟩]
 have HN:=hid hn;clear hn;go_enter func145,ntmps145
 go_wp2_with (first
  |(go_at_call 97;refine GH.mono ?_;rintro e w1 ⟨v1,rfl,o8,XG,hb1⟩
    obtain⟨g,cap,rfl,_,_,_,_,_,_⟩:=Lib.holds_of_ownsRow (enc:=Value.int .i64) o8 XG;have nU:=nS w.heap.size g cap zs w1 w o8 hl hb1 hb1.size;clear o8 XG GH)
  |(go_at_call 148;refine nU.mono ?_;rintro e w2 ⟨rfl,hcell,hb2⟩
    have Sv:=hcell ((zs.length:Int)-m).toNat (by omega)
    clear hcell nU))
 go_ret2
 refine⟨?_,hb2⟩;have e:((zs.length:Int)-m).toNat=zs.length-m.toNat:=by omega
 rw[HN.out,<-e];simp[List.getD]
end Zj
end Go.Proofs.YtbgdlokegibkmaaGreat
