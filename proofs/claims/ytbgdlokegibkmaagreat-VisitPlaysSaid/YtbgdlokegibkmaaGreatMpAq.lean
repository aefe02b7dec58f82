/-
  A part of the proof of VisitPlays.
-/
import Derived.Deep.DeepCutAuto
import Derived.Test.YtbgdlokegibkmaaGreatMpAg
set_option maxRecDepth 100000
set_option maxHeartbeats 4000000
namespace Go.Proofs.YtbgdlokegibkmaaGreat
open Go.RowKit
open Tryz
open Lib (hid)
namespace Zo
open Zx (Rw Tb Tk aq ak dK ar af cG bn)
open Zq (cX ae aj ai)
open Zj (ni kt)
open Zr (add dh)
theorem Kk {B:Nat}{u:World}{p:Option Addr}{n c:Nat}{l:List Int}(h:fj B u (.slice p n c) l):∀a,p=some a->B<=a.block:=by
 rintro a rfl;exact(World.ownsRow.lt h a.block rfl).1
structure PE (w:World)(t:Tk)(ps:Option Addr)(cs:Nat)(p:Option Addr)(c:Nat)(v:Value)(L:List Int)(u:World):Prop where
 ic:fj w.heap.size u v L
 box:u.heap[w.heap.size]? =some (.cells #[.int .i64 t.gen,.int .i64 t.bP,.slice ps t.stamps.length cs,.int .i64 t.table.start,.slice p t.table.rows.length c] 30 (0,0))
 gG:u.heap[w.heap.size+1]? =some (.cells #[.int .i64 0,.int .i64 0,.slice none 0 0,.int .i64 0,.slice none 0 0] 30 (0,0))
 below:Below w.heap.size w u
theorem PE.on {w u u':World}{t:Tk}{ps p:Option Addr}{cs c:Nat}{v:Value}{L:List Int}(h:PE w t ps cs p c v L u)(hb:Below u.heap.size u u'):PE w t ps cs p c v L u' :=
 ⟨Zq.aI h.ic hb,(hb.block _ (ae h.box)).trans h.box,(hb.block _ (ae h.gG)).trans h.gG,h.below.trans (hb.mono h.below.size)⟩
theorem PE.push {w u w':World}{t:Tk}{ps p:Option Addr}{cs c:Nat}{v v':Value}{L L':List Int}(h:PE w t ps cs p c v L u)(ho:fj w.heap.size w' v' L')(hg:u.grownBy w' v.ownBlock):PE w t ps cs p c v' L' w':=by
 have hne:∀{b:Nat} {vs:Array Value},u.heap[b]? =some (.cells vs 30 (0,0))->some b≠v.ownBlock:=fun hb e=>by
  obtain⟨cur,hc⟩:=vI h.ic e.symm;rw[hb] at hc;simp at hc
 exact⟨ho,(hg.block _ (ae h.box) (hne h.box)).trans h.box,(hg.block _ (ae h.gG) (hne h.gG)).trans h.gG,h.below.grown hg h.below.size (fun k hk=>(World.ownsRow.lt h.ic k hk).1)⟩
theorem PE.done {w u:World}{t:Tk}{ps p:Option Addr}{cs c:Nat}{v:Value}{L:List Int}(h:PE w t ps cs p c v L u)(y v0 v1 v2 v3 v4:Value) :
 fj w.heap.size ((((((u.setCell ⟨w.heap.size,2,none⟩ y).setCell ⟨w.heap.size+1,0,none⟩ v0).setCell ⟨w.heap.size+1,1,none⟩ v1).setCell ⟨w.heap.size+1,2,none⟩ v2).setCell ⟨w.heap.size+1,3,none⟩ v3).setCell ⟨w.heap.size+1,4,none⟩ v4) v L /\
 Below w.heap.size w ((((((u.setCell ⟨w.heap.size,2,none⟩ y).setCell ⟨w.heap.size+1,0,none⟩ v0).setCell ⟨w.heap.size+1,1,none⟩ v1).setCell ⟨w.heap.size+1,2,none⟩ v2).setCell ⟨w.heap.size+1,3,none⟩ v3).setCell ⟨w.heap.size+1,4,none⟩ v4):=by
 refine⟨dQ h.ic fun b hb=> ?_,(((((h.below.setCell (p:=⟨w.heap.size,2,none⟩) (Nat.le_refl _) y).setCell (p:=⟨w.heap.size+1,0,none⟩) (Nat.le_succ _) v0).setCell (p:=⟨w.heap.size+1,1,none⟩) (Nat.le_succ _) v1).setCell (p:=⟨w.heap.size+1,2,none⟩) (Nat.le_succ _) v2).setCell (p:=⟨w.heap.size+1,3,none⟩) (Nat.le_succ _) v3).setCell (p:=⟨w.heap.size+1,4,none⟩) (Nat.le_succ _) v4⟩
 obtain⟨cur,hc⟩:=vI h.ic hb;have n1:b≠w.heap.size:=by
  rintro rfl;rw[h.box] at hc;simp at hc
 have n2:b≠w.heap.size+1:=by
  rintro rfl;rw[h.gG] at hc;simp at hc
 exact(Below.heap_setCell _ _ _ _ n2).trans ((Below.heap_setCell _ _ _ _ n2).trans ((Below.heap_setCell _ _ _ _ n2).trans ((Below.heap_setCell _ _ _ _ n2).trans ((Below.heap_setCell _ _ _ _ n2).trans (Below.heap_setCell _ _ _ _ n1)))))
theorem Vb (t:Tk)(ps:Option Addr)(cs:Nat)(p:Option Addr)(c:Nat)(node now:Int)(w:World)(h:node<0∨(t.stamps.length:Int)<=node∨now<0∨4611686018427387903<now) :
 Calls prog 59 #[aS t ps cs p c,.int .i64 node,.int .i64 now] w fun e w'=>e=.returned (.tuple #[aS t ps cs p c,.int .i64 1])/\Below w.heap.size w w':=by
 unfold aS;have M0:=hid (((Mem.start w).box #[.int .i64 t.gen,.int .i64 t.bP,.slice ps t.stamps.length cs,.int .i64 t.table.start,.slice p t.table.rows.length c] 30).box #[.int .i64 0,.int .i64 0,.slice none 0 0,.int .i64 0,.slice none 0 0] 30);simp only[size_alloc] at M0;obtain⟨x0,x1,x2,x3,x4,-⟩:=bz (M0.out.boxes 1 _ _ _ rfl);obtain⟨y0,y1,y2,y3,y4,gg⟩:=bz (M0.out.boxes 0 _ _ _ rfl);have b9:node<0∨¬node<0/\((t.stamps.length:Int)<=node∨¬(t.stamps.length:Int)<=node/\(now<0∨¬now<0/\4611686018427387903<now)):=by omega
 clear h;have HB:=hid (fun v0 v1 v2 v3 v4=>show Below w.heap.size w (((((((w.alloc (.cells #[.int .i64 t.gen,.int .i64 t.bP,.slice ps t.stamps.length cs,.int .i64 t.table.start,.slice p t.table.rows.length c] 30)).alloc (.cells #[.int .i64 0,.int .i64 0,.slice none 0 0,.int .i64 0,.slice none 0 0] 30)).setCell ⟨w.heap.size+1,0,none⟩ v0).setCell ⟨w.heap.size+1,1,none⟩ v1).setCell ⟨w.heap.size+1,2,none⟩ v2).setCell ⟨w.heap.size+1,3,none⟩ v3).setCell ⟨w.heap.size+1,4,none⟩ v4) from
  ((((M0.out.below.setCell (p:=⟨w.heap.size+1,0,none⟩) (Nat.le_succ _) v0).setCell (p:=⟨w.heap.size+1,1,none⟩) (Nat.le_succ _) v1).setCell (p:=⟨w.heap.size+1,2,none⟩) (Nat.le_succ _) v2).setCell (p:=⟨w.heap.size+1,3,none⟩) (Nat.le_succ _) v3).setCell (p:=⟨w.heap.size+1,4,none⟩) (Nat.le_succ _) v4)
 go_enter func59,ntmps59
 go_upto_region 1 with (fail)
 generalize(w.alloc (.cells #[.int .i64 t.gen,.int .i64 t.bP,.slice ps t.stamps.length cs,.int .i64 t.table.start,.slice p t.table.rows.length c] 30)).alloc (.cells #[.int .i64 0,.int .i64 0,.slice none 0 0,.int .i64 0,.slice none 0 0] 30)=W at *;clear M0;rcases b9 with h1 | ⟨h1,h2 | ⟨h2,h3 | ⟨h3,h4⟩⟩⟩
 all_goals
  go_wp2;refine bodyPost_ret (v:=.tuple #[.agg #[.int .i64 t.gen,.int .i64 t.bP,.slice ps t.stamps.length cs,.int .i64 t.table.start,.slice p t.table.rows.length c],.int .i64 1]) (by simp[results,results59,go_sem,y0,y1,y2,y3,y4]) rfl ⟨rfl,HB.out _ _ _ _ _⟩
theorem Fv (t:Tk)(ps:Option Addr)(cs:Nat)(p:Option Addr)(c:Nat)(k:Nat)(now:Int)(w:World)(hn:t.stamps.length<=1000)(hst:cX w ps t.stamps)(hk:k<t.stamps.length)(h1:0<=now)(h2:now<=4611686018427387903) :
 Calls prog 59 #[aS t ps cs p c,.int .i64 (k:Int),.int .i64 now] w fun e w'=>∃ix cs',e=.returned (.tuple #[aS ⟨t.gen,t.bP,t.stamps.set k now,t.table⟩ ix cs' p c,.int .i64 0])/\(cX w' ix (t.stamps.set k now)/\∀a,ix=some a->w.heap.size<=a.block)/\Below w.heap.size w w':=by
 unfold aS;have F0:=hid (show PE w t ps cs p c (.slice none 0 0) ((t.stamps.set k now).take 0) ((w.alloc (.cells #[.int .i64 t.gen,.int .i64 t.bP,.slice ps t.stamps.length cs,.int .i64 t.table.start,.slice p t.table.rows.length c] 30)).alloc (.cells #[.int .i64 0,.int .i64 0,.slice none 0 0,.int .i64 0,.slice none 0 0] 30)) from by
  have M:=((Mem.start w).box #[.int .i64 t.gen,.int .i64 t.bP,.slice ps t.stamps.length cs,.int .i64 t.table.start,.slice p t.table.rows.length c] 30).box #[.int .i64 0,.int .i64 0,.slice none 0 0,.int .i64 0,.slice none 0 0] 30;simp only[size_alloc] at M;exact⟨World.ownsRow_nil _ _ _ _,M.boxes 1 _ _ _ rfl,M.boxes 0 _ _ _ rfl,M.below⟩)
 obtain⟨x0,x1,x2,x3,x4,-⟩:=bz F0.out.box;have HL:=hid (show(t.stamps.set k now).length=t.stamps.length by simp)
 have HS:=hid (fun(j:Nat) (hj:j<t.stamps.length)=>show (t.stamps.set k now).take (j+1)=(t.stamps.set k now).take j++[if j=k then now else t.stamps.getD j 0] from by
  rw[List.take_succ_eq_append_getElem (by simpa using hj)]
  congr 2
  rw[List.getElem_set];by_cases e:k=j
  ·rw [if_pos e,if_pos e.symm]
  ·rw [if_neg e,if_neg (fun h=>e h.symm)]
   simp[List.getD,hj])
 have HI:=hid hst;have HT:=hid (show(t.stamps.set k now).take t.stamps.length=t.stamps.set k now by rw[List.take_of_length_le (by simp)])
 have h0:¬((k:Int)<0):=by omega
 have h3:¬((t.stamps.length:Int)<=(k:Int)):=by omega
 have h4:¬(now<0):=by omega
 have h5:¬(4611686018427387903<now):=by omega
 generalize t.stamps.set k now=L at *;clear hst;go_enter func59,ntmps59
 go_upto_region 1 with (fail)
 generalize(w.alloc (.cells #[.int .i64 t.gen,.int .i64 t.bP,.slice ps t.stamps.length cs,.int .i64 t.table.start,.slice p t.table.rows.length c] 30)).alloc (.cells #[.int .i64 0,.int .i64 0,.slice none 0 0,.int .i64 0,.slice none 0 0] 30)=W at *;go_wp2;go_loopw [8,9] (fun l i wr=>∃(j:Nat) (q:Option Addr) (d:Nat),j<=t.stamps.length/\i=.int .i64 (j:Int)/\l=.slice q j d/\Hid (PE w t ps cs p c (.slice q j d) (L.take j) wr)) (fun _ i _=>t.stamps.length-(intOf i).toNat)
 case atStart=>exact ⟨0,none,0,by omega,rfl,rfl,F0⟩
 case round =>
  obtain⟨j,q,d,hj,rfl,rfl,hF⟩:=hrel;clear F0 x0 x1 x2 x3 x4;obtain⟨x0,x1,x2,x3,x4,-⟩:=bz hF.out.box;have aT:(L.take j).length=j:=by rw[List.length_take,HL.out];omega
  by_cases aC:j<t.stamps.length
  ·have bE:(j:Int)<(t.stamps.length:Int):=by omega
   have hs:=hid (HS.out j aC);have FA:=hid (fun(x:Int)=>hF.out.on ((Below.refl _ _).alloc (Nat.le_refl _) (.cells #[.int .i64 x] 3)))
   have HQ:Hid (∃b o,ps=some ⟨b,o,none⟩/\wr.cell? ⟨b,o+j,none⟩=some (.int .i64 (t.stamps.getD j 0))):=by
    rcases HI.out with h0 | ⟨b,o,e,hc⟩
    ·rw [h0] at aC;simp at aC
    ·exact hid ⟨b,o,e,af (hc j aC) hF.out.below⟩
   generalize L.take j=M at *;clear HS;by_cases he:j=k
   ·have hs2:=hid (hs.out.trans (by rw[if_pos he]))
    have he':((j:Int)==(k:Int))=true:=by simp[he]
    clear hs he;go_wp2_with (at_builtin;refine vJ rfl (.tmp 38) (.tmp 40) rfl w.heap.size (.slice q j d) rfl M j aT (FA.out (now)).ic (FA.out (now)).below.size _ (now) rfl (heap_alloc_new _ _) (by omega) ?_;intro q1 d1 w4 R4 G4 A4;have F4:=hid ((FA.out (now)).push R4.out G4);clear R4 G4 A4 FA x0 x1 x2 x3 x4)
    go_roundw
    case rel=>exact ⟨j+1,q1,d1,by omega,by go_num,rfl,by rw[hs2.out];exact F4⟩
    case measure=>simp [intOf];omega
   ·have hs2:=hid (hs.out.trans (by rw[if_neg he]))
    have he':((j:Int)==(k:Int))=false:=by simp;omega
    obtain⟨b,o,rfl,hcell⟩:=HQ.out;generalize t.stamps.getD j 0=xx at *;clear hs he;go_wp2_with (at_builtin;refine vJ rfl (.tmp 42) (.tmp 48) rfl w.heap.size (.slice q j d) rfl M j aT (FA.out xx).ic (FA.out xx).below.size _ xx rfl (heap_alloc_new _ _) (by omega) ?_;intro q1 d1 w4 R4 G4 A4;have F4:=hid ((FA.out xx).push R4.out G4);clear R4 G4 A4 FA x0 x1 x2 x3 x4)
    go_roundw
    case rel=>exact ⟨j+1,q1,d1,by omega,by go_num,rfl,by rw[hs2.out];exact F4⟩
    case measure=>simp [intOf];omega
  ·have TS:j=t.stamps.length:=by omega
   have bE:¬(j:Int)<(t.stamps.length:Int):=by omega
   have hq:Hid (cX wr q L):=hid (by
    have:=gJ hF.out.ic;rw[TS,HT.out] at this;exact this)
   have hLl:Hid (L.length=j):=hid (by rw[HL.out,TS])
   obtain⟨y0,y1,y2,y3,y4,gg⟩:=bz hF.out.gG;obtain⟨-,-,-,-,-,ff⟩:=bz hF.out.box;have f2:=ff 2;have g0:=gg 0;have g1:=gg 1;have g2:=gg 2;have g3:=gg 3;have g4:=gg 4;have HD:=hid (hF.out.done (.slice q t.stamps.length d) (.int .i64 t.gen) (.int .i64 t.bP) (.slice q t.stamps.length d) (.int .i64 t.table.start) (.slice p t.table.rows.length c));rw[TS,HT.out] at HD;clear HS ff gg hq;go_wp2;refine bodyPost_ret (v:=.tuple #[.agg #[.int .i64 t.gen,.int .i64 t.bP,.slice q t.stamps.length d,.int .i64 t.table.start,.slice p t.table.rows.length c],.int .i64 0]) (by simp[results,results59,go_sem,y0,y1,y2,y3,y4]) rfl ⟨q,⟨d,by rw[HL.out]⟩,⟨gJ HD.out.1,Kk HD.out.1⟩,HD.out.2⟩
structure Sh (w:World)(t:Tk)(ps:Option Addr)(cs:Nat)(p:Option Addr)(c:Nat)(v:Value)(L:List Int)(u:World):Prop where
 ic:fj w.heap.size u v L
 box:u.heap[w.heap.size]? =some (.cells #[.int .i64 t.gen,.int .i64 t.bP,.slice ps t.stamps.length cs,.int .i64 t.table.start,.slice p t.table.rows.length c] 30 (0,0))
 below:Below w.heap.size w u
theorem Sh.on {w u u':World}{t:Tk}{ps p:Option Addr}{cs c:Nat}{v:Value}{L:List Int}(h:Sh w t ps cs p c v L u)(hb:Below u.heap.size u u'):Sh w t ps cs p c v L u' :=
 ⟨Zq.aI h.ic hb,(hb.block _ (ae h.box)).trans h.box,h.below.trans (hb.mono h.below.size)⟩
theorem Sh.push {w u w':World}{t:Tk}{ps p:Option Addr}{cs c:Nat}{v v':Value}{L L':List Int}(h:Sh w t ps cs p c v L u)(ho:fj w.heap.size w' v' L')(hg:u.grownBy w' v.ownBlock):Sh w t ps cs p c v' L' w':=by
 have hne:some w.heap.size≠v.ownBlock:=fun e=>by
  obtain⟨cur,hc⟩:=vI h.ic e.symm;rw[h.box] at hc;simp at hc
 exact⟨ho,(hg.block _ (ae h.box) hne).trans h.box,h.below.grown hg h.below.size (fun k hk=>(World.ownsRow.lt h.ic k hk).1)⟩
theorem Fw (l:List Int)(j:Nat)(hj:j<l.length):eY (l.take (j+1))=eY (l.take j)++(if 0<=l.getD j 0 then [l.getD j 0] else []):=by
 rw[List.take_succ_eq_append_getElem hj];unfold eY;rw[List.filter_append]
 congr 1
 have e:l.getD j 0=l[j]:=by simp[List.getD,hj]
 rw[e];by_cases h:0<=l[j] <;>simp [h]
theorem Kl (l:List Int)(j:Nat):(eY (l.take j)).length<=l.length:=Nat.le_trans (List.length_filter_le _ _) (by rw[List.length_take];omega)
theorem Fx (t:Tk)(ps:Option Addr)(cs:Nat)(p:Option Addr)(c:Nat)(eO:Int)(w:World)(hn:t.stamps.length<=1000)(hst:cX w ps t.stamps) :
 Calls prog 69 #[aS t ps cs p c,.int .i64 eO] w fun e w'=>e=.returned (.int .i64 (mP t.stamps eO))/\Below w.heap.size w w':=by
 unfold aS;have F0:=hid (show Sh w t ps cs p c (.slice none 0 0) (eY (t.stamps.take 0)) (w.alloc (.cells #[.int .i64 t.gen,.int .i64 t.bP,.slice ps t.stamps.length cs,.int .i64 t.table.start,.slice p t.table.rows.length c] 30)) from by
  have M:=(Mem.start w).box #[.int .i64 t.gen,.int .i64 t.bP,.slice ps t.stamps.length cs,.int .i64 t.table.start,.slice p t.table.rows.length c] 30;exact⟨World.ownsRow_nil _ _ _ _,M.boxes 0 _ _ _ rfl,M.below⟩)
 obtain⟨x0,x1,x2,x3,x4,-⟩:=bz F0.out.box;have HS:=hid (Fw t.stamps);have HG:=hid (Kl t.stamps);have HI:=hid hst;have HM:=hid (fun u=>Zj.Ew (t.stamps.length:Int) u (by omega))
 have HU:=hid (show mP t.stamps eO=if 1<=kt t.stamps.length/\kt t.stamps.length<=((eY t.stamps).length:Int) then add [ni (eY t.stamps) (kt t.stamps.length),eO] else -1 from rfl)
 generalize mP t.stamps eO=R at *;clear hst;go_enter func69,ntmps69
 go_wp2;go_loopw [5,6] (fun l i wr=>∃(j:Nat) (q:Option Addr) (d n:Nat),j<=t.stamps.length/\i=.int .i64 (j:Int)/\l=.slice q n d/\Hid (n=(eY (t.stamps.take j)).length)/\Hid (Sh w t ps cs p c (.slice q n d) (eY (t.stamps.take j)) wr)) (fun _ i _=>t.stamps.length-(intOf i).toNat)
 case atStart=>exact ⟨0,none,0,0,by omega,rfl,rfl,hid rfl,F0⟩
 case round =>
  obtain⟨j,q,d,n,hj,rfl,rfl,Pt,hF⟩:=hrel;clear F0 x0 x1 x2 x3 x4;obtain⟨x0,x1,x2,x3,x4,-⟩:=bz hF.out.box;have Mb:=HG.out j;have aT:=Pt.out;by_cases aC:j<t.stamps.length
  ·have bE:(j:Int)<(t.stamps.length:Int):=by omega
   have hs:=hid (HS.out j aC);have FA:=hid (fun(x:Int)=>hF.out.on ((Below.refl _ _).alloc (Nat.le_refl _) (.cells #[.int .i64 x] 3)))
   obtain⟨b,o,rfl,hcell⟩:∃b o,ps=some ⟨b,o,none⟩/\wr.cell? ⟨b,o+j,none⟩=some (.int .i64 (t.stamps.getD j 0)):=by
    rcases HI.out with h0 | ⟨b,o,e,hc⟩
    ·rw [h0] at aC;simp at aC
    ·exact ⟨b,o,e,af (hc j aC) hF.out.below⟩
   generalize eY (t.stamps.take j)=M at *;generalize t.stamps.getD j 0=xx at *;clear HS HG HI HU HM;by_cases he:0<=xx
   ·have hs2:=hid (hs.out.trans (by rw[if_pos he]))
    clear hs;have HN:=hid aT;have Yp:n<=1000:=by omega
    clear aT Mb;go_wp2_with (at_builtin;refine vJ rfl (.tmp 22) (.tmp 28) rfl w.heap.size (.slice q n d) rfl M n HN.out.symm (FA.out xx).ic (FA.out xx).below.size _ xx rfl (heap_alloc_new _ _) (by omega) ?_;intro q1 d1 w4 R4 G4 A4;have F4:=hid ((FA.out xx).push R4.out G4);clear R4 G4 A4 FA x0 x1 x2 x3 x4)
    go_roundw
    case rel=>exact ⟨j+1,q1,d1,n+1,by omega,by go_num,rfl,by rw[hs2.out,List.length_append,<-HN.out];exact hid rfl,by rw[hs2.out];exact F4⟩
    case measure=>simp [intOf];omega
   ·have hs2:=hid (hs.out.trans (by rw[if_neg he,List.append_nil]))
    clear hs FA;go_wp2;go_roundw
    case rel=>exact ⟨j+1,q,d,n,by omega,by go_num,rfl,by rw[hs2.out];exact Pt,by rw[hs2.out];exact hF⟩
    case measure=>simp [intOf];omega
  ·have TS:j=t.stamps.length:=by omega
   have bE:¬(j:Int)<(t.stamps.length:Int):=by omega
   have ax:=hF.out.ic;rw[TS,List.take_length] at ax aT;have HB:=hid hF.out.below;have hG:(eY t.stamps).length<=1000:=Nat.le_trans (List.length_filter_le _ _) hn;generalize eY t.stamps=G at *;subst aT;have hints:=gJ ax;clear HS HG HI Pt hF ax Mb;by_cases hc:1<=kt t.stamps.length/\kt t.stamps.length<=(G.length:Int)
   ·have HR:=hid (HU.out.trans (by rw[if_pos hc]))
    obtain⟨b,o,rfl,sO⟩:∃b o,q=some ⟨b,o,none⟩/\∀i,i<G.length->wr.cell? ⟨b,o+i,none⟩=some (.int .i64 (G.getD i 0)):=by
     rcases hints with h0 | h
     ·rw [h0] at hc;simp at hc;omega
     ·exact h
    have HNT:=hid (fun u (hu:Below wr.heap.size wr u)=>Zj.Js b o d G (kt t.stamps.length) u hG hc.1 hc.2 (fun i hi=>af (sO i hi) hu))
    have RQ:=hid (fun u=>Zr.eP (ni G (kt t.stamps.length)) eO u)
    clear HU sO hints hc;generalize ni G (kt t.stamps.length)=N at *;generalize kt (t.stamps.length:Int)=mj at *;go_wp2_with (first
     |(go_at_call 132;(with_reducible refine(HM.out _).mono ?_);rintro e u1 ⟨rfl,rfl⟩)
     |(go_at_call 131;(with_reducible refine(HNT.out _ (Below.refl _ _)).mono ?_);rintro e u1 ⟨rfl,hb⟩;have aO:=hid (HB.out.trans (hb.mono HB.out.size));clear hb)
     |(go_at_call 50;(with_reducible refine(RQ.out _).mono ?_);rintro e u1 ⟨rfl,rfl⟩))
    go_ret;exact⟨by rw[HR.out];rfl,aO.out⟩
   ·have HR:=hid (HU.out.trans (by rw[if_neg hc]))
    have HNT:=hid (fun u=>Zj.EF q G.length d (kt t.stamps.length) u hc)
    clear HU hints hc;generalize kt (t.stamps.length:Int)=mj at *;go_wp2_with (first
     |(go_at_call 132;(with_reducible refine(HM.out _).mono ?_);rintro e u1 ⟨rfl,rfl⟩)
     |(go_at_call 131;(with_reducible refine(HNT.out _).mono ?_);rintro e u1 ⟨rfl,rfl⟩))
    go_ret;exact⟨by rw[HR.out];rfl,HB.out⟩
theorem Fy (t:Tk)(ps:Option Addr)(cs:Nat)(p:Option Addr)(c:Nat)(now eO:Int)(w:World)(hn:t.stamps.length<=1000)(hst:cX w ps t.stamps) :
 Calls prog 25 #[aS t ps cs p c,.int .i64 now,.int .i64 eO] w (cG w (fW t.stamps now eO)):=by
 have HU:=hid (fun u (hu:Below w.heap.size w u)=>Fx t ps cs p c eO u hn (hst.below hu))
 have HF:=hid (fun u=>Zr.fQ now u)
 have hv:fW t.stamps now eO=(decide (0<=mP t.stamps eO)&&decide (dh now<=mP t.stamps eO)):=rfl;generalize mP t.stamps eO=U at *;generalize dh now=fn at *;rw[hv];unfold aS at *;have fD:=hid (((Mem.start w).box #[.int .i64 t.gen,.int .i64 t.bP,.slice ps t.stamps.length cs,.int .i64 t.table.start,.slice p t.table.rows.length c] 30));clear hv hst;have hcs:(0<=U/\fn<=U)∨(0<=U/\¬fn<=U)∨¬0<=U:=by omega
 go_enter func25,ntmps25
 rcases hcs with ⟨h1,h2⟩ | ⟨h1,h2⟩ | h1
 all_goals
  go_wp2_with (first
   |(go_at_call 69;(with_reducible refine(HU.out _ fD.out.below).mono ?_);rintro e u1 ⟨rfl,hb⟩;have aO:=hid (fD.out.below.trans (hb.mono fD.out.below.size));clear hb)
   |(go_at_call 70;(with_reducible refine(HF.out _).mono ?_);rintro e u1 ⟨rfl,rfl⟩))
 all_goals go_ret
 ·exact ⟨by rw[show (decide (0<=U)&&decide (fn<=U))=true by simp;omega];rfl,aO.out⟩
 ·exact ⟨by rw[show (decide (0<=U)&&decide (fn<=U))=decide (fn<=U) by rw[decide_eq_true (show 0<=U by omega)];rfl];rfl,aO.out⟩
 ·exact ⟨by rw[show (decide (0<=U)&&decide (fn<=U))=false by simp;omega];rfl,aO.out⟩
end Zo
end Go.Proofs.YtbgdlokegibkmaaGreat
