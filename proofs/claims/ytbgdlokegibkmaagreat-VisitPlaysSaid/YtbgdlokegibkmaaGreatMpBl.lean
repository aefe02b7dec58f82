/-
  A part of the proof of VisitPlays.
-/
import Derived.Test.YtbgdlokegibkmaaGreatMpBb
import Derived.Test.YtbgdlokegibkmaaGreatMpBk
set_option maxRecDepth 100000
set_option maxHeartbeats 8000000
namespace Go.Proofs.YtbgdlokegibkmaaGreat
open Go.RowKit
open Tryz
open Lib (hid)
namespace Zn
open Zx (Rw Tb Tk aq ak af)
open Zv (dK ar bq cI bV held bN gD)
open Zq (cX ae aj ai)
open Zp (aL bS fN)
open Zy (Cf Eg An Ed aM bD fh eo iK eW In bZ gX iL)
open Zo (aS)
open Zw (bC)
def Rz (S:Nat->Prop)(w0 wx:World)(a:Value)(start:Int)(rows:List Rw):Prop:=∃g p d,a=.pointer (some ⟨g,0,none⟩)/\wx.heap[g]? =some (.cells #[.int .i64 start,.slice p rows.length (d+rows.length)] 28 (0,0))/\w0.heap.size<=g/\Zv.cz S wx p rows/\Below w0.heap.size w0 wx
theorem O4 {S:Nat->Prop}{w0 u:World}{start:Int}{d:Nat}{p:Option Addr}{rows:List Rw}(hb:Below w0.heap.size w0 u)(hr:Zv.cz S u p rows):Rz S w0 (u.alloc (.cells #[.int .i64 start,.slice p rows.length (d+rows.length)] 28)) (.pointer (some ⟨u.heap.size,0,none⟩)) start rows :=
 ⟨_,p,d,rfl,heap_alloc_new u _,hb.size,hr.below (cQ u _),hb.trans ((cQ u _).mono hb.size)⟩
theorem O5 {S:Nat->Prop}{w0 u:World}{start:Int}{d:Nat}{p:Option Addr}{rows:List Rw}(hb:Below (w0.alloc (.cells #[.int .i64 0,.slice none 0 0] 28)).drew.heap.size (w0.alloc (.cells #[.int .i64 0,.slice none 0 0] 28)).drew u)(hr:Zv.cz S u p rows) :
 Rz S w0 ((u.setCell ⟨w0.heap.size,0,none⟩ (.int .i64 start)).setCell ⟨w0.heap.size,1,none⟩ (.slice p rows.length (d+rows.length))) (.pointer (some ⟨w0.heap.size,0,none⟩)) start rows:=by
 have hz:u.heap[w0.heap.size]? =some (.cells #[.int .i64 0,.slice none 0 0] 28 (0,0)):=(hb.block _ (ae (show(w0.alloc (.cells #[.int .i64 0,.slice none 0 0] 28)).drew.heap[w0.heap.size]? =_ from heap_alloc_new w0 _))).trans (heap_alloc_new w0 _)
 have h1:=ai w0.heap.size 0 _ (.int .i64 start) hz;have h2:=ai w0.heap.size 1 _ (.slice p rows.length (d+rows.length)) h1;have hb2:Below w0.heap.size w0 u:=(cQ w0 _).drew.trans (hb.mono (cQ w0 _).drew.size);exact⟨_,p,d,rfl,h2,Nat.le_refl _,Zv.pQ (o:=1) h1 (Zv.pQ (o:=0) hz hr),(hb2.setCell (p:=⟨w0.heap.size,0,none⟩) (Nat.le_refl _) _).setCell (p:=⟨w0.heap.size,1,none⟩) (Nat.le_refl _) _⟩
theorem iR {S S':Nat->Prop}{w:World}{p:Option Addr}{l:List Rw}(h:Zv.cz S w p l)(hS:∀b,S b->b<w.heap.size->S' b):Zv.cz S' w p l:=h.on hS fun _ _ _=>rfl
section
variable {B gb:Nat}{f:Gf}{y:Value}{qw qq qd:Nat}{R:Nat->Prop}{p:Option Addr}{d:Nat}{t:Tb}{e:Eg}{u:World}
theorem zy (h:Gu B gb f y qw qq qd R p d t e u)(hg:B<=gb)(hr:cI 0 t)(key:Int) :
 Calls prog 103 #[.pointer (some ⟨gb,0,none⟩),.int .i64 key] u fun x w'=>x=.returned (.int .i64 (bV t key f.now (gW f.c)).2)/\∃R' p' d',Gu B gb f y qw qq qd R' p' d' (bV t key f.now (gW f.c)).1 e w'/\fH B gb R R' u w':=by
 have Ix:Hid (∀v,Below u.heap.size u v->Calls prog 150 #[.agg #[.int .i64 f.start,.slice p t.rows.length (d+t.rows.length)],.int .i64 key,.int .i64 f.now,.agg #[.int .i64 f.c.n,.int .i64 f.c.sk,.int .i64 f.c.tl,.int .i64 f.c.va,.int .i64 f.c.lo,.int .i64 f.c.he,.int .i64 f.c.ke,.int .i64 f.c.qu,.slice f.pf f.c.zs.length f.kf]] v fun x v'=>∃px dx,x=.returned (.tuple #[.agg #[.int .i64 f.start,.slice px (bV t key f.now (gW f.c)).1.rows.length (dx+(bV t key f.now (gW f.c)).1.rows.length)],.int .i64 (bV t key f.now (gW f.c)).2])/\Zv.cz (fun b=>R b∨u.heap.size<=b) v' px (bV t key f.now (gW f.c)).1.rows/\Below v.heap.size v v'):=hid (fun v hv=>by
  have:=Zv.G8 p d key f.now (gW f.c) f.pf f.kf v hr (by omega) (h.rows.below hv).rest (wb (h.aH.on (hv.mono h.size)))
  have uy:=fO t key f.now (gW f.c);generalize bV t key f.now (gW f.c)=MT at *;rw[<-h.start];refine this.mono ?_;rintro x v' ⟨px,dx,rfl,⟨-,h2⟩,h3⟩;exact⟨px,dx,by rw[<-uy];rfl,iR (h2 R (h.rows.below hv)) fun b hb _=>hb.imp id fun h4=>Nat.le_trans hv.size h4,h3⟩)
 have uy:=(fO t key f.now (gW f.c)).trans h.start;generalize bV t key f.now (gW f.c)=MT at *;obtain⟨x0,x1,x2,x3,x4,x5,x6,x7,x8,x9,Vr,x11,x12,x13,x14,x15,x16,-⟩:=h.cells;have HY:=hid (fun v (hu:Below u.heap.size u v)=>show Below u.heap.size u v/\v.cell? ⟨gb,3,none⟩=some (.int .i64 f.start)/\v.cell? ⟨gb,4,none⟩=some (.slice p t.rows.length (d+t.rows.length))/\v.cell? ⟨gb,7,none⟩=some (.int .i64 f.now)/\v.cell? ⟨gb,8,none⟩=some (.int .i64 f.c.n)/\v.cell? ⟨gb,9,none⟩=some (.int .i64 f.c.sk)/\v.cell? ⟨gb,10,none⟩=some (.int .i64 f.c.tl)/\v.cell? ⟨gb,11,none⟩=some (.int .i64 f.c.va)/\v.cell? ⟨gb,12,none⟩=some (.int .i64 f.c.lo)/\v.cell? ⟨gb,13,none⟩=some (.int .i64 f.c.he)/\v.cell? ⟨gb,14,none⟩=some (.int .i64 f.c.ke)/\v.cell? ⟨gb,15,none⟩=some (.int .i64 f.c.qu)/\v.cell? ⟨gb,16,none⟩=some (.slice f.pf f.c.zs.length f.kf) from
  ⟨hu,af x3 hu,af x4 hu,af x7 hu,af x8 hu,af x9 hu,af Vr hu,af x11 hu,af x12 hu,af x13 hu,af x14 hu,af x15 hu,af x16 hu⟩)
 have z0:=HY.out _ (Below.refl u.heap.size u).drew;have HG:=hid h;have I2:=hid hg;have HMS:=hid uy;clear x0 x1 x2 x3 x4 x5 x6 x7 x8 x9 Vr x11 x12 x13 x14 x15 x16 h hg uy hr;go_enter func103,ntmps103
 go_upto_region 1 with (fail)
 go_cut [5,6] (fun a f' wx=>f'=.int .i64 MT.2/\Rz (fun b=>R b∨u.heap.size<=b) u wx a f.start MT.1.rows)
 case first =>
  go_region_held3 (fun v=>Below u.heap.size u v/\v.cell? ⟨gb,3,none⟩=some (.int .i64 f.start)/\v.cell? ⟨gb,4,none⟩=some (.slice p t.rows.length (d+t.rows.length))/\v.cell? ⟨gb,7,none⟩=some (.int .i64 f.now)/\v.cell? ⟨gb,8,none⟩=some (.int .i64 f.c.n)/\v.cell? ⟨gb,9,none⟩=some (.int .i64 f.c.sk)/\v.cell? ⟨gb,10,none⟩=some (.int .i64 f.c.tl)/\v.cell? ⟨gb,11,none⟩=some (.int .i64 f.c.va)/\v.cell? ⟨gb,12,none⟩=some (.int .i64 f.c.lo)/\v.cell? ⟨gb,13,none⟩=some (.int .i64 f.c.he)/\v.cell? ⟨gb,14,none⟩=some (.int .i64 f.c.ke)/\v.cell? ⟨gb,15,none⟩=some (.int .i64 f.c.qu)/\v.cell? ⟨gb,16,none⟩=some (.slice f.pf f.c.zs.length f.kf))
   (first | with_reducible assumption | ((with_reducible refine HY.out _ ?_);first | with_reducible exact aO.out | with_reducible exact iy u _ | with_reducible exact yU aO.out _ | with_reducible exact yV aO.out _ _)) (first
   |(go_at_call 150;(with_reducible refine(Ix.out _ (iy u _)).mono ?_);rintro x u1 ⟨px,dx,rfl,hr1,hb1⟩;have uz:=hid hr1;have fD:=hid hb1;obtain⟨e0,e1,f0,f1⟩:=iN hb1;have aO:=hid ((iy u _).trans (hb1.mono (iy u _).size));clear hr1 hb1)
   |(go_at_call 150;(with_reducible refine(Ix.out _ (Below.refl u.heap.size u).drew).mono ?_);rintro x u1 ⟨px,dx,rfl,hr1,hb1⟩;have uz:=hid hr1;have aO:=hid (kQ hb1);clear hr1 hb1))
  all_goals (go_wp2_with (fail))
  all_goals go_meet
  all_goals first | exact⟨rfl,O4 aO.out uz.out⟩ | exact⟨rfl,O5 fD.out uz.out⟩
 case rest =>
  obtain⟨rfl,gx,px,dx,rfl,gH,hgx,N1,lQ⟩:=hcut;have SI:=hid (HG.out.more lQ);have HRX:=hid (iR N1 (S':=fun g=>R g∨u.heap.size<=g/\g<wc.heap.size) fun b hb hl=>hb.imp id fun h=>⟨h,hl⟩)
  have HF:=hid (fH.uV (gb:=gb) (R:=R) lQ HG.out.size);have y0:wc.cell? ⟨gx,0,none⟩=_:=cell_of_row _ gx 0 _ _ (0,0) gH;have y1:wc.cell? ⟨gx,1,none⟩=_:=cell_of_row _ gx 1 _ _ (0,0) gH;obtain⟨-,-,-,x3,x4,-,-,-,-,-,-,-,-,-,-,-,-,ff⟩:=SI.out.cells;have f3:=ff 3;have f4:=ff 4;clear Ix HY z0 N1 lQ ff gH;go_upto_region 2 with (fail)
  go_wp2_with (fail)
  go_ret;exact⟨rfl,_,px,dx,SI.out.store I2.out HRX.out HMS.out,HF.out.trans (fH.wL SI.out I2.out px MT.1.rows.length dx)⟩
end
end Zn
end Go.Proofs.YtbgdlokegibkmaaGreat
