/-
  A part of the proof of VisitPlays.
-/
import Derived.Test.YtbgdlokegibkmaaGreatMpBl
import Derived.Test.YtbgdlokegibkmaaGreatMpBm
set_option maxRecDepth 100000
set_option maxHeartbeats 8000000
namespace Go.Proofs.YtbgdlokegibkmaaGreat
open Go.RowKit
open Tryz
open Lib (hid)
namespace Zn
open Zx (Rw Tb Tk aq ak af)
open Zv (dK ar bq cI bV held bN gD)
open Zq (cX ae aj ai)
open Zp (aL bS fN)
open Zy (Cf Eg An Ed aM bD fh eo iK eW In bZ gX iL gB qG uk)
open Zo (aS)
open Zw (bC)
theorem rG {t:Tb}{key node aF:Int}(h:¬0<(Zv.aQ t key node aF).2):Zv.aQ t key node aF=(t,0):=by
 unfold Zv.aQ at h ⊢;by_cases hm:Zv.fe t key node aF=true
 ·rw [if_pos hm] at h
  have:=(Zv.Fg hm).1;simp only at h;omega
 ·rw [if_neg hm]
def uD (c:Cf)(node gen now:Int)(t:Tb)(e:Eg)(w:Int×Int):Tb×Eg×List An :=
 if 0<(Zv.aQ t w.1 node w.2).2 then ((Zv.aQ t w.1 node w.2).1,(Zy.aQ e (lz c w.1 gen (Zv.aQ t w.1 node w.2).2 now) now).1,(Zy.aQ e (lz c w.1 gen (Zv.aQ t w.1 node w.2).2 now) now).2)
 else (t,e,[])
section
variable {B gb:Nat}{f:Gf}{y:Value}{qw qq qd:Nat}{R:Nat->Prop}{p:Option Addr}{d:Nat}{t:Tb}{e:Eg}{u:World}
theorem LO (P:Zu.jz Zu.Pq)(h:Gu B gb f y qw qq qd R p d t e u)(hg:B<=gb)(hr:cI 0 t)(hgd:Zy.bu f.c e)(Th:iL e){key:Int}(hk:bC key)(aF:Int)(Kw:bC f.gen) :
 Calls prog 109 #[.pointer (some ⟨gb,0,none⟩),.agg #[.int .i64 key,.int .i64 aF]] u fun x w'=>∃v,x=.returned v/\eo w' v (uD f.c f.node f.gen f.now t e (key,aF)).2.2/\∃R' p' d',Gu B gb f y qw qq qd R' p' d' (uD f.c f.node f.gen f.now t e (key,aF)).1 (uD f.c f.node f.gen f.now t e (key,aF)).2.1 w'/\fH B gb R R' u w':=by
 have Ix:Hid (∀v,Below u.heap.size u v->Calls prog 163 #[.agg #[.int .i64 f.start,.slice p t.rows.length (d+t.rows.length)],.int .i64 key,.int .i64 f.node,.int .i64 aF] v fun x v'=>∃px dx,x=.returned (.tuple #[.agg #[.int .i64 f.start,.slice px (Zv.aQ t key f.node aF).1.rows.length (dx+(Zv.aQ t key f.node aF).1.rows.length)],.int .i64 (Zv.aQ t key f.node aF).2])/\Zv.cz (fun b=>R b∨u.heap.size<=b) v' px (Zv.aQ t key f.node aF).1.rows/\Below v.heap.size v v'):=hid (fun v hv=>by
  have:=Zv.DT p d key f.node aF v hr (by omega) hk (h.rows.below hv).rest
  have uy:=jg t key f.node aF;generalize Zv.aQ t key f.node aF=MT at *;rw[<-h.start];refine this.mono ?_;rintro x v' ⟨px,dx,rfl,⟨-,h2⟩,h3⟩;exact⟨px,dx,by rw[<-uy];rfl,iR (h2 R (h.rows.below hv)) fun b hb _=>hb.imp id fun h4=>Nat.le_trans hv.size h4,h3⟩)
 have uy:=(jg t key f.node aF).trans h.start;have acb:=sM hr hk f.node aF;have hno:¬0<(Zv.aQ t key f.node aF).2->Zv.aQ t key f.node aF=(t,0):=rG;have XU:uD f.c f.node f.gen f.now t e (key,aF)=if 0<(Zv.aQ t key f.node aF).2 then ((Zv.aQ t key f.node aF).1,(Zy.aQ e (lz f.c key f.gen (Zv.aQ t key f.node aF).2 f.now) f.now).1,(Zy.aQ e (lz f.c key f.gen (Zv.aQ t key f.node aF).2 f.now) f.now).2) else (t,e,[]):=rfl
 generalize uD f.c f.node f.gen f.now t e (key,aF)=LN at *;generalize Zv.aQ t key f.node aF=MT at *;have Ez:=cQ u (.cells #[.int .i64 key,.int .i64 aF] 174);have PF:=hid h;have PM:=hid (h.on Ez);have cA:=hid (show(u.alloc (.cells #[.int .i64 key,.int .i64 aF] 174)).heap[u.heap.size]? =some (.cells #[.int .i64 key,.int .i64 aF] 174 (0,0)) from heap_alloc_new u _)
 have XV:=hid Ez;have I2:=hid hg;have HMS:=hid uy;have Yo:=hid h.size;have HGD:=hid hgd;have HP:=hid P;clear Ez h hg uy hr hgd P;go_enter func109,ntmps109
 go_upto_region 1 with (fail)
 generalize u.alloc (.cells #[.int .i64 key,.int .i64 aF] 174)=ua at *;obtain⟨x0,x1,x2,x3,x4,x5,x6,x7,-⟩:=PM.out.cells;have w0:ua.cell? ⟨u.heap.size,0,none⟩=_:=cell_of_row _ u.heap.size 0 _ _ (0,0) cA.out;have w1:ua.cell? ⟨u.heap.size,1,none⟩=_:=cell_of_row _ u.heap.size 1 _ _ (0,0) cA.out;have HY:=hid (fun v (hu:Below ua.heap.size ua v)=>show Below ua.heap.size ua v/\v.cell? ⟨gb,3,none⟩=some (.int .i64 f.start)/\v.cell? ⟨gb,4,none⟩=some (.slice p t.rows.length (d+t.rows.length))/\v.cell? ⟨gb,6,none⟩=some (.int .i64 f.node)/\v.cell? ⟨u.heap.size,0,none⟩=some (.int .i64 key)/\v.cell? ⟨u.heap.size,1,none⟩=some (.int .i64 aF) from
  ⟨hu,af x3 hu,af x4 hu,af x6 hu,af w0 hu,af w1 hu⟩)
 have z0:=HY.out _ (Below.refl ua.heap.size ua).drew;have Jr:=hid (fun v (hv:Below ua.heap.size ua v)=>Ix.out v (XV.out.trans (hv.mono XV.out.size)))
 clear x0 x1 x2 x3 x4 x5 x6 x7 w0 w1 Ix;go_cut [5,6] (fun a f' wx=>f'=.int .i64 MT.2/\Rz (fun b=>R b∨u.heap.size<=b) ua wx a f.start MT.1.rows)
 case first =>
  go_region_held3 (fun v=>Below ua.heap.size ua v/\v.cell? ⟨gb,3,none⟩=some (.int .i64 f.start)/\v.cell? ⟨gb,4,none⟩=some (.slice p t.rows.length (d+t.rows.length))/\v.cell? ⟨gb,6,none⟩=some (.int .i64 f.node)/\v.cell? ⟨u.heap.size,0,none⟩=some (.int .i64 key)/\v.cell? ⟨u.heap.size,1,none⟩=some (.int .i64 aF))
   (first | with_reducible assumption | ((with_reducible refine HY.out _ ?_);first | with_reducible exact aO.out | with_reducible exact iy ua _ | with_reducible exact yU aO.out _ | with_reducible exact yV aO.out _ _)) (first
   |(go_at_call 163;(with_reducible refine(Jr.out _ (iy ua _)).mono ?_);rintro x u1 ⟨px,dx,rfl,hr1,hb1⟩;have uz:=hid hr1;have fD:=hid hb1;obtain⟨e0,e1,f0,f1⟩:=iN hb1;have aO:=hid ((iy ua _).trans (hb1.mono (iy ua _).size));clear hr1 hb1)
   |(go_at_call 163;(with_reducible refine(Jr.out _ (Below.refl ua.heap.size ua).drew).mono ?_);rintro x u1 ⟨px,dx,rfl,hr1,hb1⟩;have uz:=hid hr1;have aO:=hid (kQ hb1);clear hr1 hb1))
  all_goals (go_wp2_with (fail))
  all_goals go_meet
  all_goals first | exact⟨rfl,O4 aO.out uz.out⟩ | exact⟨rfl,O5 fD.out uz.out⟩
 case rest =>
  obtain⟨rfl,gx,px,dx,rfl,gH,hgx,N1,lQ⟩:=hcut;have En:=hid (XV.out.trans (lQ.mono XV.out.size));have SI:=hid (PM.out.on lQ);have nt:=hid gH;have HRX:=hid N1;have Ha:=hid ((lQ.block _ (ae cA.out)).trans cA.out);clear Jr HY z0 N1 lQ gH PM cA;by_cases C1:0<MT.2
  ·rw [if_pos C1] at XU
   have hne:(MT.2==0)=false:=by simp;omega
   have y0:wc.cell? ⟨gx,0,none⟩=_:=cell_of_row _ gx 0 _ _ (0,0) nt.out;have y1:wc.cell? ⟨gx,1,none⟩=_:=cell_of_row _ gx 1 _ _ (0,0) nt.out;obtain⟨-,-,-,x3,x4,-,-,-,-,-,-,-,-,-,-,-,-,ff⟩:=SI.out.cells;have f3:=ff 3;have f4:=ff 4;clear ff;go_upto_region 5 with (fail)
   have PN:=hid (PF.out.more En.out);have HR3:=hid (iR HRX.out (S':=fun g=>R g∨u.heap.size<=g/\g<wc.heap.size) fun b hb hl=>hb.imp id fun h=>⟨h,hl⟩)
   have HF:=hid ((fH.uV (gb:=gb) (R:=R) En.out Yo.out).trans (fH.wL PN.out I2.out px MT.1.rows.length dx));have Ui:=hid (PN.out.store (p':=px) (d':=dx) I2.out HR3.out HMS.out);have Eo:=hid ((ji PN.out px MT.1.rows.length dx).2 u.heap.size (by rintro rfl;have h1:=PN.out.box;rw[Ha.out] at h1;simp at h1) |>.trans Ha.out)
   clear SI nt HRX Ha HR3 PN PF En XV y0 y1 x3 x4 f3 f4;generalize(fun g=>R g∨u.heap.size<=g/\g<wc.heap.size)=R2 at *
   generalize(wc.setCell ⟨gb,3,none⟩ (.int .i64 f.start)).setCell ⟨gb,4,none⟩ (.slice px MT.1.rows.length (dx+MT.1.rows.length))=u2 at *;have kW:=fun (v:World) b (h:Zy.Dk v b f.now f.c.tl)=>qG h
   have Xx:=hid kW;clear kW;have hlz:lz f.c key f.gen MT.2 f.now=⟨key,f.gen,MT.2,0,Zr.add [f.now,f.c.tl]⟩:=rfl;rw[hlz] at XU;have htn:=Zy.Ae [f.now,f.c.tl];obtain⟨-,-,-,-,-,-,-,x7,-,-,Vr,-,-,-,-,-,-,-⟩:=Ui.out.cells;have HY:=hid (fun v (hu:Below u2.heap.size u2 v)=>show Below u2.heap.size u2 v/\v.cell? ⟨gb,7,none⟩=some (.int .i64 f.now)/\v.cell? ⟨gb,10,none⟩=some (.int .i64 f.c.tl) from⟨hu,af x7 hu,af Vr hu⟩)
   have z0:=HY.out _ (Below.refl u2.heap.size u2).drew;clear x7 Vr;generalize Zr.add [f.now,f.c.tl]=cJ at *;go_cut [7] (fun a wx=>a=.int .i64 cJ/\Below u2.heap.size u2 wx)
   case first =>
    go_region_held3 (fun v=>Below u2.heap.size u2 v/\v.cell? ⟨gb,7,none⟩=some (.int .i64 f.now)/\v.cell? ⟨gb,10,none⟩=some (.int .i64 f.c.tl)) (first | with_reducible assumption | ((with_reducible refine HY.out _ ?_);first | with_reducible exact iy _ _)) (first
     |(go_at_call 88;(with_reducible refine(Xx.out _ _ (by first | exact uk rfl | exact uk (by simp))).mono ?_);rintro x w3 ⟨rfl,rfl⟩))
    all_goals (go_wp2_with (fail))
    all_goals go_meet
    all_goals exact⟨rfl,iy _ _⟩
   case rest =>
    obtain⟨rfl,hb3⟩:=hcut;have xp:=hid ((Ui.out.on hb3).on (Below.refl wc.heap.size wc).drew);have OQ:=hid (HF.out.trans (fH.cw (gb:=gb) (R:=R2) (hb3.trans ((Below.refl wc.heap.size wc).drew.mono hb3.size)) Ui.out.size));have Vy:=hid (show wc.drew.heap[u.heap.size]? =_ from(hb3.block _ (ae Eo.out)).trans Eo.out)
    have hGR:=Zy.Gt HP.out xp.out.kr xp.out.size HGD.out Th ⟨key,f.gen,MT.2,0,cJ⟩ ⟨hk,Kw,acb,by simp[bC],htn⟩ f.now
    have FJ:=hid hGR;generalize Zy.aQ e ⟨key,f.gen,MT.2,0,cJ⟩ f.now=GR at *;simp only[Zw.val] at FJ;obtain⟨x0,-,-,-,-,x5,-,x7,-⟩:=xp.out.cells;have w0:wc.drew.cell? ⟨u.heap.size,0,none⟩=_:=cell_of_row _ u.heap.size 0 _ _ (0,0) Vy.out;have z1:wc.drew.cell? ⟨gb,5,none⟩=some (.pointer (some ⟨f.q,0,none⟩))/\wc.drew.cell? ⟨u.heap.size,0,none⟩=some (.int .i64 key)/\wc.drew.cell? ⟨gb,0,none⟩=some (.int .i64 f.gen)/\wc.drew.cell? ⟨gb,7,none⟩=some (.int .i64 f.now):=⟨x5,w0,x0,x7⟩;clear HY Xx z0 hb3 hGR x0 x5 x7 w0;go_upto_region 6 with (fail)
    go_region_held3 (fun v=>v.cell? ⟨gb,5,none⟩=some (.pointer (some ⟨f.q,0,none⟩))/\v.cell? ⟨u.heap.size,0,none⟩=some (.int .i64 key)/\v.cell? ⟨gb,0,none⟩=some (.int .i64 f.gen)/\v.cell? ⟨gb,7,none⟩=some (.int .i64 f.now)) (first | with_reducible assumption) (first
     |(go_at_call 164;(with_reducible refine FJ.out.mono ?_);rintro x w3 ⟨v3,rfl,hs3,mN⟩;have Vz:=hid hs3;have Dg:=hid mN;have z2:_/\_/\_/\_:=⟨(xp.out.kS mN).cells.2.2.2.2.2.1,(show w3.cell? ⟨u.heap.size,0,none⟩=some (.int .i64 key) from cell_of_row _ u.heap.size 0 _ _ (0,0) ((mN.off.block _ _ _ _ Vy.out (by simp[Zy.eV])))),(xp.out.kS mN).cells.1,(xp.out.kS mN).cells.2.2.2.2.2.2.2.1⟩;clear hs3 mN))
    all_goals (go_wp2_with (fail))
    all_goals go_ret
    all_goals (subst XU;first | exact⟨v3,rfl,Vz.out,R2,⟨px,dx,xp.out.kS Dg.out⟩,OQ.out.trans (fH.lL Dg.out)⟩ | exact⟨v3,rfl,Vz.out,R2,px,dx,xp.out.kS Dg.out,OQ.out.trans (fH.lL Dg.out)⟩)
  ·have hz:=hno C1
   rw[if_neg C1] at XU;subst hz;subst XU;clear C1;go_wp2_with (fail)
   go_ret
   first | exact⟨_,rfl,gB _,R,⟨p,d,SI.out⟩,fH.cw En.out Yo.out⟩ | exact⟨_,rfl,gB _,R,p,d,SI.out,fH.cw En.out Yo.out⟩
end
end Zn
end Go.Proofs.YtbgdlokegibkmaaGreat
