/-
  A part of the proof of VisitPlays.
-/
import Derived.Deep.RegionHeldLaw
import Derived.Test.YtbgdlokegibkmaaGreatMpAr
set_option maxRecDepth 100000
set_option maxHeartbeats 8000000
namespace Go.Proofs.YtbgdlokegibkmaaGreat
open Go.RowKit
open Tryz
open Lib (hid)
namespace Zn
open Zx (Rw Tb Tk aq ak af cG)
open Zv (dK ar cI bV held has bN gD)
open Zq (cX ae aj ai)
open Zy (Cf Eg Ed An aM bD bB drop dL eC ib)
open Zo (aS bz)
open Zw (bC)
theorem FD {B:Nat}{w:World}{v:Nat}{c:Cf}{e:Eg}(h:Ed B w v c e)(hB:B<=w.heap.size)(hq:c.qu<=16)(hk:c.ke<=16){k m:Nat}(t:Tk)(gL:fE c (k:Int) m t.table e)(hm:m<=660)(hg:bC t.gen)(hts:t.stamps.length<=100)(Pz:k<t.stamps.length)(ps:Option Addr)(cs:Nat)(p:Option Addr)(d:Nat)(now:Int)(YO:0<=now)(qE:now<=4611686018427387903)(hst:cX w ps t.stamps)(hr:ar w p t.table.rows) :
 Calls prog 17 #[aS t ps cs p (d+t.table.rows.length),.pointer (some ⟨v,0,none⟩),.int .i64 (k:Int),.int .i64 now] w fun x w'=>∃ix cs' p' d' y,x=.returned (.tuple #[aS (visit c k now t e).1 ix cs' p' (d'+(visit c k now t e).1.table.rows.length),y])/\cX w' ix (visit c k now t e).1.stamps/\ar w' p' (visit c k now t e).1.table.rows/\Zy.jt w' y (visit c k now t e).2.2/\aM B w v c (visit c k now t e).2.1 w':=by
 have hn:bC now:=by simp only[bC];omega
 obtain⟨st,WA,WB,N2⟩:∃st:List Int,st=t.stamps.set k now/\Zo.cK t k now=(⟨t.gen,t.bP,st,t.table⟩,0)/\st.length=t.stamps.length:=⟨_,rfl,by unfold Zo.cK;rw[if_neg (by omega)];rfl,by simp⟩
 have hS:=fun u (hu:Below w.heap.size w u)=>Zo.Fv t ps cs p (d+t.table.rows.length) k now u (by omega) (hst.below hu) Pz YO qE
 rw[<-WA] at hS;clear WA;have hV:=fun u ix cs' (hi:cX u ix st)=>Zo.Fy ⟨t.gen,t.bP,st,t.table⟩ ix cs' p (d+t.table.rows.length) now c.va u (by simp only;omega) hi
 have hE:=fun u ix cs' (hu:Below w.heap.size w u)=>Au (node:=(k:Int)) (h.below hB hu) (Nat.le_trans hB hu.size) hq hk ⟨t.gen,t.bP,st,t.table⟩ gL hm ix cs' p d now hn (hr.below hu)
 have WC:visit c k now t e=if Zo.fW st now c.va=true then (⟨t.gen,t.bP,st,(mK c k t.gen now (dL c (aP c k t.gen now t.table e).2) ⟨(aP c k t.gen now t.table e).1,(aP c k t.gen now t.table e).2,[]⟩).t⟩,(mK c k t.gen now (dL c (aP c k t.gen now t.table e).2) ⟨(aP c k t.gen now t.table e).1,(aP c k t.gen now t.table e).2,[]⟩).e,(mK c k t.gen now (dL c (aP c k t.gen now t.table e).2) ⟨(aP c k t.gen now t.table e).1,(aP c k t.gen now t.table e).2,[]⟩).out) else (⟨t.gen,t.bP,st,t.table⟩,e,[]):=by
  unfold visit;rw[WB]
 have HRR:=hid WC;clear WC;generalize visit c k now t e=R at *;unfold aS at *;simp only at *;rw[N2] at hV hE;simp only[kZ] at hE;have M0:=hid (((Zo.Mem.start w).box #[.int .i64 t.gen,.int .i64 t.bP,.slice ps t.stamps.length cs,.int .i64 t.table.start,.slice p t.table.rows.length (d+t.table.rows.length)] 30).box #[.int .i64 0,.int .i64 0,.slice none 0 0,.int .i64 0,.slice none 0 0] 30);simp only[Zo.size_alloc] at M0;obtain⟨x0,x1,x2,x3,x4,-⟩:=bz (M0.out.boxes 1 _ _ _ rfl);have hW:Below w.heap.size w ((w.alloc (.cells #[.int .i64 t.gen,.int .i64 t.bP,.slice ps t.stamps.length cs,.int .i64 t.table.start,.slice p t.table.rows.length (d+t.table.rows.length)] 30)).alloc (.cells #[.int .i64 0,.int .i64 0,.slice none 0 0,.int .i64 0,.slice none 0 0] 30)):=(cQ w _).trans ((cQ _ _).mono (cQ w _).size);have hres:=M0.out.boxes 0 _ _ _ rfl;go_enter func17,ntmps17
 go_upto_region 1 with (fail)
 have HW:=hid hW;have WD:=hid hres;clear hW hres M0;have hWs:((w.alloc (.cells #[.int .i64 t.gen,.int .i64 t.bP,.slice ps t.stamps.length cs,.int .i64 t.table.start,.slice p t.table.rows.length (d+t.table.rows.length)] 30)).alloc (.cells #[.int .i64 0,.int .i64 0,.slice none 0 0,.int .i64 0,.slice none 0 0] 30)).heap.size=w.heap.size+2:=by simp
 generalize(w.alloc (.cells #[.int .i64 t.gen,.int .i64 t.bP,.slice ps t.stamps.length cs,.int .i64 t.table.start,.slice p t.table.rows.length (d+t.table.rows.length)] 30)).alloc (.cells #[.int .i64 0,.int .i64 0,.slice none 0 0,.int .i64 0,.slice none 0 0] 30)=W at *;have HH:=hid h;have eF:=hid hB;have HS:=hid hS;have HV:=hid hV;have HE:=hid hE;have ED:=hid gL;have HR:=hid hr;clear h hB hS hV hE gL hr WB;go_wp2_with (go_at_call 59;(with_reducible refine(HS.out _ HW.out).mono ?_);rintro x u1 ⟨gF,cs1,rfl,hi,hb⟩;have aO:=hid hb;have tV:=hid hi;clear hi hb HS)
 obtain⟨tV,MH⟩:=tV.out;have hgs:w.heap.size+2<=u1.heap.size:=hWs ▸ aO.out.size;have bJ:=hid ((HW.out.trans (aO.out.mono HW.out.size)).trans ((cQ u1 (.cells #[.int .i64 t.gen,.int .i64 t.bP,.slice gF t.stamps.length cs1,.int .i64 t.table.start,.slice p t.table.rows.length (d+t.table.rows.length)] 30)).mono (by omega)))
 have Ks:=(heap_alloc_old u1 (.cells #[.int .i64 t.gen,.int .i64 t.bP,.slice gF t.stamps.length cs1,.int .i64 t.table.start,.slice p t.table.rows.length (d+t.table.rows.length)] 30) (r:=w.heap.size+1) (by omega)).trans ((aO.out.block _ (ae WD.out)).trans WD.out)
 have FE:=heap_alloc_new u1 (.cells #[.int .i64 t.gen,.int .i64 t.bP,.slice gF t.stamps.length cs1,.int .i64 t.table.start,.slice p t.table.rows.length (d+t.table.rows.length)] 30);have Em:=tV.below (cQ u1 (.cells #[.int .i64 t.gen,.int .i64 t.bP,.slice gF t.stamps.length cs1,.int .i64 t.table.start,.slice p t.table.rows.length (d+t.table.rows.length)] 30));rw[hWs] at MH;clear HW WD aO tV x0 x1 x2 x3 x4 hWs;generalize u1.alloc (.cells #[.int .i64 t.gen,.int .i64 t.bP,.slice gF t.stamps.length cs1,.int .i64 t.table.start,.slice p t.table.rows.length (d+t.table.rows.length)] 30)=u2 at *;generalize u1.heap.size=gu at *;have Ks:=hid Ks;have FE:=hid FE;have Em:=hid Em;obtain⟨pf,kf,hrt,y0,y1,y2,y3,-⟩:=HH.out.dW;have HY:=hid (fun u (hu:Below u2.heap.size u2 u)=>show u.cell? ⟨gu,0,none⟩=some (.int .i64 t.gen)/\u.cell? ⟨gu,1,none⟩=some (.int .i64 t.bP)/\u.cell? ⟨gu,2,none⟩=some (.slice gF t.stamps.length cs1)/\u.cell? ⟨gu,3,none⟩=some (.int .i64 t.table.start)/\u.cell? ⟨gu,4,none⟩=some (.slice p t.table.rows.length (d+t.table.rows.length))/\u.cell? ⟨v,3,none⟩=some (.int .i64 c.va) from by
  obtain⟨x0,x1,x2,x3,x4,-⟩:=bz FE.out;exact⟨af x0 hu,af x1 hu,af x2 hu,af x3 hu,af x4 hu,af (af y3 bJ.out) hu⟩)
 clear y0 y1 y2 y3 hrt pf kf;have z0:=HY.out _ (Below.refl _ u2);have z1:=HY.out _ (Below.refl _ u2).drew;have WE:=hid (HV.out u2.drew gF cs1 (Em.out.below (Below.refl _ u2).drew));go_upto_region 2 with (fail)
 go_cut [12] (fun a wx=>a=.bool (Zo.fW st now c.va)/\Below u2.heap.size u2 wx)
 case first =>
  go_region_held3 (fun u=>u.cell? ⟨gu,0,none⟩=some (.int .i64 t.gen)/\u.cell? ⟨gu,1,none⟩=some (.int .i64 t.bP)/\u.cell? ⟨gu,2,none⟩=some (.slice gF t.stamps.length cs1)/\u.cell? ⟨gu,3,none⟩=some (.int .i64 t.table.start)/\u.cell? ⟨gu,4,none⟩=some (.slice p t.table.rows.length (d+t.table.rows.length))/\u.cell? ⟨v,3,none⟩=some (.int .i64 c.va))
   (first | with_reducible assumption) (first | (go_at_call 25;(with_reducible refine WE.out.mono ?_);rintro x u3 ⟨rfl,hb⟩;have cH:=hid (kQ hb);have z2:=HY.out _ cH.out;clear hb))
  all_goals (go_wp2_with (fail))
  all_goals go_meet
  all_goals exact⟨rfl,cH.out⟩
 case rest =>
  obtain⟨rfl,hb3⟩:=hcut;have z3:=HY.out _ hb3;have cH:=hid (bJ.out.trans (hb3.mono bJ.out.size));have QR:=hid ((hb3.block _ (ae Ks.out)).trans Ks.out);have TY:=hid ((hb3.block _ (ae FE.out)).trans FE.out);have Vg:=hid (Em.out.below hb3);have abp:=ae TY.out;clear HY WE z0 z1 bJ Ks FE Em HV hb3;obtain⟨x0,x1,x2,x3,x4,xx⟩:=z3;obtain⟨q0,q1,q2,q3,q4,gg⟩:=bz QR.out;by_cases hval:Zo.fW st now c.va=true
  ·have WG:=hval
   have hR:=HRR.out;rw[if_pos hval] at hR;clear gg q0 q1 q2 q3 q4;have hvw:=HH.out.lt;have HHB:=hid (show Below w.heap.size w wc/\v≠gu/\v≠w.heap.size+1 from⟨cH.out,by omega,by omega⟩)
   go_upto_region 6 with (go_at_call 60;(with_reducible refine(HE.out _ gF cs1 cH.out).mono ?_);rintro x u4 ⟨p2,d2,rfl,hr2,hs2⟩;have UZ:=hid hr2;have Ec:=hid hs2;have Kt:=hid ((hs2.only gu (Ne.symm HHB.out.2.1) abp).trans TY.out);have WH:=hid ((hs2.only (w.heap.size+1) (Ne.symm HHB.out.2.2) (ae QR.out)).trans QR.out);obtain⟨n0,n1,n2,n3,n4,ff⟩:=bz Kt.out;clear hr2 hs2 HE)
   have hSk:=iV ED.out hk (gen:=t.gen) hn;have hSs:=kZ c (k:Int) t.gen now t.table e;generalize aP c (k:Int) t.gen now t.table e=S at *;have WI:=HH.out.below eF.out cH.out;have hI4:=yB WI Ec.out Vg.out;have Hw:=gm (u:=u4) (g:=gu) (C:=w.heap.size) (by omega) (.int .i64 t.gen) (.int .i64 t.bP) (.slice gF t.stamps.length cs1) (.int .i64 t.table.start) (.slice p2 S.1.rows.length (d2+S.1.rows.length))
   have FF:=qY Kt.out (.int .i64 t.gen) (.int .i64 t.bP) (.slice gF t.stamps.length cs1) (.int .i64 t.table.start) (.slice p2 S.1.rows.length (d2+S.1.rows.length));have Bn:∀b,b≠gu->_:=fun b hb=>dH (u:=u4) (g:=gu) (b:=b) hb (.int .i64 t.gen) (.int .i64 t.bP) (.slice gF t.stamps.length cs1) (.int .i64 t.table.start) (.slice p2 S.1.rows.length (d2+S.1.rows.length))
   have Ku:=(Bn (w.heap.size+1) (by omega)).trans WH.out
   have TX:=yC Kt.out FF Bn UZ.out;have Vh:=yE Kt.out FF Bn hI4;have Kv:=nK ((aM.same HH.out eF.out cH.out).trans Ec.out) eF.out (nL Kt.out Hw.size Bn) Hw;generalize((((u4.setCell ⟨gu,0,none⟩ (.int .i64 t.gen)).setCell ⟨gu,1,none⟩ (.int .i64 t.bP)).setCell ⟨gu,2,none⟩ (.slice gF t.stamps.length cs1)).setCell ⟨gu,3,none⟩ (.int .i64 t.table.start)).setCell ⟨gu,4,none⟩ (.slice p2 S.1.rows.length (d2+S.1.rows.length))=u5 at *;have WK:=Nat.le_trans eF.out Kv.size;obtain⟨hL,hQ,hD⟩:=hSk.lens hq (by omega)
   have TZ:=hid (Zy.Fc Kv.ed WK ⟨by omega,by omega⟩)
   have YT:=sQ (c:=c) (e:=S.2);have hwf:=sR (c:=c) hQ hD;have hgC:=ae FF;have Kv:=hid Kv;have FF:=hid FF;have Ku:=hid Ku;have TX:=hid TX;have Vh:=hid Vh;clear Hw Bn hI4 WI Ec UZ Kt WH TY QR Vg cH n0 n1 n2 n3 n4 ff x0 x1 x2 x3 x4 xx Em FE Ks tV;generalize dL c S.2=l at *;go_wp2_with (go_at_call 61;(with_reducible refine TZ.out.mono ?_);rintro x u6 ⟨pl,kl,rfl,xC,uH⟩;have Vf:=hid xC;have Ck:=hid uH;clear xC uH)
   have HA:=hid (show Iz w v u6.heap.size gu from⟨HHB.out.1.size |> fun _=>HH.out.lt,by omega,Nat.lt_of_lt_of_le hgC Ck.out.size,Nat.lt_of_lt_of_le (ae Ku.out) Ck.out.size,by omega⟩)
   have PF:=hid (show Iy B w v c u6.heap.size gu t.gen t.bP t.table.start st gF cs1 pl l p2 S.1.rows.length d2 (.slice none 0 0) (mK c k t.gen now (l.take 0) ⟨S.1,S.2,[]⟩) u6 from
    ⟨by rw[N2];exact(Ck.out.block _ hgC).trans FF.out,(Ck.out.block _ (ae Ku.out)).trans Ku.out,TX.out.below Ck.out,rfl,hSs,TT (Vh.out.below Ck.out),QM Vf.out,gA.none _ _,Kv.out.on WK Ck.out,Nat.le_refl _⟩)
   have FH:=hid (fun(j:Nat) (hj:j<l.length)=>FC c (k:Int) t.gen now l ⟨S.1,S.2,[]⟩ hj)
   have Bj:=hid (fun(j:Nat)=>lH (c:=c) (node:=(k:Int)) hk hg hn (l.take j) (s:=⟨S.1,S.2,[]⟩) (fun x hx=>YT x (List.mem_of_mem_take hx)) hSk)
   have uR:=hid (fun(j:Nat) (hj:j<=l.length)=>uP (c:=c) (node:=(k:Int)) hk hq (by omega) hg hn (s:=⟨S.1,S.2,[]⟩) YT hSk j hj)
   have FB:=hid (show mK c k t.gen now (l.take l.length) ⟨S.1,S.2,[]⟩=mK c k t.gen now l ⟨S.1,S.2,[]⟩ by rw[List.take_length])
   have Me:=hid YT;have HRE:=hid hR;clear TZ Vf Kv FF Ku TX Vh YT hR Ck;generalize u6.heap.size=C at *;go_loopw [13,15] (fun vo i wr=>∃(j:Nat) (p':Option Addr) (n d':Nat),j<=l.length/\i=.int .i64 (j:Int)/\Hid (Iy B w v c C gu t.gen t.bP t.table.start st gF cs1 pl l p' n d' vo (mK c k t.gen now (l.take j) ⟨S.1,S.2,[]⟩) wr)) (fun _ i _=>l.length-(intOf i).toNat)
   case atStart=>exact ⟨0,p2,_,d2,by omega,rfl,PF⟩
   case round =>
    obtain⟨j,p',n,d',hj,rfl,hZ⟩:=hrel;have hkj:=Bj.out j;have hoj:=uR.out j hj;simp only[List.length_nil,Nat.zero_add] at hoj;by_cases aC:j<l.length
    ·have bE:(j:Int)<(l.length:Int):=by omega
     have hst:=FH.out j aC;clear FH Bj FB PF uR;obtain⟨s1,hs1⟩:∃s1,s1=mK c k t.gen now (l.take (j+1)) ⟨S.1,S.2,[]⟩:=⟨_,rfl⟩;rw[<-hs1] at hst;have Ej:=hid hs1;clear hs1;generalize mK c k t.gen now (l.take j) ⟨S.1,S.2,[]⟩=s at *;obtain⟨bl,ol,rfl,hbl,hc0,hc1⟩:∃b o,pl=some ⟨b,o,none⟩/\b<C/\wr.cell? ⟨b,o+j*2,none⟩=some (.int .i64 (l.getD j (0,0)).1)/\wr.cell? ⟨b,o+j*2+1,none⟩=some (.int .i64 (l.getD j (0,0)).2):=by
      rcases hZ.out.xK with h0 | ⟨b,o,e1,hb,hc⟩
      ·rw [h0] at aC;simp at aC
      ·exact ⟨b,o,e1,hb,hc j aC⟩
     have xL:bC (l.getD j (0,0)).1:=Me.out _ (by simp[List.getD,aC])
     generalize l.getD j (0,0)=kw at *;obtain⟨key,aF⟩:=kw;simp only at xL hc0 hc1;obtain⟨x0,x1,x2,x3,x4,-⟩:=bz hZ.out.box;obtain⟨pf,kf,hrt,y0,y1,y2,y3,y4,y5,y6,y7,y8⟩:=hZ.out.step.ed.dW;have QK:=Zv.yK hkj.en (key:=key) (now:=now) xL hn (f:=gW c) hk;have Ix:Hid (∀u,Below wr.heap.size wr u->Calls prog 62 #[.agg #[.int .i64 t.table.start,.slice p' n (d'+n)],.int .i64 key,.int .i64 now,.agg #[.int .i64 c.n,.int .i64 c.sk,.int .i64 c.tl,.int .i64 c.va,.int .i64 c.lo,.int .i64 c.he,.int .i64 c.ke,.int .i64 c.qu,.slice pf c.zs.length kf]] u fun e u'=>∃px dx,e=.returned (.tuple #[.agg #[.int .i64 t.table.start,.slice px (bV s.t key now (gW c)).1.rows.length (dx+(bV s.t key now (gW c)).1.rows.length)],.int .i64 (bV s.t key now (gW c)).2])/\ar u' px (bV s.t key now (gW c)).1.rows/\Below u.heap.size u u'):=hid (fun u hu=>by
      have Sa:=Zv.iu hkj.en;have:=Zv.BS s.t p' d' key now (gW c) pf kf u (hZ.out.rows.below hu) ((wb hrt).below hu) (by omega) (fun r hr=>by have:=(hkj.en.dJ.rows r hr).len;omega)
      have uy:=fO s.t key now (gW c);generalize bV s.t key now (gW c)=MT at *;rw[<-hZ.out.start,<-hZ.out.len];refine this.mono ?_;rintro e u' ⟨px,dx,rfl,h2,h3⟩;exact⟨px,dx,by rw[<-uy];rfl,h2,h3⟩)
     have hst:s1=if (bV s.t key now (gW c)).2≠0 then ⟨s.t,(eC s.e key 4).1,s.out++(eC s.e key 4).2⟩ else if 0<(Zv.aQ (bV s.t key now (gW c)).1 key k aF).2 then ⟨(Zv.aQ (bV s.t key now (gW c)).1 key k aF).1,(Zy.aQ s.e (lz c key t.gen (Zv.aQ (bV s.t key now (gW c)).1 key k aF).2 now) now).1,s.out++(Zy.aQ s.e (lz c key t.gen (Zv.aQ (bV s.t key now (gW c)).1 key k aF).2 now) now).2⟩ else ⟨(Zv.aQ (bV s.t key now (gW c)).1 key k aF).1,s.e,s.out⟩:=hst
     have uy:=(fO s.t key now (gW c)).trans hZ.out.start;generalize bV s.t key now (gW c)=MT at *;have HY:=hid (fun u (hu:Below wr.heap.size wr u)=>show Below wr.heap.size wr u/\u.cell? ⟨gu,3,none⟩=some (.int .i64 t.table.start)/\u.cell? ⟨gu,4,none⟩=some (.slice p' n (d'+n))/\u.cell? ⟨bl,ol+j*2,none⟩=some (.int .i64 key)/\u.cell? ⟨v,0,none⟩=some (.int .i64 c.n)/\u.cell? ⟨v,1,none⟩=some (.int .i64 c.sk)/\u.cell? ⟨v,2,none⟩=some (.int .i64 c.tl)/\u.cell? ⟨v,3,none⟩=some (.int .i64 c.va)/\u.cell? ⟨v,4,none⟩=some (.int .i64 c.lo)/\u.cell? ⟨v,5,none⟩=some (.int .i64 c.he)/\u.cell? ⟨v,6,none⟩=some (.int .i64 c.ke)/\u.cell? ⟨v,7,none⟩=some (.int .i64 c.qu)/\u.cell? ⟨v,8,none⟩=some (.slice pf c.zs.length kf) from
      ⟨hu,af x3 hu,af x4 hu,af hc0 hu,af y0 hu,af y1 hu,af y2 hu,af y3 hu,af y4 hu,af y5 hu,af y6 hu,af y7 hu,af y8 hu⟩)
     have z0:=HY.out _ (Below.refl wr.heap.size wr).drew;have Pu:=hid (And.intro hc0 hc1);clear x0 x1 x2 x3 x4 y0 y1 y2 y3 y4 y5 y6 y7 y8 hc0 hc1;go_upto_region 11 with (fail)
     go_cut [16,17] (fun a f wx=>f=.int .i64 MT.2/\Km wr wx a t.table.start MT.1.rows.length MT.1.rows)
     case first =>
      go_region_held3 (fun u=>Below wr.heap.size wr u/\u.cell? ⟨gu,3,none⟩=some (.int .i64 t.table.start)/\u.cell? ⟨gu,4,none⟩=some (.slice p' n (d'+n))/\u.cell? ⟨bl,ol+j*2,none⟩=some (.int .i64 key)/\u.cell? ⟨v,0,none⟩=some (.int .i64 c.n)/\u.cell? ⟨v,1,none⟩=some (.int .i64 c.sk)/\u.cell? ⟨v,2,none⟩=some (.int .i64 c.tl)/\u.cell? ⟨v,3,none⟩=some (.int .i64 c.va)/\u.cell? ⟨v,4,none⟩=some (.int .i64 c.lo)/\u.cell? ⟨v,5,none⟩=some (.int .i64 c.he)/\u.cell? ⟨v,6,none⟩=some (.int .i64 c.ke)/\u.cell? ⟨v,7,none⟩=some (.int .i64 c.qu)/\u.cell? ⟨v,8,none⟩=some (.slice pf c.zs.length kf))
       (first | with_reducible assumption | ((with_reducible refine HY.out _ ?_);first | with_reducible exact aO.out | with_reducible exact iy wr _ | with_reducible exact yU aO.out _ | with_reducible exact yV aO.out _ _)) (first
       |(go_at_call 62;(with_reducible refine(Ix.out _ (iy wr _)).mono ?_);rintro x u1 ⟨px,dx,rfl,hr1,hb1⟩;have uz:=hid hr1;have fD:=hid hb1;obtain⟨e0,e1,f0,f1⟩:=iN hb1;have aO:=hid ((iy wr _).trans (hb1.mono (iy wr _).size));clear hr1 hb1)
       |(go_at_call 62;(with_reducible refine(Ix.out _ (Below.refl wr.heap.size wr).drew).mono ?_);rintro x u1 ⟨px,dx,rfl,hr1,hb1⟩;have uz:=hid hr1;have aO:=hid (kQ hb1);clear hr1 hb1))
      all_goals (go_wp2_with (fail))
      all_goals go_meet
      all_goals first | exact⟨rfl,Aq aO.out uz.out⟩ | exact⟨rfl,Ar fD.out uz.out⟩
     case rest =>
      obtain⟨rfl,gx,px,dx,rfl,gH,hgx,N1,lQ⟩:=hcut;have CY:=hid (hZ.out.on eF.out lQ);have FI:=hid (And.intro (af Pu.out.1 lQ) (af Pu.out.2 lQ));obtain⟨hL2,hQ2,hD2⟩:=hkj.lens hq (by omega)
      have Vc:=Nat.le_trans eF.out CY.out.step.size;have Vi:=hid Vc;clear Ix HY z0 Pu hZ hgx;by_cases Ax:MT.2≠0
      ·rw [if_pos Ax] at hst
       have YU:=hid (Zy.Ci CY.out.step.ed Vc (by omega) key 4)
       have xy:=pT s.e key 4;generalize eC s.e key 4=RF at *;have z0:=FI.out.1;go_wp2_with (first
        |(go_at_call 63;(with_reducible refine YU.out.mono ?_);rintro x u3 ⟨y3,rfl,N3,hs3⟩;have YQ:=hid N3;have qZ:=hid (CY.out.CW HA.out hs3);clear N3 hs3)
        |(at_builtin;refine Qq rfl (.tmp 69) (.tmp 76) rfl C _ rfl s.out qZ.out.out qZ.out.size _ rfl RF.2 YQ.out (by omega) ?_;intro YV w4 ho4 hk4 hb4 Wx;have Vj:=hid (qZ.out.Qq HA.out eF.out hkj.en ho4.out hk4 hb4 Wx);clear ho4 hk4 hb4 Wx))
       refine⟨⟨j+1,p',n,d',by omega,by simp,?_⟩,by simp only[intOf];omega⟩
       rw[<-Ej.out,hst];exact Vj
      ·rw [if_neg Ax] at hst
       have WM:=(jg MT.1 key (k:Int) aF).trans uy;have Kw:=sM QK xL (k:Int) aF;have FJ:Hid (∀u,ar u px MT.1.rows->Calls prog 64 #[.agg #[.int .i64 t.table.start,.slice px MT.1.rows.length (dx+MT.1.rows.length)],.int .i64 key,.int .i64 (k:Int),.int .i64 aF] u fun e u'=>∃p2 d2,e=.returned (.tuple #[.agg #[.int .i64 t.table.start,.slice p2 (Zv.aQ MT.1 key k aF).1.rows.length (d2+(Zv.aQ MT.1 key k aF).1.rows.length)],.int .i64 (Zv.aQ MT.1 key k aF).2])/\ar u' p2 (Zv.aQ MT.1 key k aF).1.rows/\Below u.heap.size u u'):=hid (fun u hu=>by
        have:=Zv.Cw QK.dJ (by omega) px dx xL (k:Int) aF u hu
        generalize Zv.aQ MT.1 key k aF=GR at *;rw[<-uy];refine this.mono ?_;rintro e u' ⟨p2,d2,rfl,h2,h3⟩;exact⟨p2,d2,by rw[uy,<-WM];rfl,h2,h3⟩)
       have UY:=Zv.Fm QK xL (k:Int) aF;generalize Zv.aQ MT.1 key k aF=GR at *;have Vd:=hid (fun u (hu:Below wc.heap.size wc u)=>show Below wc.heap.size wc u/\u.cell? ⟨gx,0,none⟩=some (.int .i64 t.table.start)/\u.cell? ⟨gx,1,none⟩=some (.slice px MT.1.rows.length (dx+MT.1.rows.length))/\u.cell? ⟨bl,ol+j*2,none⟩=some (.int .i64 key)/\u.cell? ⟨bl,ol+j*2+1,none⟩=some (.int .i64 aF) from
        ⟨hu,af (by rw[cell_of_row _ gx _ _ _ (0,0) gH];rfl) hu,af (by rw[cell_of_row _ gx _ _ _ (0,0) gH];rfl) hu,af FI.out.1 hu,af FI.out.2 hu⟩)
       have Ve:=hid (fun u (hu:Below wc.heap.size wc u)=>N1.below hu)
       have z5:=Vd.out _ (Below.refl wc.heap.size wc).drew;clear gH N1;go_upto_region 14 with (fail)
       go_cut [18,19] (fun a f wx=>f=.int .i64 GR.2/\Km wc wx a t.table.start GR.1.rows.length GR.1.rows)
       case first =>
        go_region_held3 (fun u=>Below wc.heap.size wc u/\u.cell? ⟨gx,0,none⟩=some (.int .i64 t.table.start)/\u.cell? ⟨gx,1,none⟩=some (.slice px MT.1.rows.length (dx+MT.1.rows.length))/\u.cell? ⟨bl,ol+j*2,none⟩=some (.int .i64 key)/\u.cell? ⟨bl,ol+j*2+1,none⟩=some (.int .i64 aF))
         (first | with_reducible assumption | ((with_reducible refine Vd.out _ ?_);first | with_reducible exact aO.out | with_reducible exact iy wc _ | with_reducible exact yU aO.out _ | with_reducible exact yV aO.out _ _)) (first
        |(go_at_call 64;(with_reducible refine(FJ.out _ (Ve.out _ (iy wc _))).mono ?_);rintro x u1 ⟨py,dy,rfl,hr1,hb1⟩;have uz:=hid hr1;have fD:=hid hb1;obtain⟨e0,e1,f0,f1⟩:=iN hb1;have aO:=hid ((iy wc _).trans (hb1.mono (iy wc _).size));clear hr1 hb1)
        |(go_at_call 64;(with_reducible refine(FJ.out _ (Ve.out _ (Below.refl wc.heap.size wc).drew)).mono ?_);rintro x u1 ⟨py,dy,rfl,hr1,hb1⟩;have uz:=hid hr1;have aO:=hid (kQ hb1);clear hr1 hb1))
        all_goals (go_wp2_with (fail))
        all_goals go_meet
        all_goals first | exact⟨rfl,Aq aO.out uz.out⟩ | exact⟨rfl,Ar fD.out uz.out⟩
       case rest =>
        obtain⟨rfl,gy,py,dy,rfl,hby,hgy,hry,Wv⟩:=hcut;have Kn:=hid (CY.out.on eF.out Wv);obtain⟨x0,x1,x2,x3,x4,ff⟩:=bz Kn.out.box;have y0:wc.cell? ⟨gy,0,none⟩=_:=cell_of_row _ gy 0 _ _ (0,0) hby;have y1:wc.cell? ⟨gy,1,none⟩=_:=cell_of_row _ gy 1 _ _ (0,0) hby;have HC3:=hid (And.intro (af FI.out.1 Wv) (af FI.out.2 Wv));have PG:=hid (Kn.out.store HA.out eF.out (d':=dy) hry WM);clear FJ Vd Ve z5 FI CY;by_cases C1:0<GR.2
        ·rw [if_pos C1] at hst
         have U4:=NU (c:=c) (now:=now) xL hg Kw;have xj:=gC Kn.out.box (.slice py GR.1.rows.length (dy+GR.1.rows.length)) HC3.out.1;have hk2:=(bz PG.out.box).1;obtain⟨pf2,kf2,-,-,-,t2,-⟩:=PG.out.step.ed.dW;have hBd:=Nat.le_trans eF.out PG.out.step.size;have HEG:Hid (∀u,Below ((wc.setCell ⟨gu,3,none⟩ (.int .i64 t.table.start)).setCell ⟨gu,4,none⟩ (.slice py GR.1.rows.length (dy+GR.1.rows.length))).heap.size ((wc.setCell ⟨gu,3,none⟩ (.int .i64 t.table.start)).setCell ⟨gu,4,none⟩ (.slice py GR.1.rows.length (dy+GR.1.rows.length))) u->Calls prog 65 #[.pointer (some ⟨v,0,none⟩),.agg #[.int .i64 key,.int .i64 t.gen,.int .i64 GR.2,.int .i64 0,.int .i64 (Zr.add [now,c.tl])],.int .i64 now] u fun x w'=>∃y,x=.returned y/\Zy.jt w' y (Zy.aQ s.e (lz c key t.gen GR.2 now) now).2/\aM B ((wc.setCell ⟨gu,3,none⟩ (.int .i64 t.table.start)).setCell ⟨gu,4,none⟩ (.slice py GR.1.rows.length (dy+GR.1.rows.length))) v c (Zy.aQ s.e (lz c key t.gen GR.2 now) now).1 w'):=hid (fun u hu=>by
          refine(Zy.E9 (PG.out.step.ed.below hBd hu) (Nat.le_trans hBd hu.size) hkj.ie (by refine⟨?_,?_,?_⟩ <;>simp only <;>omega) (lz c key t.gen GR.2 now) U4 now).mono ?_
          rintro x w' ⟨y,h1,h2,h3⟩;exact⟨y,h1,h2,(aM.same PG.out.step.ed hBd hu).trans h3⟩)
         have hgf:=sS s.e (lz c key t.gen GR.2 now) now;generalize Zy.aQ s.e (lz c key t.gen GR.2 now) now=G at *;have RQ:=hid (fun u=>Zr.eP now c.tl u)
         go_upto_region 17 with (fail)
         generalize(wc.setCell ⟨gu,3,none⟩ (.int .i64 t.table.start)).setCell ⟨gu,4,none⟩ (.slice py GR.1.rows.length (dy+GR.1.rows.length))=wd at *;clear x0 x1 x2 x3 x4 ff y0 y1;have HYD:=hid (fun u (hu:Below wd.heap.size wd u)=>show u.cell? ⟨bl,ol+j*2,none⟩=some (.int .i64 key)/\u.cell? ⟨gu,0,none⟩=some (.int .i64 t.gen)/\u.cell? ⟨v,2,none⟩=some (.int .i64 c.tl) from⟨af xj hu,af hk2 hu,af t2 hu⟩)
         have z5:=HYD.out _ (Below.refl wd.heap.size wd).drew;have rN:=hid (And.intro xj (And.intro hk2 t2));have abw:=hid hbl;clear xj hk2 t2;go_region_held_law (fun u=>u.cell? ⟨bl,ol+j*2,none⟩=some (.int .i64 key)/\u.cell? ⟨gu,0,none⟩=some (.int .i64 t.gen)/\u.cell? ⟨v,2,none⟩=some (.int .i64 c.tl))
          (first | with_reducible assumption) (first
          |(go_at_call 50;(with_reducible refine(RQ.out _).mono ?_);rintro x u ⟨rfl,rfl⟩)
          |(go_at_call 65;(with_reducible refine(HEG.out _ (Below.refl wd.heap.size wd).drew).mono ?_);rintro x u5 ⟨y5,rfl,ht5,hs5⟩;have Wz:=hid ht5;have HZ5:=hid (PG.out.CW HA.out hs5);have z6:=And.intro (cD PG.out.step.ed hs5 rN.out.1) (And.intro (cD PG.out.step.ed hs5 rN.out.2.1) (cD PG.out.step.ed hs5 rN.out.2.2));have Kr:=hid z6;clear ht5 hs5)
          |(refine JS rfl (.tmp 98) (.tmp 117) rfl C _ rfl s.out HZ5.out.out HZ5.out.size _ rfl G.2 Wz.out (by omega) ?_;intro vo6 w6 ho6 Ay uH BO;have HZ6:=hid (HZ5.out.Qq HA.out eF.out UY ho6.out Ay uH BO);have z7:=And.intro ((uH.cell (p:=⟨bl,ol+j*2,none⟩) abw.out).trans Kr.out.1) (And.intro ((uH.cell (p:=⟨gu,0,none⟩) HA.out.hi).trans Kr.out.2.1) ((uH.cell (p:=⟨v,2,none⟩) (by have:=HA.out.v;have:=HA.out.gG;show v<C;omega)).trans Kr.out.2.2));clear ho6 Ay uH BO))
         all_goals (go_wp2_with (fail))
         all_goals (refine⟨⟨j+1,py,GR.1.rows.length,dy,by omega,by simp,?_⟩,by simp only[intOf];omega⟩)
         all_goals (rw[<-Ej.out,hst])
         all_goals exact HZ6
        ·rw [if_neg C1] at hst
         have adz:GR.2<=0:=by omega
         go_wp2_with (fail)
         refine⟨⟨j+1,py,GR.1.rows.length,dy,by omega,by simp,?_⟩,by simp only[intOf];omega⟩
         rw[<-Ej.out,hst];exact PG
    ·have bE:¬(j:Int)<(l.length:Int):=by omega
     have Qd:j=l.length:=by omega
     subst Qd;rw[FB.out] at hZ hkj;clear FH Bj FB PF uR;generalize mK c k t.gen now l ⟨S.1,S.2,[]⟩=s at *;obtain⟨z0,z1,z2,z3,z4,-⟩:=bz hZ.out.box;obtain⟨q0,q1,q2,q3,q4,gg⟩:=bz hZ.out.gG;go_wp2_with (fail)
     refine bodyPost_ret (v:=.tuple #[.agg #[.int .i64 t.gen,.int .i64 t.bP,.slice gF st.length cs1,.int .i64 t.table.start,.slice p' n (d'+n)],u13]) (by simp[results,results17,go_sem,q0,q1,q2,q3,q4,N2]) rfl ?_
     rw[HRE.out];rw[<-N2];have Hw:=gm (u:=wr) (g:=w.heap.size+1) (C:=w.heap.size) (by omega) (.int .i64 t.gen) (.int .i64 t.bP) (.slice gF st.length cs1) (.int .i64 t.table.start) (.slice p' n (d'+n))
     have Bn:∀b,b≠w.heap.size+1->_:=fun b hb=>dH (u:=wr) (g:=w.heap.size+1) (b:=b) hb (.int .i64 t.gen) (.int .i64 t.bP) (.slice gF st.length cs1) (.int .i64 t.table.start) (.slice p' n (d'+n))
     refine⟨gF,cs1,p',d',u13,?_,?_,?_,?_,?_⟩
     ·simp only
      rw[hZ.out.len,hZ.out.start]
     ·exact C0 Bn (fun a e=>by have:=MH a e;omega) hZ.out.stamps.rest
     ·exact yX hZ.out.gG Bn (fun r hr x hx=>((hkj.en.dJ.rows r hr).out x hx).2.1) hZ.out.rows
     ·exact (hZ.out.out.bM fun g hg _=>Bn g (by have:=HA.out.gG;omega)).jf
     ·exact nK hZ.out.step eF.out (nL hZ.out.gG Hw.size Bn) Hw
  ·have WG:Zo.fW st now c.va=false:=by simpa using hval
   have hR:=HRR.out;rw[if_neg hval] at hR;go_wp2_with (fail)
   refine bodyPost_ret (v:=.tuple #[.agg #[.int .i64 t.gen,.int .i64 t.bP,.slice gF t.stamps.length cs1,.int .i64 t.table.start,.slice p t.table.rows.length (d+t.table.rows.length)],.slice none 0 0]) (by simp[results,results17,go_sem,q0,q1,q2,q3,q4]) rfl ?_
   rw[hR];have Hw:=gm (u:=wc) (g:=w.heap.size+1) (C:=w.heap.size) (by omega) (.int .i64 t.gen) (.int .i64 t.bP) (.slice gF t.stamps.length cs1) (.int .i64 t.table.start) (.slice p t.table.rows.length (d+t.table.rows.length))
   have Bn:∀b,b≠w.heap.size+1->_:=fun b hb=>dH (u:=wc) (g:=w.heap.size+1) (b:=b) hb (.int .i64 t.gen) (.int .i64 t.bP) (.slice gF t.stamps.length cs1) (.int .i64 t.table.start) (.slice p t.table.rows.length (d+t.table.rows.length))
   refine⟨gF,cs1,p,d,_,?_,?_,?_,Zy.oI _,?_⟩
   ·simp only
    rw[N2]
   ·exact C0 Bn (fun a e=>by have:=MH a e;omega) Vg.out
   ·exact HR.out.below (cH.out.trans Hw)
   ·exact aM.same HH.out eF.out (cH.out.trans Hw)
open Zx (Rw Tb Tk aq)
open Zv (dK ar cI)
open Zq (cX ae)
open Zy (Cf Eg An Ed aM bD fh eo iK)
open Zo (aS)
theorem eN {S:Nat->Prop}{w:World}{p:Option Addr}{l:List Rw}(h:Zv.cz S w p l):ar w p l:=Zv.cz.rest h
theorem nM {B:Nat}{w u:World}{p:Option Addr}{zs:List (Int×Int)}(h:bD B w p zs)(hB:B<=u.heap.size)(hb:Below B w u):bD u.heap.size u p zs:=by
 rcases h.on hb with h | ⟨b,o,e,aC,hc⟩
 ·exact .inl h
 ·exact .inr ⟨b,o,e,Nat.lt_of_lt_of_le aC hB,hc⟩
theorem N4 {PW:yS}(P:tU PW){W u:World}{R:Nat->Prop}{q v m:Nat}{c:Cf}{E:Eg}{t:Tk}{ps pt:Option Addr}(h:eR PW W R q v c E E t ps pt u)(hI:uJ c m ⟨t,E⟩)(hm:m<=660){now:Int}(hn:bC now)(hc:fh c)(hz:c.zs.length<=60){pf:Option Addr}(hr:bD W.heap.size W pf c.zs)(kf cs d:Nat) :
 Calls prog 15 #[aS t ps cs pt (d+t.table.rows.length),.pointer (some ⟨q,0,none⟩),.int .i64 0,.int .i64 now,c.val pf kf] u fun x w'=>∃ix cs' Az d' y R',x=.returned (.tuple #[aS (dw c ⟨t,E⟩ now).1.t ix cs' Az (d'+(dw c ⟨t,E⟩ now).1.t.table.rows.length),y,.int .i64 (if right c t 0 now=true then 0 else 1)])/\eo w' y (dw c ⟨t,E⟩ now).2/\(∀g,R g->R' g)/\eR PW W R' q v c (dw c ⟨t,E⟩ now).1.e E (dw c ⟨t,E⟩ now).1.t ix Az w'/\dZ R' w' t ps pt/\(∀g,R g->iK u g->g<u.heap.size->w'.heap[g]? =u.heap[g]?):=by
 unfold dw;have hru:=nM hr h.below.size h.below;cases hR:right c t 0 now with
 | true =>
   rw[if_pos rfl,if_pos rfl];obtain⟨h1,-⟩:=nH hR;rcases hI.xI with hk | ⟨h2,-⟩
   ·refine (P.visit 0 now t m ps cs pt d pf kf h.pw h.below.size hk hm hR (by simp[bC]) hn hc hz h.mV (hr.on h.below)).mono ?_
    rintro x w' ⟨ix,cs',Az,d',y,R',hx,hy,ht,hs,hp,Mh⟩;exact⟨ix,cs',Az,d',y,R',hx,hy,hs,h.visit hp Mh ht,(h.mV.iw Mh).on (fun b hb _=>hs b hb) fun _ _ _ _=>rfl,Mh.bM⟩
   ·rw [h1] at h2
    simp at h2
 | false =>
   rw[if_neg (by simp),if_neg (by simp)]
   refine(P.uN 0 now t (some ⟨q,0,none⟩) ps cs pt d c pf kf u (.inr hR) hI.Bk hc hz h.mV.stamps.rest (eN h.mV.rows) hru).mono ?_;rintro x w' ⟨ix,cs',Az,d',y,hx,hy,hk,hb⟩;exact⟨ix,cs',Az,d',y,fun g=>R g∨dz w' g,hx,hy,fun _ h=>.inl h,⟨P.fr.Sd (P.fr.below h.pw hb),h.ed.below h.below.size hb,hk.on (fun _ h _=>.inr h) (fun _ _ _ _=>rfl),h.below.trans (hb.mono h.below.size)⟩,(h.mV.below hb).on (fun _ h _=>.inl h) (fun _ _ _ _=>rfl),fun g _ _ hg=>hb.block g hg⟩
theorem N5 {B:Nat}{u:World}{v m:Nat}{c:Cf}{E:Eg}{t:Tk}{ps pt:Option Addr}(he:Ed B u v c E)(hB:B<=u.heap.size)(hst:cX u ps t.stamps)(Ky:ar u pt t.table.rows)(hI:uJ c m ⟨t,E⟩)(hm:m<=660){now:Int}(_:bC now)(hq:c.qu<=16)(hk:c.ke<=16)(hR:right c t 0 now=true)(cs d:Nat) :
 Calls prog 17 #[aS t ps cs pt (d+t.table.rows.length),.pointer (some ⟨v,0,none⟩),.int .i64 0,.int .i64 now] u fun x w'=>∃ix cs' Az d' y,x=.returned (.tuple #[aS (dw c ⟨t,E⟩ now).1.t ix cs' Az (d'+(dw c ⟨t,E⟩ now).1.t.table.rows.length),y])/\cX w' ix (dw c ⟨t,E⟩ now).1.t.stamps/\ar w' Az (dw c ⟨t,E⟩ now).1.t.table.rows/\Zy.jt w' y (dw c ⟨t,E⟩ now).2/\aM B u v c (dw c ⟨t,E⟩ now).1.e w':=by
 unfold dw;rw[if_pos hR];obtain⟨h1,h2,h3,h4,h5,h6,h7⟩:=nH hR;rcases hI.xI with gL | ⟨h8,-⟩
 ·exact FD (k:=0) he hB hq hk t gL hm (uM h1) hI.Bk.stamps (by simp only at *;omega) ps cs pt d now h6 (by omega) hst Ky
 ·rw [h1] at h8
  simp at h8
end Zn
end Go.Proofs.YtbgdlokegibkmaaGreat
