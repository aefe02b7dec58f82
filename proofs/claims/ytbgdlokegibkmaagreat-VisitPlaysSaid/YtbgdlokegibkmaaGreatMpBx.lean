/-
  A part of the proof of VisitPlays.
-/
import Derived.Test.YtbgdlokegibkmaaGreatMpBi
import Derived.Test.YtbgdlokegibkmaaGreatMpBn
import Derived.Test.YtbgdlokegibkmaaGreatMpBw
set_option maxRecDepth 100000
set_option maxHeartbeats 8000000
namespace Go.Proofs.YtbgdlokegibkmaaGreat
open Go.RowKit
open Tryz
open Lib (hid)
namespace Zn
open Zx (Rw Tb Tk aq ak af cG bn lg jB my lZ)
open Zv (dK ar bq cI bV held bN gD)
open Zq (cX ae aj ai)
open Zp (aL bS fN)
open Zy (Cf Eg An Ed aM bD fh eo iK eW In gB dL bB drop eC)
open Zo (aS bz cK mA rz)
open Zw (bC)
theorem Hl {e:Eg}{key gen:Int}(h:∀x∈e.D,bC x.key)(hk:bC key):∀x∈(bB e key gen).1.D,bC x.key:=by
 intro x hx;unfold bB at hx;simp only at hx;split at hx
 ·rcases List.mem_append.1 hx with hx | hx
  ·exact h x hx
  ·rw [List.mem_singleton.1 hx];exact hk
 ·exact h x hx
theorem D8 {c:Cf}{node gen now:Int}:∀(l:List Int)(s:Tb×Eg),(∀k∈l,bC k)->(∀x∈s.2.D,bC x.key)->∀x∈(mJ c node gen now l s).2.D,bC x.key
 | [],_,_,h=>h
 | k :: l,s,hk,h=>D8 l (Sb c node gen now s k) (fun x hx=>hk x (List.mem_cons_of_mem _ hx)) (Hl h (hk k List.mem_cons_self))
theorem Bd {c:Cf}{node gen now:Int}{t:Tb}{e:Eg}(hr:cI 0 t)(h:∀x∈e.D,bC x.key):∀x∈(aP c node gen now t e).2.D,bC x.key:=D8 (held t node) (t,e) (qX hr node) h
theorem Ye (c:Cf)(node gen now:Int)(s:Gs)(w:Int×Int):(CM c node gen now s w).e.D=s.e.D:=by
 unfold CM;split
 ·rfl
 ·split
  ·exact Iv _ _ _
  ·rfl
theorem SQ (c:Cf)(node gen now:Int):∀(l:List (Int×Int))(s:Gs),(mK c node gen now l s).e.D=s.e.D
 | [],_=>rfl
 | w :: l,s=>(SQ c node gen now l (CM c node gen now s w)).trans (Ye c node gen now s w)
theorem LY {C:Nat}{u:World}{v:Value}{l:List An}(h:gA C u v l):eo u v l:=by
 obtain⟨p,c,e,h1,h3⟩:=h.jf;refine⟨p,c,e,h1,fun a ha=> ?_,h3⟩
 subst ha;rcases h with ⟨h,-⟩ | ⟨g,cap,h,-,-,-,h4⟩
 ·rw [h] at e;simp at e
 ·rw [h] at e
  simp only[Value.slice.injEq,Option.some.injEq] at e;rw[<-e.1];exact⟨_,_,h4⟩
theorem SX {R:Nat->Prop}{w u1:World}{gr:Nat}{cs:Array Value}{z:Nat×Nat}(Df:∀g,R g->g<w.heap.size)(hgr:w.heap.size<=gr)(hb:u1.heap[gr]? =some (.cells cs 30 z)):∀b,(R b∨dz u1 b)->b≠gr:=by
 rintro b (h | h) rfl
 ·have:=Df b h
  omega
 ·exact jM hb (by decide) h
theorem zD {u:World}{g:Nat}{cs:Array Value}{z:Nat×Nat}(hb:u.heap[g]? =some (.cells cs 30 z))(v0 v1 v2 v3 v4:Value):bS mr u (((((u.setCell ⟨g,0,none⟩ v0).setCell ⟨g,1,none⟩ v1).setCell ⟨g,2,none⟩ v2).setCell ⟨g,3,none⟩ v3).setCell ⟨g,4,none⟩ v4) :=
 ⟨by simp,fun b o ho ht=>(dH (b:=b) (by rintro rfl;rw[hb] at ho;exact ht _ _ _ (Option.some.inj ho).symm (by decide)) v0 v1 v2 v3 v4).trans ho⟩
theorem zE {R R':Nat->Prop}{B:Nat}{w u:World}{q:Nat}{c:Cf}{e':Eg}{g:Nat}{cs:Array Value}{z:Nat×Nat}(hp:Pf R' B u q c e')(Df:∀g,R g->g<w.heap.size)(hR:∀b,R b->R' b)(ho:fN Zy.eV w u)(hb:Below B w u)(hk:∀b,R b->iK w b->b<w.heap.size->u.heap[b]? =w.heap[b]?)(hg:u.heap[g]? =some (.cells cs 30 z))(hwg:w.heap.size<=g)(hB:B<=w.heap.size)(v0 v1 v2 v3 v4:Value) :
 Pf R' B (((((u.setCell ⟨g,0,none⟩ v0).setCell ⟨g,1,none⟩ v1).setCell ⟨g,2,none⟩ v2).setCell ⟨g,3,none⟩ v3).setCell ⟨g,4,none⟩ v4) q c e'/\gP Pf R B w q c e' (((((u.setCell ⟨g,0,none⟩ v0).setCell ⟨g,1,none⟩ v1).setCell ⟨g,2,none⟩ v2).setCell ⟨g,3,none⟩ v3).setCell ⟨g,4,none⟩ v4):=by
 have hkf:=zD hg v0 v1 v2 v3 v4;have h1:Pf R' B (((((u.setCell ⟨g,0,none⟩ v0).setCell ⟨g,1,none⟩ v1).setCell ⟨g,2,none⟩ v2).setCell ⟨g,3,none⟩ v3).setCell ⟨g,4,none⟩ v4) q c e':=by
  obtain⟨h0,y,qw,qq,qd,h⟩:=hp;exact⟨h0,y,qw,qq,qd,uU h hkf⟩
 refine⟨h1,Rc.sub h1 hR,ho.trans (nL hg hkf.size fun b hb=>dH hb _ _ _ _ _),hb.trans (gm (Nat.le_trans hB hwg) _ _ _ _ _),fun b hb1 hn hl=>(dH (b:=b) (by have:=Df b hb1;omega) _ _ _ _ _).trans (hk b hb1 hn hl)⟩
theorem gP.drew {R:Nat->Prop}{B:Nat}{w u:World}{q:Nat}{c:Cf}{e':Eg}(h:gP Pf R B w q c e' u):gP Pf R B w q c e' u.drew :=
 ⟨Rc.below h.pw (Below.refl _ _).drew,h.off.trans (Zp.fN.cw (Below.refl u.heap.size u).drew),h.below.drew,h.bM⟩
theorem Pn (P:Zu.jz Zu.Pq){R:Nat->Prop}{B:Nat}{w:World}{q:Nat}{c:Cf}{e:Eg}(node now:Int)(t:Tk)(m:Nat)(ps:Option Addr)(cs:Nat)(p:Option Addr)(d:Nat)(pf:Option Addr)(cf:Nat)(hpf:Pf R B w q c e)(hB:B<=w.heap.size)(gL:fE c node m t.table e)(hm:m<=660)(hR:right c t node now=true)(hn:bC now)(hz:c.zs.length<=60)(C5:dZ R w t ps p)(hr:bD B w pf c.zs) :
 Calls prog 15 #[aS t ps cs p (d+t.table.rows.length),.pointer (some ⟨q,0,none⟩),.int .i64 node,.int .i64 now,c.val pf cf] w fun x w'=>∃ix cs' p' d' y R',x=.returned (.tuple #[aS (visit c node now t e).1 ix cs' p' (d'+(visit c node now t e).1.table.rows.length),y,.int .i64 0])/\eo w' y (visit c node now t e).2.2/\dZ R' w' (visit c node now t e).1 ix p'/\(∀g,R g->R' g)/\Pf R' B w' q c (visit c node now t e).2.1/\gP Pf R B w q c (visit c node now t e).2.1 w':=by
 obtain⟨r1,r2,r3,r4,r5,r6,r7⟩:=nH hR;obtain⟨⟨⟨q0,q16⟩,hD,hRq⟩,y,qw,qq,qd,Bp⟩:=hpf;have Bt:=(Dl r2).2;have Kw:=uM r1;have Sa:=Zv.iu gL.en;have ag6:t.stamps.length<=64:=by
  simp only[bn,Zx.lj,Zx.cy,Bool.and_eq_true,decide_eq_true_eq] at r1;omega
 have h3:∀r∈t.table.rows,r.out.length<=1000:=fun r hr=>by have:=(gL.en.dJ.rows r hr).len;omega
 obtain⟨st,hs1,hs2⟩:∃st:List Int,cK t node now=(⟨t.gen,t.bP,st,t.table⟩,0)/\st.length=t.stamps.length:=by
  rcases uq t node now with ⟨-,h⟩ | ⟨h,-⟩
  ·exact absurd ⟨r4,by omega,r6,r7⟩ h
  ·exact ⟨_,h,by simp⟩
 have HST:=hid (fun(u:World) (hu:Below w.heap.size w u)=>mA t ps cs p (d+t.table.rows.length) node now u (by omega) (by omega) h3 (C5.stamps.rest.below hu) ((eN C5.rows).below hu).frame)
 have AB:=hid (fun(u:World) (hu:Below w.heap.size w u)=>lZ t ps p cs (d+t.table.rows.length) u (by omega) (C5.stamps.rest.below hu) ((eN C5.rows).below hu).frame (fun r hr=>by have:=h3 r hr;omega))
 have Vv:=hid (fun(u:World) (hu:Below w.heap.size w u)=>Zm.sx c.n c.sk c.tl c.va c.lo c.he c.ke c.qu pf c.zs cf u (by omega) (hr.on (hu.mono hB)).aH)
 have EG:Zm.bI c.n c.sk c.tl c.va c.lo c.he c.ke c.qu c.zs=0:=r2;have mR:=hid (fun(u:World) gF cs1 p1 c1 (hi:cX u gF st)=>Zo.GL ⟨t.gen,t.bP,st,t.table⟩ gF cs1 p1 c1 now c.va u (by simp only;omega) hi)
 have hVS:visit c node now t e=if Zo.fW st now c.va=true then (⟨t.gen,t.bP,st,(mK c node t.gen now (dL c (aP c node t.gen now t.table e).2) ⟨(aP c node t.gen now t.table e).1,(aP c node t.gen now t.table e).2,[]⟩).t⟩,(mK c node t.gen now (dL c (aP c node t.gen now t.table e).2) ⟨(aP c node t.gen now t.table e).1,(aP c node t.gen now t.table e).2,[]⟩).e,(mK c node t.gen now (dL c (aP c node t.gen now t.table e).2) ⟨(aP c node t.gen now t.table e).1,(aP c node t.gen now t.table e).2,[]⟩).out) else (⟨t.gen,t.bP,st,t.table⟩,e,[]):=by
  unfold visit;rw[hs1]
 have PI:=hid hVS;have aT:((t.stamps.length:Int) != c.n)=false:=by simp[r3]
 rw[EG] at Vv;rw[r1] at AB;rw[hs1] at HST;clear EG hVS hs1 hR r4 r5;generalize visit c node now t e=V at *;simp only[aS,Cf.val] at *;rw[hs2] at mR;simp only[hs2] at HST;have M0:=hid (((((Zo.Mem.start w).box #[.int .i64 t.gen,.int .i64 t.bP,.slice ps t.stamps.length cs,.int .i64 t.table.start,.slice p t.table.rows.length (d+t.table.rows.length)] 30).box #[.int .i64 c.n,.int .i64 c.sk,.int .i64 c.tl,.int .i64 c.va,.int .i64 c.lo,.int .i64 c.he,.int .i64 c.ke,.int .i64 c.qu,.slice pf c.zs.length cf] 24).box #[.int .i64 0,.int .i64 0,.slice none 0 0,.int .i64 0,.slice none 0 0] 30));simp only[Zo.size_alloc] at M0;obtain⟨x0,x1,x2,x3,x4,-⟩:=bz (M0.out.boxes 2 _ _ _ rfl);have HIN:=hid Bp;have LZ:=hid Bp.low;have HTI:=hid C5;have HR:=hid hr;have ED:=hid gL;have HRQ:=hid hRq;have HD:=hid hD;have eF:=hid hB;have HP:=hid P;clear Bp C5 hr gL hRq hD hB h3 r1 P;go_enter func15,ntmps15
 go_upto_region 2 with (go_at_call 51;(with_reducible refine(HST.out _ M0.out.below).mono ?_);rintro x u1 ⟨gF,cs1,p1,c1,rfl,ho,hrk,⟨d1,rfl⟩,hb⟩;have aO:=hid hb;have tG:=hid ho;have kq:=hid hrk;clear hb ho hrk HST x0 x1 x2 x3 x4)
 have M1:=hid ((M0.out.on aO.out).box #[.int .i64 t.gen,.int .i64 t.bP,.slice gF t.stamps.length cs1,.int .i64 t.table.start,.slice p1 t.table.rows.length (d1+t.table.rows.length)] 30);have pz:=hid (cQ u1 (.cells #[.int .i64 t.gen,.int .i64 t.bP,.slice gF t.stamps.length cs1,.int .i64 t.table.start,.slice p1 t.table.rows.length (d1+t.table.rows.length)] 30));have cA:=hid (M0.out.below.trans (aO.out.mono M0.out.below.size));have FJ:=hid (show w.heap.size<=w.heap.size+1+1 by omega)
 have HGL:=hid (show w.heap.size+1+1<u1.heap.size from ae ((M0.out.on aO.out).boxes 0 _ _ _ rfl))
 clear M0 aO;generalize w.heap.size+1+1=gr at *;generalize w.heap.size+1=gc at *;generalize u1.alloc (.cells #[.int .i64 t.gen,.int .i64 t.bP,.slice gF t.stamps.length cs1,.int .i64 t.table.start,.slice p1 t.table.rows.length (d1+t.table.rows.length)] 30)=u2 at *
 -- jl token's ic blocks
 have HTO:=hid (show dZ (dz u1) u1 ⟨t.gen,t.bP,st,t.table⟩ gF p1 from⟨wS tG.out,wT kq.out.1 kq.out.2⟩)
 have tV:=hid (Dn (HIN.out.below cA.out));have HQ1:=hid (show ¬(R q∨dz u1 q) from fun h=>h.elim HRQ.out (jM (HIN.out.below cA.out).mW (by decide)))
 clear tG kq HTI HIN HRQ;obtain⟨x0,x1,x2,x3,x4,-⟩:=bz (M1.out.boxes 3 _ _ _ rfl);obtain⟨c0,c1,c2,c3,c4,c5,c6,c7,c8⟩:=Zv.aG (M1.out.boxes 2 _ _ _ rfl);obtain⟨v0,v1,v2,v3,v4,-⟩:=bz (M1.out.boxes 0 _ _ _ rfl);go_upto_region 4 with (first
  |(go_at_call 52;(with_reducible refine(AB.out _ M1.out.below).mono ?_);rintro x u3 ⟨rfl,hb⟩;have M2:=hid (M1.out.on hb);have Ek:=hid (pz.out.trans (hb.mono pz.out.size));clear hb x0 x1 x2 x3 x4 c0 c1 c2 c3 c4 c5 c6 c7 c8 v0 v1 v2 v3 v4;obtain⟨x0,x1,x2,x3,x4,-⟩:=bz (M2.out.boxes 3 _ _ _ rfl);obtain⟨c0,c1,c2,c3,c4,c5,c6,c7,c8⟩:=Zv.aG (M2.out.boxes 2 _ _ _ rfl))
  |(go_at_call 31;(with_reducible refine(Vv.out _ M2.out.below).mono ?_);rintro x u4 ⟨rfl,hb⟩;have M3:=hid (M2.out.on hb);have El:=hid (Ek.out.trans (hb.mono Ek.out.size));clear hb x0 x1 x2 x3 x4 c0 c1 c2 c3 c4 c5 c6 c7 c8))
 clear M1 M2 pz Ek AB Vv;obtain⟨v0,v1,v2,v3,v4,-⟩:=bz (M3.out.boxes 0 _ _ _ rfl);obtain⟨c0,c1,c2,c3,c4,c5,c6,c7,c8⟩:=Zv.aG (M3.out.boxes 2 _ _ _ rfl);have Yf:=hid (mR.out u4 gF cs1 p1 (d1+t.table.rows.length) (HTO.out.stamps.rest.below El.out));cases hval:Zo.fW st now c.va with
 | false =>
   rw[hval] at Yf;have hV:=PI.out;rw[if_neg (by simp[hval])] at hV
   subst hV;go_wp2_with (go_at_call 54;(with_reducible refine Yf.out.mono ?_);rintro x u5 ⟨rfl,hb⟩;have M4:=hid (M3.out.on hb);have Aw:=hid (El.out.trans (hb.mono El.out.size));clear hb v0 v1 v2 v3 v4 c0 c1 c2 c3 c4 c5 c6 c7 c8;obtain⟨v0,v1,v2,v3,v4,-⟩:=bz (M4.out.boxes 0 _ _ _ rfl);have Rn:=hid (M4.out.boxes 1 _ _ _ rfl);obtain⟨y0,y1,y2,y3,y4,gg⟩:=bz Rn.out;have f0:=gg 0;have f1:=gg 1;have f2:=gg 2;have f3:=gg 3;have f4:=gg 4;clear gg)
   refine bodyPost_ret (v:=.tuple #[.agg #[.int .i64 t.gen,.int .i64 t.bP,.slice gF t.stamps.length cs1,.int .i64 t.table.start,.slice p1 t.table.rows.length (d1+t.table.rows.length)],.slice none 0 0,.int .i64 0]) (by simp[results,results15,go_sem,y0,y1,y2,y3,y4]) rfl ?_
   have acs:=(Aw.out.block gr HGL.out).symm.trans Rn.out;have hne:=SX LZ.out FJ.out acs;have xD:=cA.out.trans (Aw.out.mono cA.out.size);have hp5:Pf (fun g=>R g∨dz u1 g) B u5 q c e:=⟨⟨⟨q0,q16⟩,HD.out,HQ1.out⟩,y,qw,qq,qd,tV.out.below Aw.out⟩
   obtain⟨e1,e2⟩:=zE (R:=R) hp5 LZ.out (fun _ h=>.inl h) (Zp.fN.cw xD) (xD.mono eF.out) (fun b _ _ hl=>xD.block b hl) Rn.out FJ.out eF.out (.int .i64 t.gen) (.int .i64 t.bP) (.slice gF t.stamps.length cs1) (.int .i64 t.table.start) (.slice p1 t.table.rows.length (d1+t.table.rows.length))
   refine⟨gF,cs1,p1,d1,_,rfl,gB _,fun g=>R g∨dz u1 g,?_,fun _ h=>.inl h,e1,e2⟩
   exact(HTO.out.on (S':=fun g=>R g∨dz u1 g) (w':=u5) (fun _ h _=>.inr h) fun b _ _ hl=>Aw.out.block b hl).on (fun _ h _=>h) fun b hb _ _=>dH (hne b hb) _ _ _ _ _
 | true =>
   rw[hval] at Yf;have hV:=PI.out;rw[if_pos hval] at hV;subst hV;go_upto_region 8 with (go_at_call 54;(with_reducible refine Yf.out.mono ?_);rintro x u5 ⟨rfl,hb⟩;have M4:=hid (M3.out.on hb);have Aw:=hid (El.out.trans (hb.mono El.out.size));clear hb v0 v1 v2 v3 v4 c0 c1 c2 c3 c4 c5 c6 c7 c8;obtain⟨v0,v1,v2,v3,v4,-⟩:=bz (M4.out.boxes 0 _ _ _ rfl);obtain⟨c0,c1,c2,c3,c4,c5,c6,c7,c8⟩:=Zv.aG (M4.out.boxes 2 _ _ _ rfl);have g1:=ae (M4.out.boxes 0 _ _ _ rfl);have g2:=ae (M4.out.boxes 2 _ _ _ rfl))
   have yF:=cQ u5 (.cells #[.slice none 0 0] 45);have Sk:=cQ (u5.alloc (.cells #[.slice none 0 0] 45)) (.cells #[.int .i64 t.gen,.int .i64 t.bP,.slice gF t.stamps.length cs1,.int .i64 t.table.start,.slice p1 t.table.rows.length (d1+t.table.rows.length),.pointer (some ⟨q,0,none⟩),.int .i64 node,.int .i64 now,.int .i64 c.n,.int .i64 c.sk,.int .i64 c.tl,.int .i64 c.va,.int .i64 c.lo,.int .i64 c.he,.int .i64 c.ke,.int .i64 c.qu,.slice pf c.zs.length cf] 118);have hug:=yF.trans (Sk.mono yF.size);have Uy:((u5.alloc (.cells #[.slice none 0 0] 45)).alloc (.cells #[.int .i64 t.gen,.int .i64 t.bP,.slice gF t.stamps.length cs1,.int .i64 t.table.start,.slice p1 t.table.rows.length (d1+t.table.rows.length),.pointer (some ⟨q,0,none⟩),.int .i64 node,.int .i64 now,.int .i64 c.n,.int .i64 c.sk,.int .i64 c.tl,.int .i64 c.va,.int .i64 c.lo,.int .i64 c.he,.int .i64 c.ke,.int .i64 c.qu,.slice pf c.zs.length cf] 118)).heap[u5.heap.size]? =some (.cells #[.slice none 0 0] 45 (0,0)):=(Sk.block _ (ae (heap_alloc_new u5 _))).trans (heap_alloc_new u5 _);have hgb:=heap_alloc_new (u5.alloc (.cells #[.slice none 0 0] 45)) (.cells #[.int .i64 t.gen,.int .i64 t.bP,.slice gF t.stamps.length cs1,.int .i64 t.table.start,.slice p1 t.table.rows.length (d1+t.table.rows.length),.pointer (some ⟨q,0,none⟩),.int .i64 node,.int .i64 now,.int .i64 c.n,.int .i64 c.sk,.int .i64 c.tl,.int .i64 c.va,.int .i64 c.lo,.int .i64 c.he,.int .i64 c.ke,.int .i64 c.qu,.slice pf c.zs.length cf] 118);rw[show (u5.alloc (.cells #[.slice none 0 0] 45)).heap.size=u5.heap.size+1 by simp] at hgb
   have VA:=hid hug;have PM:=hid Uy;have I2:=hid hgb;have jy:=hid (cA.out.trans (Aw.out.mono cA.out.size));have Rn:=hid ((hug.block _ (ae (M4.out.boxes 1 _ _ _ rfl))).trans (M4.out.boxes 1 _ _ _ rfl));have UR:=hid ((Aw.out.block gr HGL.out).symm.trans (M4.out.boxes 1 _ _ _ rfl));clear yF Sk hug Uy hgb v0 v1 v2 v3 v4 c0 c1 c2 c3 c4 c5 c6 c7 c8 g1 g2 M3 M4;generalize(u5.alloc (.cells #[.slice none 0 0] 45)).alloc (.cells #[.int .i64 t.gen,.int .i64 t.bP,.slice gF t.stamps.length cs1,.int .i64 t.table.start,.slice p1 t.table.rows.length (d1+t.table.rows.length),.pointer (some ⟨q,0,none⟩),.int .i64 node,.int .i64 now,.int .i64 c.n,.int .i64 c.sk,.int .i64 c.tl,.int .i64 c.va,.int .i64 c.lo,.int .i64 c.he,.int .i64 c.ke,.int .i64 c.qu,.slice pf c.zs.length cf] 118)=ug at *;have hsz:B<=u5.heap.size:=Nat.le_trans eF.out jy.out.size;have acv:u1.heap.size<=u5.heap.size:=Aw.out.size;have hzw:w.heap.size<=u5.heap.size:=jy.out.size;have HGU:=hid (show Gu B (u5.heap.size+1) ⟨t.gen,t.bP,st,gF,cs1,t.table.start,q,node,now,c,pf,cf⟩ y qw qq qd (fun g=>R g∨dz u1 g) p1 d1 t.table e ug from
    ⟨tV.out.below (Aw.out.trans (VA.out.mono Aw.out.size)),by rw[I2.out];simp only[Gy,hs2],sN HTO.out.rows (fun _ h _=>.inr h) fun b _ _ hl=>(Aw.out.trans (VA.out.mono Aw.out.size)).block b hl,rfl,
     fun h=>h.elim (fun h=>by have:=LZ.out _ h;omega) (fun h=>by have:=h.1;omega),HR.out.on ((jy.out.trans (VA.out.mono jy.out.size)).mono eF.out),Nat.le_trans hsz VA.out.size⟩)
   have rO:=hid (show Calls prog 55 #[.pointer (some ⟨u5.heap.size+1,0,none⟩)] ug fun x w'=>x=.returned (.tuple #[])/\∃R' p' d',Gu B (u5.heap.size+1) ⟨t.gen,t.bP,st,gF,cs1,t.table.start,q,node,now,c,pf,cf⟩ y qw qq qd R' p' d' (aP c node t.gen now t.table e).1 (aP c node t.gen now t.table e).2 w'/\fH B (u5.heap.size+1) (fun g=>R g∨dz u1 g) R' ug w' from DU HGU.out (by omega) ED.out hm q16 Bt hn)
   have hkS:=iV ED.out Bt (gen:=t.gen) hn;have hDS:=Bd (c:=c) (node:=node) (gen:=t.gen) (now:=now) ED.out.en HD.out;obtain⟨S,hS⟩:∃S,S=aP c node t.gen now t.table e:=⟨_,rfl⟩;rw[<-hS] at rO hkS hDS;have Bh:=hid hS;clear hS;have hmf:∀(fn:Fn) (first cap:Array Value) (w:World),(Instr.makeFunc fn first cap).run prog w=.ok (.func fn first cap) w:=fun _ _ _ _=>rfl
   have MM:=hid hkS;have HDS:=hid hDS;have HQL:=hid (show q<u5.heap.size from Nat.lt_of_lt_of_le (ae tV.out.mW) acv)
   have Yg:¬(R u5.heap.size∨dz u1 u5.heap.size):=fun h=>h.elim (fun h=>by have:=LZ.out _ h;omega) (fun h=>by have:=h.1;omega)
   clear HGU hkS hDS PI mR Yf;go_upto_region 9 with (go_at_call 55;(with_reducible refine rO.out.mono ?_);rintro x u6 ⟨rfl,R2,p2,d2,hg2,hf2⟩;have HZ:=hid (show Gr B (u5.heap.size+1) u5.heap.size ⟨t.gen,t.bP,st,gF,cs1,t.table.start,q,node,now,c,pf,cf⟩ y qw qq qd (fun g=>R g∨dz u1 g) R2 u5 p2 d2 ⟨S.1,S.2,[]⟩ (.slice none 0 0) u6 from⟨hg2,hf2.lf _ _ _ _ (by omega) (by simp[Zy.fV]) PM.out,gA.none _ _,fun hR2=>(hf2.new _ hR2).elim Yg (fun hs=>by have:=ae PM.out;omega),fun b m d' e=>by simp at e,(fH.cw VA.out hsz).trans hf2,Nat.le_refl _,hsz,by omega⟩);clear hg2 hf2)
   clear rO;have HGT:=hid (show Calls prog 56 #[.pointer (some ⟨u5.heap.size+1,0,none⟩),.func (.func 57) #[] #[.pointer (some ⟨u5.heap.size,0,none⟩)]] u6 fun x w'=>x=.returned (.tuple #[])/\∃R' p' d' Bl,Gr B (u5.heap.size+1) u5.heap.size ⟨t.gen,t.bP,st,gF,cs1,t.table.start,q,node,now,c,pf,cf⟩ y qw qq qd (fun g=>R g∨dz u1 g) R' u5 p' d' (mK c node t.gen now (dL c S.2) ⟨S.1,S.2,[]⟩) Bl w' from Hk HP.out HZ.out MM.out (by omega) HDS.out q16 Bt hn Kw)
   have hGD:=SQ c node t.gen now (dL c S.2) ⟨S.1,S.2,[]⟩;obtain⟨G,hG⟩:∃G,G=mK c node t.gen now (dL c S.2) ⟨S.1,S.2,[]⟩:=⟨_,rfl⟩;rw[<-hG] at HGT hGD;have HGG:=hid hG;clear hG;have qh:u5.heap[gr]? =some (.cells #[.int .i64 0,.int .i64 0,.slice none 0 0,.int .i64 0,.slice none 0 0] 30 (0,0)):=(Aw.out.block gr HGL.out).trans UR.out;have acz:=hid qh;have ahb:gr<u5.heap.size:=ae qh;have Ug:=hid (SX (R:=R) LZ.out FJ.out UR.out);clear qh HZ Rn UR;go_upto_region 10 with (go_at_call 56;(with_reducible refine HGT.out.mono ?_);rintro x u7 ⟨rfl,R3,p3,d3,vo,hz3⟩;have qZ:=hid hz3;clear hz3)
   have HG7:=hid (qZ.out.fr.lf gr _ _ _ (by omega) (by simp[Zy.fV]) acz.out)
   obtain⟨x0,x1,x2,x3,x4,-⟩:=qZ.out.gu.cells;simp only at x0 x1 x2 x3 x4;obtain⟨y0,y1,y2,y3,y4,gg⟩:=bz HG7.out;have f0:=gg 0;have f1:=gg 1;have f2:=gg 2;have f3:=gg 3;have f4:=gg 4;have a0:u7.cell? ⟨u5.heap.size,0,none⟩=some vo:=by rw[cell_of_row _ _ 0 _ _ (0,0) qZ.out.var];rfl
   have QP:=hid (LY qZ.out.ic);have hp7:Pf R3 B u7 q c G.e:=⟨⟨⟨q0,q16⟩,fun x hx=>HDS.out x (by rw[hGD] at hx;exact hx),fun h=>(qZ.out.fr.new q h).elim HQ1.out fun hs=>by have:=HQL.out;omega⟩,y,qw,qq,qd,qZ.out.gu.kr⟩
   have acA:∀b,R3 b->b≠gr:=fun b hb e=>(qZ.out.fr.new b hb).elim (fun h=>Ug.out b h e) fun hs=>by omega
   have HME:=hid (zE (R:=R) hp7 LZ.out (fun g h=>qZ.out.fr.up g (.inl h)) ((Zp.fN.cw jy.out).trans qZ.out.fr.off) ((jy.out.mono eF.out).trans qZ.out.fr.below) (fun b hb hn hl=>(qZ.out.fr.bM b (.inl hb) (hn.on (jy.out.block b hl)) (Nat.lt_of_lt_of_le hl jy.out.size)).trans (jy.out.block b hl)) HG7.out FJ.out eF.out (.int .i64 t.gen) (.int .i64 t.bP) (.slice gF t.stamps.length cs1) (.int .i64 t.table.start) (.slice p3 G.t.rows.length (d3+G.t.rows.length)))
   have YR:=hid (show dZ R3 u7 ⟨t.gen,t.bP,st,G.t⟩ gF p3 from⟨((HTO.out.stamps.on (S':=fun g=>R g∨dz u1 g) (w':=u5) (fun _ h _=>.inr h) fun b _ _ hl=>Aw.out.block b hl).on (fun b hb _=>qZ.out.fr.up b hb) qZ.out.fr.bM),qZ.out.gu.rows⟩)
   have acB:=hid (show G.t.start=t.table.start from qZ.out.gu.start)
   have HT8:=hid (YR.out.on (S':=R3) (w':=(((((u7.setCell ⟨gr,0,none⟩ (.int .i64 t.gen)).setCell ⟨gr,1,none⟩ (.int .i64 t.bP)).setCell ⟨gr,2,none⟩ (.slice gF t.stamps.length cs1)).setCell ⟨gr,3,none⟩ (.int .i64 t.table.start)).setCell ⟨gr,4,none⟩ (.slice p3 G.t.rows.length (d3+G.t.rows.length)))) (fun _ h _=>h) fun b hb _ _=>dH (acA b hb) _ _ _ _ _)
   have T5:=hid (QP.out.off (nL (u':=(((((u7.setCell ⟨gr,0,none⟩ (.int .i64 t.gen)).setCell ⟨gr,1,none⟩ (.int .i64 t.bP)).setCell ⟨gr,2,none⟩ (.slice gF t.stamps.length cs1)).setCell ⟨gr,3,none⟩ (.int .i64 t.table.start)).setCell ⟨gr,4,none⟩ (.slice p3 G.t.rows.length (d3+G.t.rows.length)))) HG7.out (zD HG7.out _ _ _ _ _).size fun b hb=>dH hb _ _ _ _ _))
   clear gg HGT PM I2 VA hp7 Yg;go_region
   all_goals go_wp2
   all_goals refine bodyPost_ret (v:=.tuple #[.agg #[.int .i64 t.gen,.int .i64 t.bP,.slice gF t.stamps.length cs1,.int .i64 t.table.start,.slice p3 G.t.rows.length (d3+G.t.rows.length)],vo,.int .i64 0]) (by simp[results,results15,go_sem,y0,y1,y2,y3,y4]) rfl ?_
   all_goals
    rw[<-Bh.out,<-HGG.out,acB.out];exact⟨gF,cs1,p3,d3,vo,rfl,T5.out.below (Below.refl _ _).drew,R3,HT8.out.below (Below.refl _ _).drew,fun g h=>qZ.out.fr.up g (.inl h),Rc.below HME.out.1 (Below.refl _ _).drew,HME.out.2.drew⟩
end Zn
end Go.Proofs.YtbgdlokegibkmaaGreat
