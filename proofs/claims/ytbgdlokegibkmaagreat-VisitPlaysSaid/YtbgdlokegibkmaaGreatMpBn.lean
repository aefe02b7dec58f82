/-
  A part of the proof of VisitPlays.
-/
import Derived.Sort.OwnSortedInts
import Derived.Lib.OwnBridge
import Derived.Test.YtbgdlokegibkmaaGreatMpBm
import Derived.Test.YtbgdlokegibkmaaGreatShelf
import Derived.Test.YtbgdlokegibkmaaGreatMpBl
set_option maxRecDepth 100000
set_option maxHeartbeats 8000000
namespace Go.Proofs.YtbgdlokegibkmaaGreat
open Go.RowKit
open Tryz
open Lib (hid)
namespace Zv
open Go.RowKit Go.Sort
theorem LK (zs:List Int)(hz:zs.Pairwise (·<·))(hl:zs.length<=1000)(u0 u:World)(v:Value)(ax:fj u0.heap.size u v zs)(hb:Below u0.heap.size u0 u) :
 Calls prog 148 #[v] u fun e u'=>e=.returned (.tuple #[])/\(∃p' c',v=.slice p' zs.length c'/\∀k,k<zs.length->∃b o,p'=some ⟨b,o,none⟩/\u'.cell? ⟨b,o+k,none⟩=some (.int .i64 (zs.getD k 0)))/\Below u0.heap.size u0 u':=by
 by_cases h0:zs.length=0
 ·obtain ⟨p,c,rfl,-⟩:=ax.bX
  rw[h0];refine(Tryz.slices_Sort_int_none p c u).mono ?_;rintro e u' ⟨rfl,rfl⟩;exact⟨rfl,⟨p,c,rfl,fun k hk=>by omega⟩,hb⟩
 ·have hs:=O6 hz
  have hl2:(Zj.o6 zs).length=zs.length:=by rw[hs]
  have hown':u.ownsRow u0.heap.size 3 1 v zs.length (zs.map (Value.int .i64)):=ax;have hne:v≠.slice none 0 0:=by
   rintro rfl;rcases ax.2 with ⟨-,h1⟩ | ⟨g,cap,cur,h1,-⟩
   ·exact h0 h1
   ·simp at h1
  obtain⟨g',cap',rfl,hbase,aC,_,_,_,hH⟩:=Lib.holds_of_ownsRow (enc:=Value.int .i64) hown' hne;rcases hown'.2 with ⟨h1,_⟩ | ⟨g2,ab5,cur,hv,hbase',hblk,h1,h2,h3,h4⟩
  ·cases h1
  cases hv;refine(Tryz.slices_Sort_int g' 0 cap' zs u hH aC (by omega)).mono ?_
  rintro e u' ⟨rfl,n,os,rfl⟩;refine⟨rfl,⟨_,_,rfl,?_⟩,hb.grown (grownBy_sortedI _) hb.size (fun j hj=>by cases hj;exact hbase)⟩
  have XS:=ownsRow_sortedI (n:=n) (os:=os) (ts:=Zj.o6 zs) hl2 hbase hblk h1 h2 h3;rw[<-hl2] at XS;obtain⟨g3,agQ,e3,_,_,_,_,_,XF⟩:=Lib.holds_of_ownsRow (enc:=Value.int .i64) XS (by simp)
  cases e3;intro j hj;refine⟨g',0,rfl,?_⟩;have k:=(XF j (by simpa[hl2] using hj)).1
  have hj2:j<(Zj.o6 zs).length:=by rw[hl2];exact hj
  rw[show grow (putRow (Value.int .i64) (Sort.ahead u n) g' 0 (zs.mergeSort fun x y=>decide (x<=y)).toArray) os=grow (putRow (Value.int .i64) (Sort.ahead u n) g' 0 (Zj.o6 zs).toArray) os from rfl,k]
  simp only[hs];simp[hj]
open Zx (Rw Tb aq ak af)
theorem LL {n:Nat}{t:Tb}(p:Option Addr)(c:Nat)(node:Int)(w:World)(h:cI n t)(hn:n<=61)(hr:ar w p t.rows) :
 Calls prog 102 #[bN t p c,.int .i64 node] w (mC w (held t node)):=by
 obtain⟨hl,ho⟩:=lF h.dJ hn;have hp:=RB h.up node;have aT:(bY node t.rows).length<=t.rows.length:=by have:=j5 node t.rows t.rows.length;rwa [List.take_length] at this
 refine G9 t.start t.rows p c node w hr hl (fun u j hj p' c' hu=> ?_) (fun u0 u v hv hb=>LK (bY node t.rows) hp (by omega) u0 u v hv hb) fun k hk=> ?_
 ·have hm:t.rows.getD j aq∈t.rows:=by simp[List.getD,hj]
  have hB:=h.dJ.rows _ hm;have hU:=h.J9 _ hm;generalize t.rows.getD j aq=r at *;refine(wX r p' c' node u hu (ho r hm)).mono ?_;rintro e u' ⟨rfl,hb⟩;rcases wW hU node fun y hy=>(hB.out y hy).2 with ⟨h1,h2⟩ | ⟨h1,h2⟩
  ·exact ⟨_,by rw[h2,decide_eq_false (by omega)],hb⟩
  ·exact ⟨_,by rw[h2,decide_eq_true h1],hb⟩
 ·have:=List.pairwise_iff_getElem.1 hp k (k+1) (by show k<(bY node t.rows).length;omega) hk (by omega)
  have h1:k<(bY node t.rows).length:=by omega
  show(bY node t.rows).getD k 0<(bY node t.rows).getD (k+1) 0
  simp only[List.getD,h1,hk,List.getElem?_eq_getElem,Option.getD_some];exact this
end Zv
namespace Zn
open Zx (Rw Tb Tk aq ak af)
open Zv (dK ar bq cI bV held bN gD)
open Zq (cX ae aj ai)
open Zp (aL bS fN)
open Zy (Cf Eg An Ed aM bD fh eo iK eW In bZ gX iL bB drop)
open Zo (aS)
open Zw (bC)
theorem iv.UG {S:Nat->Prop}{w w':World}{p:Option Addr}{l:List Int}(h:iv S w p l)(hb:Below w.heap.size w w'):iv S w' p l:=h.on (fun _ h _=>h) fun b _ _ hl=>hb.block b hl
theorem LM {L:List Zw.Lz}{Q:List Zu.It}{D:List Zz.Nt}(h:Zw.bu L)(key gen:Int):bC (bB ⟨L,Q,D⟩ key gen).2:=by
 unfold bB Zw.bB;simp only;split
 ·simp [bC]
 ·rename_i hp
  obtain⟨-,-,h3⟩:=Zw.cM (show 0<=Zw.au L key by omega)
  split
  ·exact (h.mO _ h3).2.2.2.2.2.1
  ·simp [bC]
section
variable {B gb:Nat}{f:Gf}{y:Value}{qw qq qd:Nat}{R:Nat->Prop}{p:Option Addr}{d:Nat}{t:Tb}{e:Eg}{u:World}
theorem DU {m:Nat}(h:Gu B gb f y qw qq qd R p d t e u)(hg:B<=gb)(gL:fE f.c f.node m t e)(hm:m<=660)(hq:f.c.qu<=16)(hk:f.c.ke<=16)(hn:bC f.now) :
 Calls prog 55 #[.pointer (some ⟨gb,0,none⟩)] u fun x w'=>x=.returned (.tuple #[])/\∃R' p' d',Gu B gb f y qw qq qd R' p' d' (aP f.c f.node f.gen f.now t e).1 (aP f.c f.node f.gen f.now t e).2 w'/\fH B gb R R' u w':=by
 have XT:aP f.c f.node f.gen f.now t e=((mJ f.c f.node f.gen f.now (held t f.node) (t,e)).1,drop (mJ f.c f.node f.gen f.now (held t f.node) (t,e)).2 f.gen):=rfl;have N0:=hid XT;have tJ:=hid (qX gL.en f.node);have hl2:=Zv.vY gL.en f.node;have HH:=hid (show ∀v,Below u.heap.size u v->Calls prog 102 #[.agg #[.int .i64 f.start,.slice p t.rows.length (d+t.rows.length)],.int .i64 f.node] v (Zv.mC v (held t f.node)) from fun v hb=>by
  have:=Zv.LL p d f.node v gL.en (by omega) (h.rows.below hb).rest
  rw[<-h.start];exact this)
 generalize held t f.node=l at *;have HST:=hid (fun(j:Nat) (hj:j<l.length)=>show mJ f.c f.node f.gen f.now (l.take (j+1)) (t,e)=Sb f.c f.node f.gen f.now (mJ f.c f.node f.gen f.now (l.take j) (t,e)) (l.getD j 0) from by
  rw[List.take_succ_eq_append_getElem hj];unfold mJ;rw[List.foldl_append];simp[List.getD,hj])
 have Bj:=hid (fun(j:Nat) (hj:j<=l.length)=>show fE f.c f.node (m+j) (mJ f.c f.node f.gen f.now (l.take j) (t,e)).1 (mJ f.c f.node f.gen f.now (l.take j) (t,e)).2 from by
  have:=oK (c:=f.c) (node:=f.node) hk (gen:=f.gen) hn (l.take j) (s:=(t,e)) (fun k hk=>tJ.out k (List.mem_of_mem_take hk)) gL
  rwa [List.length_take,Nat.min_eq_left hj] at this)
 have Eh:=hid (show mJ f.c f.node f.gen f.now (l.take 0) (t,e)=(t,e) from rfl)
 have FB:=hid (show mJ f.c f.node f.gen f.now (l.take l.length) (t,e)=mJ f.c f.node f.gen f.now l (t,e) by rw[List.take_length])
 obtain⟨x0,x1,x2,x3,x4,x5,x6,x7,-⟩:=h.cells;have HG:=hid h;have I2:=hid hg;have z0:_/\_/\_:=⟨af x3 (Below.refl u.heap.size u).drew,af x4 (Below.refl u.heap.size u).drew,af x6 (Below.refl u.heap.size u).drew⟩;clear h hg gL XT x0 x1 x2 x3 x4 x5 x6 x7;go_enter func55,ntmps55
 go_upto_region 0 with (fail)
 go_region_held3 (fun v=>v.cell? ⟨gb,3,none⟩=some (.int .i64 f.start)/\v.cell? ⟨gb,4,none⟩=some (.slice p t.rows.length (d+t.rows.length))/\v.cell? ⟨gb,6,none⟩=some (.int .i64 f.node)) (first | with_reducible assumption) (first
  |(go_at_call 102;(with_reducible refine(HH.out _ (Below.refl u.heap.size u).drew).mono ?_);rintro x u1 ⟨pl,cl,rfl,hi,hb⟩;have aO:=hid (kQ hb);have tV:=hid hi;have z1:_/\_/\_:=⟨af z0.1 hb,af z0.2.1 hb,af z0.2.2 hb⟩;clear hi hb HH))
 go_wp2_with (fail)
 have Sp:=hid (HG.out.more aO.out);have MH:=hid (fH.uV (gb:=gb) (R:=R) aO.out HG.out.size);have Em:=hid (show iv (fun g=>R g∨u.heap.size<=g/\g<u1.heap.size) u1 pl l from by
  by_cases h0:l=[]
  ·exact .inl h0
  ·obtain ⟨b,o,e1,e2,e3⟩:=tV.out 0 (List.length_pos_iff.2 h0)
   refine .inr ⟨b,o,e1,.inr ⟨e2,World.block_lt_of_cell? _ _ e3⟩,fun j hj=> ?_⟩
   obtain⟨b2,o2,k1,-,k3⟩:=tV.out j hj;rw[e1] at k1;simp only[Option.some.injEq,Addr.mk.injEq,and_true] at k1;obtain⟨rfl,rfl⟩:=k1;exact k3)
 clear z0 z1 tV aO HG;generalize(fun g=>R g∨u.heap.size<=g/\g<u1.heap.size)=RA at *
 have Xd:=hid (show Gu B gb f y qw qq qd RA p d (mJ f.c f.node f.gen f.now (l.take 0) (t,e)).1 (mJ f.c f.node f.gen f.now (l.take 0) (t,e)).2 u1 from by rw[Eh.out];exact Sp.out)
 clear Sp Eh;go_loopw [16] (fun i wr=>∃(j:Nat) (R':Nat->Prop) (p':Option Addr) (d':Nat),j<=l.length/\i=.int .i64 (j:Int)/\Hid (Gu B gb f y qw qq qd R' p' d' (mJ f.c f.node f.gen f.now (l.take j) (t,e)).1 (mJ f.c f.node f.gen f.now (l.take j) (t,e)).2 wr)/\Hid (fH B gb R R' u wr)/\Hid (iv R' wr pl l)) (fun i _=>l.length-(intOf i).toNat)
 case atStart=>exact ⟨0,RA,p,d,by omega,rfl,Xd,MH,Em⟩
 case round =>
  obtain⟨j,R1,p1,d1,hj,rfl,hZ,hF,hI⟩:=hrel;have hkj:=Bj.out j hj;by_cases aC:j<l.length
  ·have bE:(j:Int)<(l.length:Int):=by omega
   have hst:=HST.out j aC;clear HST Bj FB Xd MH Em;obtain⟨s1,hs1⟩:∃s1,s1=mJ f.c f.node f.gen f.now (l.take (j+1)) (t,e):=⟨_,rfl⟩;rw[<-hs1] at hst;have Ej:=hid hs1;clear hs1;generalize mJ f.c f.node f.gen f.now (l.take j) (t,e)=s at *;obtain⟨bl,ol,rfl,hcell⟩:∃b o,pl=some ⟨b,o,none⟩/\wr.cell? ⟨b,o+j,none⟩=some (.int .i64 (l.getD j 0)):=by
    rcases hI.out with h0 | ⟨b,o,e1,-,hc⟩
    ·rw [h0] at aC;simp at aC
    ·exact ⟨b,o,e1,hc j aC⟩
   have xL:bC (l.getD j 0):=tJ.out _ (by simp[List.getD,aC])
   generalize l.getD j 0=key at *;have QK:=Zv.yK hkj.en (key:=key) (now:=f.now) xL hn (f:=gW f.c) hk;obtain⟨hL,hQ,hD⟩:=hkj.lens hq (by omega)
   have UH:=hid (zy hZ.out I2.out hkj.en key);have hst:s1=((Zv.settle (bV s.1 key f.now (gW f.c)).1 key f.node (bB s.2 key f.gen).2).1,(bB s.2 key f.gen).1):=hst;generalize bV s.1 key f.now (gW f.c)=MT at *;have Jj:=hid (fun(v:World) R' p' d' (hv:Gu B gb f y qw qq qd R' p' d' MT.1 s.2 v)=>Zy.pW (key:=key) (gen:=f.gen) hv.kr hv.size hkj.ie ⟨Nat.le_trans hL (by decide),hQ,hD⟩ xL)
   have hcn:bC (bB s.2 key f.gen).2:=LM hkj.ie.l key f.gen;generalize bB s.2 key f.gen=CL at *;go_upto_region 4 with (go_at_call 103;(with_reducible refine UH.out.mono ?_);rintro x u2 ⟨rfl,R2,p2,d2,hg2,hf2⟩;have xp:=hid (hg2.on (Below.refl _ _).drew);have OQ:=hid (hF.out.trans (hf2.trans (fH.cw (Below.refl u2.heap.size u2).drew hg2.size)));have Vg:=hid (((hI.out.on (fun b hb _=>hf2.up b hb) hf2.bM).on (w':=u2.drew) (fun _ h _=>h) fun _ _ _ _=>rfl));clear hg2 hf2)
   obtain⟨x0,-,-,-,-,x5,-⟩:=xp.out.cells;have z0:=And.intro x5 x0;clear x0 x5 hcell UH hZ hF hI;go_cut [4] (fun a wx=>a=.int .i64 CL.2/\bZ R2 B u2.drew f.q y qw qq qd f.c CL.1 wx)
   case first =>
    go_region_held3 (fun v=>v.cell? ⟨gb,5,none⟩=some (.pointer (some ⟨f.q,0,none⟩))/\v.cell? ⟨gb,0,none⟩=some (.int .i64 f.gen)) (first | with_reducible assumption) (first
     |(go_at_call 104;(with_reducible refine(Jj.out _ _ _ _ xp.out).mono ?_);rintro x u3 ⟨rfl,mN⟩;have Dg:=hid mN;have z1:_/\_:=⟨(xp.out.kS mN).cells.2.2.2.2.2.1,(xp.out.kS mN).cells.1⟩;clear mN))
    all_goals (go_wp2_with (fail))
    all_goals go_meet
    all_goals exact⟨rfl,Dg.out⟩
   case rest =>
    obtain⟨rfl,mN⟩:=hcut;have Mn:=hid ((xp.out.kS mN).on (Below.refl _ _).drew);have HF4:=hid ((OQ.out.trans (fH.lL mN)).trans (fH.cw (Below.refl wc.heap.size wc).drew (xp.out.kS mN).size));have HI4:=hid ((Vg.out.on (fun _ h _=>h) mN.bM).on (w':=wc.drew) (fun _ h _=>h) fun _ _ _ _=>rfl)
    have rO:Hid (∀v,Below wc.drew.heap.size wc.drew v->Calls prog 105 #[.agg #[.int .i64 f.start,.slice p2 MT.1.rows.length (d2+MT.1.rows.length)],.int .i64 key,.int .i64 f.node,.int .i64 CL.2] v fun x v'=>∃px dx,x=.returned (.tuple #[.agg #[.int .i64 f.start,.slice px (Zv.settle MT.1 key f.node CL.2).1.rows.length (dx+(Zv.settle MT.1 key f.node CL.2).1.rows.length)],.int .i64 (Zv.settle MT.1 key f.node CL.2).2])/\Zv.cz (fun b=>R2 b∨wc.drew.heap.size<=b) v' px (Zv.settle MT.1 key f.node CL.2).1.rows/\Below v.heap.size v v'):=hid (fun v hv=>by
     have:=Zv.A7 p2 d2 key f.node CL.2 v QK (by omega) xL hcn (Mn.out.rows.below hv).rest
     have uy:=jH MT.1 key f.node CL.2;generalize Zv.settle MT.1 key f.node CL.2=ST at *;rw[<-Mn.out.start];refine this.mono ?_;rintro x v' ⟨px,dx,rfl,⟨-,h2⟩,h3⟩;exact⟨px,dx,by rw[<-uy];rfl,iR (h2 R2 (Mn.out.rows.below hv)) fun b hb _=>hb.imp id fun h4=>Nat.le_trans hv.size h4,h3⟩)
    have uy:=(jH MT.1 key f.node CL.2).trans Mn.out.start;generalize Zv.settle MT.1 key f.node CL.2=ST at *;obtain⟨-,-,-,x3,x4,-,x6,-⟩:=Mn.out.cells;have ff:=Mn.out.cells.2.2.2.2.2.2.2.2.2.2.2.2.2.2.2.2.2;have f3:=ff 3;have f4:=ff 4;clear Jj xp OQ Vg z0 ff mN;go_upto_region 5 with (fail)
    have HGD:=hid (fun v (hv:Below wc.drew.heap.size wc.drew v)=>show v.cell? ⟨gb,3,none⟩=some (.int .i64 f.start)/\v.cell? ⟨gb,4,none⟩=some (.slice p2 MT.1.rows.length (d2+MT.1.rows.length))/\v.frozen? ⟨gb,3,none⟩=false/\v.frozen? ⟨gb,4,none⟩=false from⟨(Mn.out.on hv).cells.2.2.2.1,(Mn.out.on hv).cells.2.2.2.2.1,(Mn.out.on hv).cells.2.2.2.2.2.2.2.2.2.2.2.2.2.2.2.2.2 3,(Mn.out.on hv).cells.2.2.2.2.2.2.2.2.2.2.2.2.2.2.2.2.2 4⟩)
    go_region_with (go_at_call 105;(with_reducible refine(rO.out _ (Below.refl _ _)).mono ?_);rintro x u4 ⟨px,dx,rfl,hr4,hb4⟩;have HR4:=hid hr4;have fp:=hid hb4;obtain⟨q3,q4,g3,g4⟩:=HGD.out _ hb4;clear hr4 hb4)
    all_goals (go_wp2_with (fail))
    all_goals
     have hb4:=fp.out;have PN:=hid (Mn.out.more hb4);have HR3:=hid (iR HR4.out (S':=fun g=>R2 g∨wc.drew.heap.size<=g/\g<u4.heap.size) fun b hb hl=>hb.imp id fun h=>⟨h,hl⟩)
     have HF5:=hid ((HF4.out.trans (fH.uV hb4 Mn.out.size)).trans (fH.wL PN.out I2.out px ST.1.rows.length dx));have Vh:=hid (((HI4.out.UG hb4).on (S':=fun g=>R2 g∨wc.drew.heap.size<=g/\g<u4.heap.size) (w':=u4) (fun b hb _=>.inl hb) fun _ _ _ _=>rfl).on (S':=fun g=>R2 g∨wc.drew.heap.size<=g/\g<u4.heap.size) (w':=(u4.setCell ⟨gb,3,none⟩ (.int .i64 f.start)).setCell ⟨gb,4,none⟩ (.slice px ST.1.rows.length (dx+ST.1.rows.length))) (fun _ h _=>h) fun b hb _ _=>(ji PN.out px ST.1.rows.length dx).2 b fun e=>PN.out.Ss (e ▸ hb))
     have Ui:=hid (PN.out.store (p':=px) (d':=dx) I2.out HR3.out uy);refine⟨⟨j+1,_,px,dx,by omega,by simp,?_,HF5,Vh⟩,by simp only[intOf];omega⟩
     rw[<-Ej.out,hst];exact Ui
  ·have bE:¬(j:Int)<(l.length:Int):=by omega
   have Qd:j=l.length:=by omega
   subst Qd;rw[FB.out] at hZ hkj;clear HST Bj FB Xd MH Em hI;generalize mJ f.c f.node f.gen f.now l (t,e)=s at *;obtain⟨hL,hQ,hD⟩:=hkj.lens hq (by omega)
   have UI:=hid (hZ.out.on (Below.refl wr.heap.size wr).drew);have HCD:=hid (Zy.sZ UI.out.kr UI.out.size ⟨Nat.le_trans hL (by decide),hQ,hD⟩ f.gen)
   obtain⟨x0,-,-,-,-,x5,-⟩:=UI.out.cells;have z0:=And.intro x5 x0;have U1:=hid (hF.out.trans (fH.cw (Below.refl wr.heap.size wr).drew hZ.out.size));clear x0 x5 hZ hF;go_upto_region 7 with (fail)
   go_region_held3 (fun v=>v.cell? ⟨gb,5,none⟩=some (.pointer (some ⟨f.q,0,none⟩))/\v.cell? ⟨gb,0,none⟩=some (.int .i64 f.gen)) (first | with_reducible assumption) (first
    |(go_at_call 106;(with_reducible refine HCD.out.mono ?_);rintro x u3 ⟨rfl,mN⟩;have Dg:=hid mN;have z1:_/\_:=⟨(UI.out.kS mN).cells.2.2.2.2.2.1,(UI.out.kS mN).cells.1⟩;clear mN))
   all_goals (go_wp2_with (fail))
   all_goals go_end0
   all_goals (rw[N0.out];first | exact⟨rfl,R1,⟨p1,d1,UI.out.kS Dg.out⟩,U1.out.trans (fH.lL Dg.out)⟩ | exact⟨rfl,R1,p1,d1,UI.out.kS Dg.out,U1.out.trans (fH.lL Dg.out)⟩)
end
end Zn
end Go.Proofs.YtbgdlokegibkmaaGreat
