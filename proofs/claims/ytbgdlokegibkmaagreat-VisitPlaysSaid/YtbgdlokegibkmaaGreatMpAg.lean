/-
  A part of the proof of VisitPlays.
-/
import Derived.Test.YtbgdlokegibkmaaGreatMpAf
set_option maxRecDepth 100000
set_option maxHeartbeats 4000000
namespace Go.Proofs.YtbgdlokegibkmaaGreat
open Go.RowKit
open Tryz
open Lib (hid)
namespace Zv
open Zx (Rw Tb aq ak af)
open Zq (aI cO ae aj ai)
open Zr (dh add sub mul)
def aX (f:Cf)(key:Int):Int×Int:=f.aH.getD (cB f.aH key).toNat (0,0)
def bV (t:Tb)(key now:Int)(f:Cf):Tb×Int :=
 if cB f.aH key<0 then (t,4)
 else if 0<=au t.rows key∨(t.rows.length:Int)<f.aR then (setRow t (gZ t key now (aX f key).1 (aX f key).2),0)
 else if f.aR<=((dc t now f).rows.length:Int) then (t,3)
 else (setRow (dc t now f) (gZ (dc t now f) key now (aX f key).1 (aX f key).2),0)
theorem sq (t:Tb)(now:Int)(f:Cf):(dc t now f).rows.length<=t.rows.length:=by
 have:=tL t.start now f t.rows t.rows.length;rwa [List.take_length] at this
theorem oG {t:Tb}{now:Int}{f:Cf}{r:Rw}(h:r∈(dc t now f).rows):r∈t.rows:=by
 simp only[dc,dU,List.mem_filter] at h;exact h.1
structure JB (w:World)(start:Int)(p:Option Addr)(nr c:Nat)(vs:Array Value)(u:World):Prop where
 oZ:u.heap[w.heap.size]? =some (.cells #[.int .i64 start,.slice p nr (c+nr)] 28 (0,0))
 dW:u.heap[w.heap.size+1]? =some (.cells vs 24 (0,0))
 gG:u.heap[w.heap.size+1+1]? =some (.cells #[.int .i64 0,.slice none 0 0] 28 (0,0))
 below:Below w.heap.size w u
theorem JB.on {w u u':World}{start:Int}{p:Option Addr}{nr c:Nat}{vs:Array Value}(h:JB w start p nr c vs u)(hb:Below u.heap.size u u'):JB w start p nr c vs u' :=
 ⟨(hb.block _ (ae h.oZ)).trans h.oZ,(hb.block _ (ae h.dW)).trans h.dW,(hb.block _ (ae h.gG)).trans h.gG,h.below.trans (hb.mono h.below.size)⟩
theorem JB.out {w u:World}{start:Int}{p:Option Addr}{nr c:Nat}{vs:Array Value}(h:JB w start p nr c vs u)(y1 y2:Value):Below w.heap.size w ((u.setCell ⟨w.heap.size+1+1,0,none⟩ y1).setCell ⟨w.heap.size+1+1,1,none⟩ y2) :=
 (h.below.setCell (by simp;omega) _).setCell (by simp;omega) _
theorem JB.size {w u:World}{start:Int}{p:Option Addr}{nr c:Nat}{vs:Array Value}(h:JB w start p nr c vs u):w.heap.size+3<=u.heap.size:=ae h.gG
theorem JC (start key now n sk tl va lo he ke qu ri:Int)(p pf:Option Addr)(nr c nz cf:Nat)(w:World)(rows:List Rw)
 (dF:∀u,Calls prog 45 #[.agg #[.int .i64 n,.int .i64 sk,.int .i64 tl,.int .i64 va,.int .i64 lo,.int .i64 he,.int .i64 ke,.int .i64 qu,.slice pf nz cf],.int .i64 key] u fun e u'=>e=.returned (.int .i64 ri)/\Below u.heap.size u u')
 (b9:ri<0) (h:ar w p rows) (ym:rows.length=nr) :
 Calls prog 62 #[.agg #[.int .i64 start,.slice p nr (c+nr)],.int .i64 key,.int .i64 now,.agg #[.int .i64 n,.int .i64 sk,.int .i64 tl,.int .i64 va,.int .i64 lo,.int .i64 he,.int .i64 ke,.int .i64 qu,.slice pf nz cf]] w (ew w ⟨start,rows⟩ (fun v=>.tuple #[v,.int .i64 4])):=by
 obtain⟨k0,k1,k2,hb⟩:=gq w (.cells #[.int .i64 start,.slice p nr (c+nr)] 28) (.cells #[.int .i64 n,.int .i64 sk,.int .i64 tl,.int .i64 va,.int .i64 lo,.int .i64 he,.int .i64 ke,.int .i64 qu,.slice pf nz cf] 24) (.cells #[.int .i64 0,.slice none 0 0] 28);have X0:=hid (JB.mk k0 k1 k2 hb);clear k0 k1 k2 hb;go_enter func62,ntmps62
 go_wp2_with (first
  |(go_at_call 45;(with_reducible refine(dF _).mono ?_);rintro e u1 ⟨rfl,hb1⟩;have hx1:=X0.out.on hb1;obtain⟨a0,a1,-⟩:=dg hx1.oZ;obtain⟨d0,d1,ff⟩:=dg hx1.gG;have f0:=ff 0;have f1:=ff 1;have X1:=hid hx1;clear dF hx1 ff X0 hb1))
 refine bodyPost_ret (v:=.tuple #[.agg #[.int .i64 start,.slice p nr (c+nr)],.int .i64 4]) (by simp[results,results62,go_sem,d0,d1]) rfl ?_
 have BE:=X1.out.out (.int .i64 start) (.slice p nr (c+nr));exact⟨p,c,by rw[<-ym];rfl,h.below BE,BE⟩
structure JD (w:World)(start:Int)(p:Option Addr)(nr c:Nat)(vs:Array Value)(g:Nat)(v1 v2:Value)(u:World):Prop where
 all:JB w start p nr c vs u
 x:u.heap[g]? =some (.cells #[v1,v2] 28 (0,0))
 JE:w.heap.size+3<=g
theorem JD.on {w u u':World}{start:Int}{p:Option Addr}{nr c g:Nat}{vs:Array Value}{v1 v2:Value}(h:JD w start p nr c vs g v1 v2 u)(hb:Below u.heap.size u u'):JD w start p nr c vs g v1 v2 u' :=
 ⟨h.all.on hb,(hb.block _ (ae h.x)).trans h.x,h.JE⟩
theorem JD.set {w u:World}{start:Int}{p:Option Addr}{nr c g:Nat}{vs:Array Value}{v1 v2:Value}(h:JD w start p nr c vs g v1 v2 u)(y1 y2:Value):JD w start p nr c vs g y1 y2 ((u.setCell ⟨g,0,none⟩ y1).setCell ⟨g,1,none⟩ y2):=by
 have e1:(u.setCell ⟨g,0,none⟩ y1).heap[g]? =some (.cells #[y1,v2] 28 (0,0)):=by rw[ai _ 0 _ _ h.x];rfl
 have e2:((u.setCell ⟨g,0,none⟩ y1).setCell ⟨g,1,none⟩ y2).heap[g]? =some (.cells #[y1,y2] 28 (0,0)):=by rw[ai _ 1 _ _ e1];rfl
 have hf:=h.JE;refine⟨⟨?_,?_,?_,(h.all.below.setCell (by simp;omega) _).setCell (by simp;omega) _⟩,e2,hf⟩
 ·exact ((Below.heap_setCell _ _ _ _ (by simp;omega)).trans (Below.heap_setCell _ _ _ _ (by simp;omega))).trans h.all.oZ
 ·exact ((Below.heap_setCell _ _ _ _ (by simp;omega)).trans (Below.heap_setCell _ _ _ _ (by simp;omega))).trans h.all.dW
 ·exact ((Below.heap_setCell _ _ _ _ (by simp;omega)).trans (Below.heap_setCell _ _ _ _ (by simp;omega))).trans h.all.gG
theorem JD.new {w u:World}{start:Int}{p:Option Addr}{nr c:Nat}{vs:Array Value}(h:JB w start p nr c vs u)(v1 v2:Value):JD w start p nr c vs u.heap.size v1 v2 (u.alloc (.cells #[v1,v2] 28)) :=
 ⟨h.on ((Below.refl _ _).alloc (Nat.le_refl _) _),heap_alloc_new _ _,h.size⟩
theorem JD.put {w u:World}{start:Int}{p:Option Addr}{nr c g:Nat}{vs:Array Value}{v1 v2:Value}(h:JD w start p nr c vs g v1 v2 u)(y1 y2:Value) :
 ((u.setCell ⟨w.heap.size+1+1,0,none⟩ y1).setCell ⟨w.heap.size+1+1,1,none⟩ y2).heap[g]? =some (.cells #[v1,v2] 28 (0,0)) /\
 ((u.setCell ⟨w.heap.size+1+1,0,none⟩ y1).setCell ⟨w.heap.size+1+1,1,none⟩ y2).heap[w.heap.size+1]? =some (.cells vs 24 (0,0)) /\
 Below w.heap.size w ((u.setCell ⟨w.heap.size+1+1,0,none⟩ y1).setCell ⟨w.heap.size+1+1,1,none⟩ y2):=by
 have hf:=h.JE;exact⟨((Below.heap_setCell _ _ _ _ (by simp;omega)).trans (Below.heap_setCell _ _ _ _ (by simp;omega))).trans h.x,((Below.heap_setCell _ _ _ _ (by simp)).trans (Below.heap_setCell _ _ _ _ (by simp))).trans h.all.dW,(h.all.below.setCell (by simp;omega) _).setCell (by simp;omega) _⟩
theorem vK {w u:World}{T:Tb}{start:Int}{p':Option Addr}{c' n:Nat}{x:Int}(hres:u.heap[w.heap.size+1+1]? =some (.cells #[.int .i64 x,.slice none 0 0] 28 (0,0)))(hr:ar u p' T.rows)(hb:Below w.heap.size w u)(hs:T.start=start)(hn:T.rows.length=n)(mk:Value->Value) :
 ew w T mk (.returned (mk (.agg #[.int .i64 start,.slice p' n (c'+n)]))) ((u.setCell ⟨w.heap.size+1+1,0,none⟩ (.int .i64 start)).setCell ⟨w.heap.size+1+1,1,none⟩ (.slice p' n (c'+n))):=by
 subst hs hn;have h2:(u.setCell ⟨w.heap.size+1+1,0,none⟩ (.int .i64 T.start)).heap[w.heap.size+1+1]? =some (.cells #[.int .i64 T.start,.slice none 0 0] 28 (0,0)):=by rw[ai _ 0 _ _ hres];rfl
 exact⟨p',c',rfl,gl h2 (gl hres hr),(hb.setCell (by simp;omega) _).setCell (by simp;omega) _⟩
theorem JF (start key now n sk tl va lo he ke qu pl R B lk la lm:Int)(p:Option Addr)(bf fo k:Nat)(nr c nz cf nl nT:Nat)(w:World)(out:List (Int×Int))(T:Tb)(rows:List Rw)
 (dF:∀u,Calls prog 45 #[.agg #[.int .i64 n,.int .i64 sk,.int .i64 tl,.int .i64 va,.int .i64 lo,.int .i64 he,.int .i64 ke,.int .i64 qu,.slice (some ⟨bf,fo,none⟩) nz cf],.int .i64 key] u fun e u'=>e=.returned (.int .i64 (k:Int))/\Below u.heap.size u u')
 (hat:∀u,Below w.heap.size w u->Calls prog 119 #[.agg #[.int .i64 start,.slice p nr (c+nr)],.int .i64 key] u fun e u'=>e=.returned (.int .i64 pl)/\Below u.heap.size u u')
 (b9:0<=pl∨pl<0/\(nr:Int)<ke)
 (jA:∀(u:World) (px:Option Addr) (cx:Nat),ar u px rows->Calls prog 122 #[.agg #[.int .i64 start,.slice px nr (cx+nr)],.int .i64 key,.int .i64 now,.agg #[.int .i64 R,.int .i64 B]] u fun e u'=>∃p1 c1,e=.returned (.agg #[.int .i64 lk,.int .i64 la,.int .i64 lm,.slice p1 nl (c1+nl)])/\ak u p1 out/\Below u.heap.size u u')
 (mQ:∀(u:World) (px:Option Addr) (cx:Nat) (pr:Option Addr) (cr:Nat),ar u px rows->ak u pr out->Calls prog 121 #[.agg #[.int .i64 start,.slice px nr (cx+nr)],.agg #[.int .i64 lk,.int .i64 la,.int .i64 lm,.slice pr nl (cr+nl)]] u fun e u'=>∃p' c',e=.returned (.agg #[.int .i64 start,.slice p' nT (c'+nT)])/\ar u' p' T.rows/\Below u.heap.size u u')
 (hk:k<nz) (hz:∀u,Below w.heap.size w u->u.cell? ⟨bf,fo+k*2,none⟩=some (.int .i64 R)/\u.cell? ⟨bf,fo+k*2+1,none⟩=some (.int .i64 B))
  (h:ar w p rows) (VZ:T.start=start) (V2:T.rows.length=nT) :
 Calls prog 62 #[.agg #[.int .i64 start,.slice p nr (c+nr)],.int .i64 key,.int .i64 now,.agg #[.int .i64 n,.int .i64 sk,.int .i64 tl,.int .i64 va,.int .i64 lo,.int .i64 he,.int .i64 ke,.int .i64 qu,.slice (some ⟨bf,fo,none⟩) nz cf]] w (ew w T (fun v=>.tuple #[v,.int .i64 0])):=by
 obtain⟨k0,k1,k2,hb⟩:=gq w (.cells #[.int .i64 start,.slice p nr (c+nr)] 28) (.cells #[.int .i64 n,.int .i64 sk,.int .i64 tl,.int .i64 va,.int .i64 lo,.int .i64 he,.int .i64 ke,.int .i64 qu,.slice (some ⟨bf,fo,none⟩) nz cf] 24) (.cells #[.int .i64 0,.slice none 0 0] 28);have X0:=hid (JB.mk k0 k1 k2 hb);have HTS:=hid VZ;have HTN:=hid V2;have HZ:=hid hz;have HR:=hid h;have Ql:(0:Int)<=(k:Int):=by omega
 have xj:(k:Int)<(nz:Int):=by omega
 clear k0 k1 k2 hb VZ V2 hz h;go_enter func62,ntmps62
 rcases b9 with hpl | ⟨hpl,Bt⟩
 all_goals
  go_wp2_with (first
   |(go_at_call 45;(with_reducible refine(dF _).mono ?_);rintro e u1 ⟨rfl,hb1⟩;have hx0:=X0.out.on hb1;obtain⟨z0,z1,-⟩:=dg hx0.oZ;have hx1:=JD.new hx0 (.int .i64 start) (.slice p nr (c+nr));obtain⟨a0,a1,-⟩:=dg hx1.all.oZ;have e6:=(aG hx1.all.dW).2.2.2.2.2.2.1;have Y1:=hid hx1;clear dF hx1 hx0 X0 hb1)
   |(go_at_call 119;(with_reducible refine(hat _ Y1.out.all.below).mono ?_);rintro e u2 ⟨rfl,hb2⟩;have Y2:=hid (Y1.out.on hb2);have a1:=(dg Y2.out.all.oZ).2.1;have e6:=(aG Y2.out.all.dW).2.2.2.2.2.2.1;clear hb2 Y1 hat))
  have YD:=hid (Y2.out.on (Below.refl _ _).drew);have RX:=hid (HR.out.below YD.out.all.below);obtain⟨x0,x1,-⟩:=dg Y2.out.x;have e8:=(aG Y2.out.all.dW).2.2.2.2.2.2.2.2;obtain⟨r0,r1⟩:=HZ.out _ Y2.out.all.below;clear a1 e6;go_region_held3 (fun u=>u.cell? ⟨u1.heap.size,0,none⟩=some (.int .i64 start)/\u.cell? ⟨u1.heap.size,1,none⟩=some (.slice p nr (c+nr))/\u.cell? ⟨w.heap.size+1,8,none⟩=some (.slice (some ⟨bf,fo,none⟩) nz cf)/\u.cell? ⟨bf,fo+k*2,none⟩=some (.int .i64 R)/\u.cell? ⟨bf,fo+k*2+1,none⟩=some (.int .i64 B)) (first | assumption | exact⟨x0,x1,e8,r0,r1⟩ | exact SM.out | exact SL.out) (first
   |(go_at_call 122;(with_reducible refine(jA _ _ _ RX.out).mono ?_);rintro e u5 ⟨p1,c1,rfl,Nb,xD⟩;have Y5:=hid (YD.out.on xD);have L5:=hid (Nb.below xD);have R5:=hid (RX.out.below xD);have SL:=hid (And.intro (dg Y5.out.x).1 (And.intro (dg Y5.out.x).2.1 (And.intro (aG Y5.out.all.dW).2.2.2.2.2.2.2.2 (HZ.out _ Y5.out.all.below)))))
   |(go_at_call 121;(with_reducible refine(mQ _ _ _ _ _ R5.out L5.out).mono ?_);rintro e u6 ⟨p',c',rfl,hr6,uH⟩;have Y6:=hid (Y5.out.on uH);have R6:=hid hr6;obtain⟨d0,d1,ff⟩:=dg Y6.out.all.gG;have f0:=ff 0;have f1:=ff 1;have SL:=hid (And.intro (dg Y6.out.x).1 (And.intro (dg Y6.out.x).2.1 (And.intro (aG Y6.out.all.dW).2.2.2.2.2.2.2.2 (HZ.out _ Y6.out.all.below))));obtain⟨m0,m1,m2⟩:=Y6.out.put (.int .i64 start) (.slice p' nT (c'+nT));have SM:=hid (And.intro (dg m0).1 (And.intro (dg m0).2.1 (And.intro (aG m1).2.2.2.2.2.2.2.2 (HZ.out _ m2))));clear m0 m1 m2))
  all_goals
   clear x0 x1 e8 r0 r1;go_wp2;refine bodyPost_ret (v:=.tuple #[.agg #[.int .i64 start,.slice p' nT (c'+nT)],.int .i64 0]) (by simp[results,results62,go_sem,d0,d1]) rfl ?_
   exact vK Y6.out.all.gG R6.out Y6.out.all.below HTS.out HTN.out (fun v=>.tuple #[v,.int .i64 0])
theorem EU (start key now n sk tl va lo he ke qu pl R B lk la lm:Int)(p:Option Addr)(bf fo k:Nat)(nr c nz cf nl nT ns:Nat)(w:World)(out:List (Int×Int))(T:Tb)(rows BR:List Rw)
 (dF:∀u,Calls prog 45 #[.agg #[.int .i64 n,.int .i64 sk,.int .i64 tl,.int .i64 va,.int .i64 lo,.int .i64 he,.int .i64 ke,.int .i64 qu,.slice (some ⟨bf,fo,none⟩) nz cf],.int .i64 key] u fun e u'=>e=.returned (.int .i64 (k:Int))/\Below u.heap.size u u')
 (hat:∀u,Below w.heap.size w u->Calls prog 119 #[.agg #[.int .i64 start,.slice p nr (c+nr)],.int .i64 key] u fun e u'=>e=.returned (.int .i64 pl)/\Below u.heap.size u u')
 (vL:∀u,ar u p rows->Below w.heap.size w u->Calls prog 120 #[.agg #[.int .i64 start,.slice p nr (c+nr)],.int .i64 now,.agg #[.int .i64 n,.int .i64 sk,.int .i64 tl,.int .i64 va,.int .i64 lo,.int .i64 he,.int .i64 ke,.int .i64 qu,.slice (some ⟨bf,fo,none⟩) nz cf]] u fun e u'=>∃px cx,e=.returned (.agg #[.int .i64 start,.slice px ns (cx+ns)])/\ar u' px BR/\Below u.heap.size u u')
 (jA:∀(u:World) (px:Option Addr) (cx:Nat),ar u px BR->Calls prog 122 #[.agg #[.int .i64 start,.slice px ns (cx+ns)],.int .i64 key,.int .i64 now,.agg #[.int .i64 R,.int .i64 B]] u fun e u'=>∃p1 c1,e=.returned (.agg #[.int .i64 lk,.int .i64 la,.int .i64 lm,.slice p1 nl (c1+nl)])/\ak u p1 out/\Below u.heap.size u u')
 (mQ:∀(u:World) (px:Option Addr) (cx:Nat) (pr:Option Addr) (cr:Nat),ar u px BR->ak u pr out->Calls prog 121 #[.agg #[.int .i64 start,.slice px ns (cx+ns)],.agg #[.int .i64 lk,.int .i64 la,.int .i64 lm,.slice pr nl (cr+nl)]] u fun e u'=>∃p' c',e=.returned (.agg #[.int .i64 start,.slice p' nT (c'+nT)])/\ar u' p' T.rows/\Below u.heap.size u u')
 (hk:k<nz) (hz:∀u,Below w.heap.size w u->u.cell? ⟨bf,fo+k*2,none⟩=some (.int .i64 R)/\u.cell? ⟨bf,fo+k*2+1,none⟩=some (.int .i64 B))
 (hpl:pl<0) (Bt:ke<=(nr:Int)) (hns:(ns:Int)<ke) (h:ar w p rows) (VZ:T.start=start) (V2:T.rows.length=nT) :
 Calls prog 62 #[.agg #[.int .i64 start,.slice p nr (c+nr)],.int .i64 key,.int .i64 now,.agg #[.int .i64 n,.int .i64 sk,.int .i64 tl,.int .i64 va,.int .i64 lo,.int .i64 he,.int .i64 ke,.int .i64 qu,.slice (some ⟨bf,fo,none⟩) nz cf]] w (ew w T (fun v=>.tuple #[v,.int .i64 0])):=by
 obtain⟨k0,k1,k2,hb⟩:=gq w (.cells #[.int .i64 start,.slice p nr (c+nr)] 28) (.cells #[.int .i64 n,.int .i64 sk,.int .i64 tl,.int .i64 va,.int .i64 lo,.int .i64 he,.int .i64 ke,.int .i64 qu,.slice (some ⟨bf,fo,none⟩) nz cf] 24) (.cells #[.int .i64 0,.slice none 0 0] 28);have X0:=hid (JB.mk k0 k1 k2 hb);have HTS:=hid VZ;have HTN:=hid V2;have HZ:=hid hz;have HR:=hid h;have Ql:(0:Int)<=(k:Int):=by omega
 have xj:(k:Int)<(nz:Int):=by omega
 clear k0 k1 k2 hb VZ V2 hz h;go_enter func62,ntmps62
 go_wp2_with (first
  |(go_at_call 45;(with_reducible refine(dF _).mono ?_);rintro e u1 ⟨rfl,hb1⟩;have hx0:=X0.out.on hb1;obtain⟨z0,z1,-⟩:=dg hx0.oZ;have hx1:=JD.new hx0 (.int .i64 start) (.slice p nr (c+nr));obtain⟨a0,a1,-⟩:=dg hx1.all.oZ;have e6:=(aG hx1.all.dW).2.2.2.2.2.2.1;have Y1:=hid hx1;clear dF hx1 hx0 X0 hb1)
  |(go_at_call 119;(with_reducible refine(hat _ Y1.out.all.below).mono ?_);rintro e u2 ⟨rfl,hb2⟩;have Y2:=hid (Y1.out.on hb2);obtain⟨a0,a1,-⟩:=dg Y2.out.all.oZ;obtain⟨e0,e1,e2,e3,e4,e5,e6,e7,e8⟩:=aG Y2.out.all.dW;have RW:=hid (HR.out.below Y2.out.all.below);clear hb2 Y1 hat)
  |(go_at_call 120;(with_reducible refine(vL _ RW.out Y2.out.all.below).mono ?_);rintro e u3 ⟨px,cx,rfl,hr3,hb3⟩;have hy:=Y2.out.on hb3;have g0:=(dg hy.x).2.2 0;have g1:=(dg hy.x).2.2 1;obtain⟨q0,q1,-⟩:=dg hy.x;have Nc:=hy.set (.int .i64 start) (.slice px ns (cx+ns));have R4:=hid (gl (o:=1) (y:=.slice px ns (cx+ns)) (by rw[ai _ 0 _ _ hy.x];rfl) (gl (o:=0) (y:=.int .i64 start) hy.x hr3));have Y4:=hid Nc;obtain⟨x0,x1,-⟩:=dg Nc.x;obtain⟨e0,e1,e2,e3,e4,e5,e6,e7,e8⟩:=aG Nc.all.dW;clear hy Nc hb3 hr3 Y2 RW vL))
 have YD:=hid (Y4.out.on (Below.refl _ _).drew);have RX:=hid (R4.out.below (Below.refl _ _).drew);obtain⟨r0,r1⟩:=HZ.out _ Y4.out.all.below;go_region_held3 (fun u=>u.cell? ⟨u1.heap.size,0,none⟩=some (.int .i64 start)/\u.cell? ⟨u1.heap.size,1,none⟩=some (.slice px ns (cx+ns))/\u.cell? ⟨w.heap.size+1,8,none⟩=some (.slice (some ⟨bf,fo,none⟩) nz cf)/\u.cell? ⟨bf,fo+k*2,none⟩=some (.int .i64 R)/\u.cell? ⟨bf,fo+k*2+1,none⟩=some (.int .i64 B)) (first | assumption | exact⟨x0,x1,e8,r0,r1⟩ | exact SM.out | exact SL.out) (first
  |(go_at_call 122;(with_reducible refine(jA _ _ _ RX.out).mono ?_);rintro e u5 ⟨p1,c1,rfl,Nb,xD⟩;have Y5:=hid (YD.out.on xD);have L5:=hid (Nb.below xD);have R5:=hid (RX.out.below xD);have SL:=hid (And.intro (dg Y5.out.x).1 (And.intro (dg Y5.out.x).2.1 (And.intro (aG Y5.out.all.dW).2.2.2.2.2.2.2.2 (HZ.out _ Y5.out.all.below)))))
  |(go_at_call 121;(with_reducible refine(mQ _ _ _ _ _ R5.out L5.out).mono ?_);rintro e u6 ⟨p',c',rfl,hr6,uH⟩;have Y6:=hid (Y5.out.on uH);have R6:=hid hr6;obtain⟨d0,d1,ff⟩:=dg Y6.out.all.gG;have f0:=ff 0;have f1:=ff 1;have SL:=hid (And.intro (dg Y6.out.x).1 (And.intro (dg Y6.out.x).2.1 (And.intro (aG Y6.out.all.dW).2.2.2.2.2.2.2.2 (HZ.out _ Y6.out.all.below))));obtain⟨m0,m1,m2⟩:=Y6.out.put (.int .i64 start) (.slice p' nT (c'+nT));have SM:=hid (And.intro (dg m0).1 (And.intro (dg m0).2.1 (And.intro (aG m1).2.2.2.2.2.2.2.2 (HZ.out _ m2))));clear m0 m1 m2))
 all_goals
  clear x0 x1 e8 r0 r1;go_wp2;refine bodyPost_ret (v:=.tuple #[.agg #[.int .i64 start,.slice p' nT (c'+nT)],.int .i64 0]) (by simp[results,results62,go_sem,d0,d1]) rfl ?_
  exact vK Y6.out.all.gG R6.out Y6.out.all.below HTS.out HTN.out (fun v=>.tuple #[v,.int .i64 0])
theorem JG (start key now n sk tl va lo he ke qu pl:Int)(p:Option Addr)(bf fo k:Nat)(nr c nz cf ns:Nat)(w:World)(rows BR:List Rw)
 (dF:∀u,Calls prog 45 #[.agg #[.int .i64 n,.int .i64 sk,.int .i64 tl,.int .i64 va,.int .i64 lo,.int .i64 he,.int .i64 ke,.int .i64 qu,.slice (some ⟨bf,fo,none⟩) nz cf],.int .i64 key] u fun e u'=>e=.returned (.int .i64 (k:Int))/\Below u.heap.size u u')
 (hat:∀u,Below w.heap.size w u->Calls prog 119 #[.agg #[.int .i64 start,.slice p nr (c+nr)],.int .i64 key] u fun e u'=>e=.returned (.int .i64 pl)/\Below u.heap.size u u')
 (vL:∀u,ar u p rows->Below w.heap.size w u->Calls prog 120 #[.agg #[.int .i64 start,.slice p nr (c+nr)],.int .i64 now,.agg #[.int .i64 n,.int .i64 sk,.int .i64 tl,.int .i64 va,.int .i64 lo,.int .i64 he,.int .i64 ke,.int .i64 qu,.slice (some ⟨bf,fo,none⟩) nz cf]] u fun e u'=>∃px cx,e=.returned (.agg #[.int .i64 start,.slice px ns (cx+ns)])/\ar u' px BR/\Below u.heap.size u u')
 (hpl:pl<0) (Bt:ke<=(nr:Int)) (hns:ke<=(ns:Int)) (h:ar w p rows) (ym:rows.length=nr) :
 Calls prog 62 #[.agg #[.int .i64 start,.slice p nr (c+nr)],.int .i64 key,.int .i64 now,.agg #[.int .i64 n,.int .i64 sk,.int .i64 tl,.int .i64 va,.int .i64 lo,.int .i64 he,.int .i64 ke,.int .i64 qu,.slice (some ⟨bf,fo,none⟩) nz cf]] w (ew w ⟨start,rows⟩ (fun v=>.tuple #[v,.int .i64 3])):=by
 obtain⟨k0,k1,k2,hb⟩:=gq w (.cells #[.int .i64 start,.slice p nr (c+nr)] 28) (.cells #[.int .i64 n,.int .i64 sk,.int .i64 tl,.int .i64 va,.int .i64 lo,.int .i64 he,.int .i64 ke,.int .i64 qu,.slice (some ⟨bf,fo,none⟩) nz cf] 24) (.cells #[.int .i64 0,.slice none 0 0] 28);have X0:=hid (JB.mk k0 k1 k2 hb);have HR:=hid h;clear k0 k1 k2 hb h;go_enter func62,ntmps62
 go_wp2_with (first
  |(go_at_call 45;(with_reducible refine(dF _).mono ?_);rintro e u1 ⟨rfl,hb1⟩;have hx0:=X0.out.on hb1;obtain⟨z0,z1,-⟩:=dg hx0.oZ;have hx1:=JD.new hx0 (.int .i64 start) (.slice p nr (c+nr));obtain⟨a0,a1,-⟩:=dg hx1.all.oZ;have e6:=(aG hx1.all.dW).2.2.2.2.2.2.1;have Y1:=hid hx1;clear dF hx1 hx0 X0 hb1)
  |(go_at_call 119;(with_reducible refine(hat _ Y1.out.all.below).mono ?_);rintro e u2 ⟨rfl,hb2⟩;have Y2:=hid (Y1.out.on hb2);obtain⟨a0,a1,-⟩:=dg Y2.out.all.oZ;obtain⟨e0,e1,e2,e3,e4,e5,e6,e7,e8⟩:=aG Y2.out.all.dW;have RW:=hid (HR.out.below Y2.out.all.below);clear hb2 Y1 hat)
  |(go_at_call 120;(with_reducible refine(vL _ RW.out Y2.out.all.below).mono ?_);rintro e u3 ⟨px,cx,rfl,hr3,hb3⟩;have hy:=Y2.out.on hb3;have g0:=(dg hy.x).2.2 0;have g1:=(dg hy.x).2.2 1;obtain⟨q0,q1,-⟩:=dg hy.x;have Nc:=hy.set (.int .i64 start) (.slice px ns (cx+ns));have R4:=hid (gl (o:=1) (y:=.slice px ns (cx+ns)) (by rw[ai _ 0 _ _ hy.x];rfl) (gl (o:=0) (y:=.int .i64 start) hy.x hr3));have Y4:=hid Nc;obtain⟨a0,a1,-⟩:=dg Nc.all.oZ;obtain⟨d0,d1,ff⟩:=dg Nc.all.gG;have f0:=ff 0;have f1:=ff 1;obtain⟨x0,x1,-⟩:=dg Nc.x;obtain⟨e0,e1,e2,e3,e4,e5,e6,e7,e8⟩:=aG Nc.all.dW;clear hy Nc hb3 hr3 Y2 RW vL))
 refine bodyPost_ret (v:=.tuple #[.agg #[.int .i64 start,.slice p nr (c+nr)],.int .i64 3]) (by simp[results,results62,go_sem,d0,d1]) rfl ?_
 have BE:=Y4.out.all.out (.int .i64 start) (.slice p nr (c+nr));exact⟨p,c,by rw[<-ym];rfl,HR.out.below BE,BE⟩
theorem BS (t:Tb)(p:Option Addr)(c:Nat)(key now:Int)(f:Cf)(pf:Option Addr)(cf:Nat)(w:World)(h:ar w p t.rows)(hz:iU w pf f.aH)(hl:t.rows.length<=1000)(ho:∀r∈t.rows,r.out.length<=1000) :
 Calls prog 62 #[bN t p c,.int .i64 key,.int .i64 now,gD f pf cf] w (ew w (bV t key now f).1 (fun v=>.tuple #[v,.int .i64 (bV t key now f).2])):=by
 have dF:=fun u=>BK f pf cf key u
 have hat:=fun u (hu:Below w.heap.size w u)=>Mu t p c key u (h.below hu) hl
 have Nd:=sq t now f;by_cases h1:cB f.aH key<0
 ·have e:bV t key now f=(t,4):=by unfold bV;rw[if_pos h1]
  rw[e];exact JC t.start key now f.n f.js f.Qg f.fW f.zR f.zS f.aR f.qM _ p pf t.rows.length c f.aH.length cf w t.rows (fun u=>(dF u).mono fun e u' he=>⟨he.1,he.2⟩) h1 h rfl
 ·obtain ⟨k,hk,Tp⟩:=si f.aH key (by omega)
  obtain⟨bf,fo,rfl,r0,r1⟩:=cC hz Tp;have er:aX f key=f.aH.getD k (0,0):=by unfold aX;rw[hk,Int.toNat_natCast]
  have hzz:∀u,Below w.heap.size w u->u.cell? ⟨bf,fo+k*2,none⟩=some (.int .i64 (aX f key).1)/\u.cell? ⟨bf,fo+k*2+1,none⟩=some (.int .i64 (aX f key).2):=fun u hu=>by
   rw[er];exact⟨af r0 hu,af r1 hu⟩
  rw[hk] at dF;by_cases h2:0<=au t.rows key∨(t.rows.length:Int)<f.aR
  ·have e:bV t key now f=(setRow t (gZ t key now (aX f key).1 (aX f key).2),0):=by unfold bV;rw[if_neg h1,if_pos h2]
   rw[e];refine JF t.start key now f.n f.js f.Qg f.fW f.zR f.zS f.aR f.qM (au t.rows key) (aX f key).1 (aX f key).2 (gZ t key now (aX f key).1 (aX f key).2).key (gZ t key now (aX f key).1 (aX f key).2).ay (gZ t key now (aX f key).1 (aX f key).2).mark p bf fo k t.rows.length c f.aH.length cf (gZ t key now (aX f key).1 (aX f key).2).out.length (setRow t (gZ t key now (aX f key).1 (aX f key).2)).rows.length w (gZ t key now (aX f key).1 (aX f key).2).out (setRow t (gZ t key now (aX f key).1 (aX f key).2)) t.rows dF hat (by omega) ?_ ?_ Tp hzz h rfl rfl
   ·intro u px cx hu
    exact(BD t px cx key now _ _ u u hu (Below.refl _ _) hl ho).mono fun e u' ⟨p1,c1,h1,h2,h3⟩=>⟨p1,c1,h1,h2,h3⟩
   ·intro u px cx pr cr hu hr
    exact(uF t px cx _ pr cr u u hu hr (Below.refl _ _) hl).mono fun e u' ⟨p1,c1,h1,h2,h3⟩=>⟨p1,c1,h1,h2,h3⟩
  ·have hpl:au t.rows key<0:=by omega
   have Bt:f.aR<=(t.rows.length:Int):=by omega
   have hsw:∀u,ar u p t.rows->Below w.heap.size w u->Calls prog 120 #[bN t p c,.int .i64 now,gD f (some ⟨bf,fo,none⟩) cf] u fun e u'=>∃px cx,e=.returned (.agg #[.int .i64 t.start,.slice px (dc t now f).rows.length (cx+(dc t now f).rows.length)])/\ar u' px (dc t now f).rows/\Below u.heap.size u u':=fun u hu hb =>
    (sj t p c now f _ cf u hu (hz.below hb) hl).mono fun e u' ⟨p1,c1,h1,h2,h3⟩=>⟨p1,c1,h1,h2,h3⟩
   by_cases h3:f.aR<=((dc t now f).rows.length:Int)
   ·have e:bV t key now f=(t,3):=by unfold bV;rw[if_neg h1,if_neg h2,if_pos h3]
    rw[e];exact JG t.start key now f.n f.js f.Qg f.fW f.zR f.zS f.aR f.qM (au t.rows key) p bf fo k t.rows.length c f.aH.length cf (dc t now f).rows.length w t.rows (dc t now f).rows dF hat hsw hpl Bt h3 h rfl
   ·have e:bV t key now f=(setRow (dc t now f) (gZ (dc t now f) key now (aX f key).1 (aX f key).2),0):=by unfold bV;rw[if_neg h1,if_neg h2,if_neg h3]
    rw[e];have xZ:∀r∈(dc t now f).rows,r.out.length<=1000:=fun r hr=>ho r (oG hr)
    generalize hL:gZ (dc t now f) key now (aX f key).1 (aX f key).2=L;refine EU t.start key now f.n f.js f.Qg f.fW f.zR f.zS f.aR f.qM (au t.rows key) (aX f key).1 (aX f key).2 L.key L.ay L.mark p bf fo k t.rows.length c f.aH.length cf L.out.length (setRow (dc t now f) L).rows.length (dc t now f).rows.length w L.out (setRow (dc t now f) L) t.rows (dc t now f).rows dF hat hsw ?_ ?_ Tp hzz hpl Bt (by omega) h rfl rfl
    ·intro u px cx hu
     rw[<-hL];exact(BD (dc t now f) px cx key now _ _ u u hu (Below.refl _ _) (by omega) xZ).mono fun e u' ⟨p1,c1,h1,h2,h3⟩=>⟨p1,c1,h1,h2,h3⟩
    ·intro u px cx pr cr hu hr
     exact(uF (dc t now f) px cx L pr cr u u hu hr (Below.refl _ _) (by omega)).mono fun e u' ⟨p1,c1,h1,h2,h3⟩=>⟨p1,c1,h1,h2,h3⟩
open Zq (ae aj ai)
structure Mem (w:World)(bs:List (Nat×Array Value×TypeId))(rs:List (Option Addr×List Rw))(ls:List (Option Addr×List (Int×Int)))(u:World):Prop where
 boxes:∀(i:Nat) (g:Nat) (vs:Array Value) (T:TypeId),bs[i]? =some (g,vs,T)->u.heap[g]? =some (.cells vs T (0,0))
 rows:∀(i:Nat) (p:Option Addr) (l:List Rw),rs[i]? =some (p,l)->ar u p l
 dS:∀(i:Nat) (p:Option Addr) (l:List (Int×Int)),ls[i]? =some (p,l)->ak u p l
 below:Below w.heap.size w u
section
variable {w u u':World}{bs:List (Nat×Array Value×TypeId)}{rs:List (Option Addr×List Rw)}{ls:List (Option Addr×List (Int×Int))}
theorem Mem.start (w:World):Mem w [] [] [] w:=⟨fun i g vs T h=>by simp at h,fun i p l h=>by simp at h,fun i p l h=>by simp at h,Below.refl _ _⟩
theorem Mem.on (h:Mem w bs rs ls u)(hb:Below u.heap.size u u'):Mem w bs rs ls u' :=
 ⟨fun i g vs T e=>(hb.block _ (ae (h.boxes i g vs T e))).trans (h.boxes i g vs T e),fun i p l e=>(h.rows i p l e).below hb,fun i p l e=>(h.dS i p l e).below hb,h.below.trans (hb.mono h.below.size)⟩
theorem Mem.drew (h:Mem w bs rs ls u):Mem w bs rs ls u.drew:=h.on (Below.refl _ _).drew
theorem Mem.box (h:Mem w bs rs ls u)(vs:Array Value)(T:TypeId):Mem w ((u.heap.size,vs,T) :: bs) rs ls (u.alloc (.cells vs T)):=by
 have h':=h.on ((Below.refl _ _).alloc (Nat.le_refl _) (.cells vs T));refine⟨fun i g U5 T' e=> ?_,h'.rows,h'.dS,h'.below⟩
 cases i with
 | zero =>
   simp only[List.getElem?_cons_zero,Option.some.injEq,Prod.mk.injEq] at e;obtain⟨rfl,rfl,rfl⟩:=e;exact heap_alloc_new _ _
 | succ i=>exact h'.boxes i g U5 T' (by simpa using e)
theorem Mem.Qm (h:Mem w bs rs ls u){p:Option Addr}{l:List Rw}(hr:ar u p l):Mem w bs ((p,l) :: rs) ls u:=by
 refine⟨h.boxes,fun i p' l' e=> ?_,h.dS,h.below⟩
 cases i with
 | zero =>
   simp only[List.getElem?_cons_zero,Option.some.injEq,Prod.mk.injEq] at e;obtain⟨rfl,rfl⟩:=e;exact hr
 | succ i=>exact h.rows i p' l' (by simpa using e)
theorem Mem.oH (h:Mem w bs rs ls u){p:Option Addr}{l:List (Int×Int)}(hr:ak u p l):Mem w bs rs ((p,l) :: ls) u:=by
 refine⟨h.boxes,h.rows,fun i p' l' e=> ?_,h.below⟩
 cases i with
 | zero =>
   simp only[List.getElem?_cons_zero,Option.some.injEq,Prod.mk.injEq] at e;obtain⟨rfl,rfl⟩:=e;exact hr
 | succ i=>exact h.dS i p' l' (by simpa using e)
end
theorem size_alloc (u:World)(o:Obj):(u.alloc o).heap.size=u.heap.size+1:=by simp
theorem eB {w:World}{b:Nat}{v0 v1:Value}{T:TypeId}(h:w.heap[b]? =some (.cells #[v0,v1] T (0,0))):w.cell? ⟨b,0,none⟩=some v0/\w.cell? ⟨b,1,none⟩=some v1/\∀o,w.frozen? ⟨b,o,none⟩=false :=
 ⟨by rw[cell_of_row w b 0 _ _ (0,0) h];rfl,by rw[cell_of_row w b 1 _ _ (0,0) h];rfl,fun _=>aj h⟩
theorem dG {w:World}{b:Nat}{v0 v1 v2 v3:Value}{T:TypeId}(h:w.heap[b]? =some (.cells #[v0,v1,v2,v3] T (0,0))):w.cell? ⟨b,0,none⟩=some v0/\w.cell? ⟨b,1,none⟩=some v1/\w.cell? ⟨b,2,none⟩=some v2/\w.cell? ⟨b,3,none⟩=some v3/\∀o,w.frozen? ⟨b,o,none⟩=false :=
 ⟨by rw[cell_of_row w b 0 _ _ (0,0) h];rfl,by rw[cell_of_row w b 1 _ _ (0,0) h];rfl,by rw[cell_of_row w b 2 _ _ (0,0) h];rfl,by rw[cell_of_row w b 3 _ _ (0,0) h];rfl,fun _=>aj h⟩
end Zv
namespace Zo
open Zx (Rw Tb Tk aq ak dK ar af cG bn)
open Zq (cX ae aj ai)
theorem bz {w:World}{b:Nat}{v0 v1 v2 v3 v4:Value}{T:TypeId}(h:w.heap[b]? =some (.cells #[v0,v1,v2,v3,v4] T (0,0))):w.cell? ⟨b,0,none⟩=some v0/\w.cell? ⟨b,1,none⟩=some v1/\w.cell? ⟨b,2,none⟩=some v2/\w.cell? ⟨b,3,none⟩=some v3/\w.cell? ⟨b,4,none⟩=some v4/\∀o,w.frozen? ⟨b,o,none⟩=false:=by
 obtain⟨h0,h1,h2,h3,h4⟩:=bQ h;exact⟨h0,h1,h2,h3,h4,fun _=>aj h⟩
theorem gJ {B:Nat}{u:World}{p:Option Addr}{n c:Nat}{l:List Int}(h:fj B u (.slice p n c) l):cX u p l:=by
 obtain⟨p',c',e,hc⟩:=fj.bX h;simp only[Value.slice.injEq] at e;obtain⟨rfl,-,-⟩:=e;by_cases h0:l=[]
 ·exact .inl h0
 ·obtain ⟨b,o,e,-⟩:=hc 0 (List.length_pos_iff.2 h0)
  refine .inr ⟨b,o,e,fun k hk=> ?_⟩
  obtain⟨b',o',e',hcell⟩:=hc k hk;rw[e] at e';simp only[Option.some.injEq,Addr.mk.injEq,and_true] at e';obtain⟨rfl,rfl⟩:=e';exact hcell
end Zo
namespace Zx
open Go.RowKit Zq
theorem aU (x lo hi:Int)(w:World):Calls prog 142 #[.int .i64 x,.int .i64 lo,.int .i64 hi] w fun e w'=>e=.returned (.bool (cy x lo hi))/\w=w':=by
 cases h:cy x lo hi with
 | true =>
   obtain⟨h0,h1⟩:=mY h;clear h;go_enter func142,ntmps142
   go_wp2;go_ret;exact⟨rfl,rfl⟩
 | false =>
   rcases zG h with h0 | ⟨h0,h1⟩
   ·have h2:decide (lo<=x)=false:=by simp;omega
    clear h h0;go_enter func142,ntmps142
    go_wp2;go_ret;exact⟨rfl,rfl⟩
   ·have h2:decide (x<=hi)=false:=by simp;omega
    clear h h1;go_enter func142,ntmps142
    go_wp2;go_ret;exact⟨rfl,rfl⟩
theorem BT (x lo hi:Int)(w:World):Calls prog 133 #[.int .i64 x,.int .i64 lo,.int .i64 hi] w fun e w'=>e=.returned (.bool (cy x lo hi))/\w=w':=by
 cases h:cy x lo hi with
 | true =>
   obtain⟨h0,h1⟩:=mY h;clear h;go_enter func133,ntmps133
   go_wp2;go_ret;exact⟨rfl,rfl⟩
 | false =>
   rcases zG h with h0 | ⟨h0,h1⟩
   ·have h2:decide (lo<=x)=false:=by simp;omega
    clear h h0;go_enter func133,ntmps133
    go_wp2;go_ret;exact⟨rfl,rfl⟩
   ·have h2:decide (x<=hi)=false:=by simp;omega
    clear h h1;go_enter func133,ntmps133
    go_wp2;go_ret;exact⟨rfl,rfl⟩
theorem Nf (x:Int)(w:World):Calls prog 134 #[.int .i64 x] w fun e w'=>e=.returned (.bool (fI x))/\w=w':=by
 have hk:cy x 0 524287=fI x:=by
  unfold cy fI
  congr 1
  apply propext;omega
 have hc:=fun u=>BT x 0 524287 u
 rw[hk] at hc;generalize fI x=b at hc ⊢;clear hk;go_enter func134,ntmps134
 go_wp2_with (go_at_call 133;(with_reducible refine(hc _).mono ?_);rintro e w1 ⟨rfl,rfl⟩)
 go_ret;exact⟨rfl,rfl⟩
theorem pL (x:Int)(w:World):Calls prog 211 #[.int .i64 x] w fun e w'=>e=.returned (.bool (cy x 0 63))/\w=w':=by
 have hc:=fun u=>aU x 0 63 u
 generalize cy x 0 63=b at hc ⊢;go_enter func211,ntmps211
 go_wp2_with (go_at_call 142;(with_reducible refine(hc _).mono ?_);rintro e w1 ⟨rfl,rfl⟩)
 go_ret;exact⟨rfl,rfl⟩
theorem Qn (x:Int)(w:World):Calls prog 93 #[.int .i64 x] w fun e w'=>e=.returned (.bool (cy x 1 1099511627776))/\w=w':=by
 have hc:=fun u=>aU x 1 1099511627776 u
 generalize cy x 1 1099511627776=b at hc ⊢;go_enter func93,ntmps93
 go_wp2_with (go_at_call 142;(with_reducible refine(hc _).mono ?_);rintro e w1 ⟨rfl,rfl⟩)
 go_ret;exact⟨rfl,rfl⟩
theorem Qo (x:Int)(w:World):Calls prog 94 #[.int .i64 x] w fun e w'=>e=.returned (.bool (cy x 0 1099511627776))/\w=w':=by
 have hc:=fun u=>aU x 0 1099511627776 u
 generalize cy x 0 1099511627776=b at hc ⊢;go_enter func94,ntmps94
 go_wp2_with (go_at_call 142;(with_reducible refine(hc _).mono ?_);rintro e w1 ⟨rfl,rfl⟩)
 go_ret;exact⟨rfl,rfl⟩
def nA (l:List (Int×Int))(j:Nat):Int:=if j=0 then -1 else (l.getD (j-1) (0,0)).1
theorem Ng {l:List (Int×Int)}{j:Nat}(h:(l.getD j (0,0)).1<=nA l j∨cy (l.getD j (0,0)).1 0 63=false∨cy (l.getD j (0,0)).2 1 2147483648=false):di l j=false:=by
 rcases h with h | h | h
 ·unfold nA at h
  by_cases hj:j=0
  ·rw [if_pos hj] at h
   exact jd (.inl (by unfold cy;exact decide_eq_false (by omega)))
  ·rw [if_neg hj] at h
   exact jd (.inr (.inr ⟨by omega,h⟩))
 ·exact jd (.inl h)
 ·exact jd (.inr (.inl h))
theorem JH {l:List (Int×Int)}{j:Nat}(h:nA l j<(l.getD j (0,0)).1)(h0:cy (l.getD j (0,0)).1 0 63=true)(h1:cy (l.getD j (0,0)).2 1 2147483648=true):di l j=true:=by
 refine vy h0 h1 ?_;unfold nA at h;by_cases hj:j=0
 ·exact .inl hj
 ·rw [if_neg hj] at h
  exact .inr h
theorem BU (l:List (Int×Int))(j:Nat):nA l (j+1)=(l.getD j (0,0)).1:=by simp[nA]
theorem BV (l:List (Int×Int))(n:Nat)(h:∀q,q<n->di l q=true):∀q,q<n->(q:Int)<=(l.getD q (0,0)).1/\(l.getD q (0,0)).1<=63:=by
 intro q
 induction q with
 | zero =>
   intro hq;have:=h 0 hq;unfold di at this;simp only[Bool.and_eq_true] at this;have:=mY this.1.1;omega
 | succ q ih =>
   intro hq;have h1:=ih (by omega)
   have:=h (q+1) hq;unfold di at this;simp only[Bool.and_eq_true,Bool.or_eq_true,Nat.add_sub_cancel] at this;have h2:=mY this.1.1;rcases this.2 with h3 | h3
   ·simp at h3
   ·have:=of_decide_eq_true h3
    omega
theorem EV (l:List (Int×Int))(h:dC (di l) l.length=true):l.length<=64:=by
 by_cases h0:l.length=0
 ·omega
 ·have h1:∀q,q<l.length->di l q=true:=by
   intro q hq;rw[dC,List.all_eq_true] at h;exact h q (List.mem_range.2 hq)
  have:=BV l l.length h1 (l.length-1) (by omega)
  omega
theorem BW (r:Rw)(start:Int):iY r start=(fI r.key&&cy r.ay 0 2147483648&&cy r.mark start 4611686018427387904&&dC (di r.out) r.out.length):=by
 unfold iY;cases h:dC (di r.out) r.out.length with
 | false=>simp
 | true =>
   have:=EV r.out h;rw[decide_eq_true this,Bool.and_true]
theorem EW (p:Option Addr)(l:List (Int×Int))(c:Nat)(w:World)(hn:(l.length:Int)<=9223372036854775807)(hl:ak w p l) :
 Calls prog 185 #[.slice p l.length c] w (cG w (dC (di l) l.length)):=by
 generalize hB:dC (di l) l.length=R;have HB:=hid hB;have HL:=hid hl;clear hB hl;go_enter func185,ntmps185
 go_wp2;go_loopw [3,8] (fun la i wr=>∃j:Nat,j<=l.length/\la=.int .i64 (nA l j)/\i=.int .i64 (j:Int)/\Hid (∀q,q<j->di l q=true)/\Below w.heap.size w wr) (fun _ i _=>l.length-(intOf i).toNat)
 case atStart=>exact ⟨0,by omega,rfl,rfl,(by intro q hq;omega),Below.refl _ _⟩
 case round =>
  obtain⟨j,hj,rfl,rfl,o7,hb⟩:=hrel;have Ez:ak wr p l:=HL.out.below hb;by_cases aC:j<l.length
  ·obtain ⟨g,o,rfl,hc⟩:∃g o,p=some ⟨g,o,none⟩/\∀j,j<l.length->wr.cell? ⟨g,o+j*2,none⟩=some (.int .i64 (l.getD j (0,0)).1)/\wr.cell? ⟨g,o+j*2+1,none⟩=some (.int .i64 (l.getD j (0,0)).2):=by
    rcases Ez with h | h
    ·rw [h] at aC;simp at aC
    ·exact h
   have hc0:=(hc j aC).1;have hc1:=(hc j aC).2;have Mb:g<wr.heap.size:=World.block_lt_of_cell? _ _ hc0;have rM:=hid (Ng (l:=l) (j:=j));have ku:=hid (JH (l:=l) (j:=j));have xv:=hid (BU l j);generalize(l.getD j (0,0)).1=x at hc0 rM ku xv;generalize(l.getD j (0,0)).2=y at hc1 rM ku;generalize nA l j=z at rM ku;clear Ez hc;have hb1:Below w.heap.size w (wr.alloc (.cells #[.int .i64 x,.int .i64 y] 141)):=hb.alloc hb.size _;have aO:=hid hb1;have c1:=fun u=>pL x u
   have c2:=fun u=>aU y 1 2147483648 u
   clear hb1;by_cases hz:x<=z
   ·obtain rfl:R=false:=by rw[<-HB.out];exact cU aC (rM.out (.inl hz))
    have hd:decide (x<=z)=true:=decide_eq_true hz;clear rM ku hz xv c1 c2;go_wp2;go_ret;exact⟨rfl,aO.out⟩
   ·have hd:decide (x<=z)=false:=decide_eq_false hz
    cases hx:cy x 0 63 with
    | false =>
      obtain rfl:R=false:=by rw[<-HB.out];exact cU aC (rM.out (.inr (.inl hx)))
      rw[hx] at c1;clear rM ku hz xv hx;go_wp2_with (go_at_call 211;(with_reducible refine(c1 _).mono ?_);rintro e w1 ⟨rfl,rfl⟩)
      go_ret;exact⟨rfl,aO.out⟩
    | true =>
      cases hy:cy y 1 2147483648 with
      | false =>
        obtain rfl:R=false:=by rw[<-HB.out];exact cU aC (rM.out (.inr (.inr hy)))
        rw[hx] at c1;rw[hy] at c2;clear rM ku hz xv hx hy;go_wp2_with (first
         |(go_at_call 211;(with_reducible refine(c1 _).mono ?_);rintro e w1 ⟨rfl,rfl⟩)
         |(go_at_call 142;(with_reducible refine(c2 _).mono ?_);rintro e w1 ⟨rfl,rfl⟩))
        go_ret;exact⟨rfl,aO.out⟩
      | true =>
        have HJ:=hid (ku.out (by omega) hx hy)
        rw[hx] at c1;rw[hy] at c2;clear rM ku hz hx hy;go_wp2_with (first
         |(go_at_call 211;(with_reducible refine(c1 _).mono ?_);rintro e w1 ⟨rfl,rfl⟩)
         |(go_at_call 142;(with_reducible refine(c2 _).mono ?_);rintro e w1 ⟨rfl,rfl⟩))
        go_roundw
        case rel=>exact ⟨j+1,by omega,by rw[xv.out],by go_num,(by intro q hq;rcases Nat.lt_succ_iff_lt_or_eq.1 hq with h | h;exact o7.out q h;rw[h];exact HJ.out),aO.out⟩
        case measure=>simp [intOf];omega
  ·obtain rfl:j=l.length:=by omega
   obtain rfl:R=true:=by rw[<-HB.out];exact dO o7.out
   go_wp2;go_ret;exact⟨rfl,hb⟩
theorem EX (p:Option Addr)(l:List Int)(c:Nat)(w:World)(hn:(l.length:Int)<=9223372036854775807)(hl:cX w p l) :
 Calls prog 95 #[.slice p l.length c] w fun e w'=>e=.returned (.bool (cy l.length 1 64&&ig l l.length))/\w=w':=by
 have c0:=fun u=>aU l.length 1 64 u
 generalize cy l.length 1 64=h at c0 ⊢;cases h with
 | false =>
   rw[Bool.false_and];clear hl;go_enter func95,ntmps95
   go_wp2_with (go_at_call 142;(with_reducible refine(c0 _).mono ?_);rintro e w1 ⟨rfl,rfl⟩)
   go_ret;exact⟨rfl,rfl⟩
 | true =>
   rw[Bool.true_and];unfold ig;generalize hB:dC (fun i=>cy (l.getD i 0) (-1) 4611686018427387903) l.length=R
   have HB:=hid hB;have HL:=hid hl;clear hB hl;go_enter func95,ntmps95
   go_wp2_with (go_at_call 142;(with_reducible refine(c0 _).mono ?_);rintro e w1 ⟨rfl,rfl⟩)
   clear c0;go_loop [11] (fun i=>∃j:Nat,j<=l.length/\i=.int .i64 (j:Int)/\Hid (∀q,q<j->cy (l.getD q 0) (-1) 4611686018427387903=true)) (fun i=>l.length-(intOf i).toNat)
   case atStart=>exact ⟨0,by omega,rfl,(by intro q hq;omega)⟩
   case round =>
    obtain⟨j,hj,rfl,o7⟩:=hrel;by_cases aC:j<l.length
    ·obtain ⟨g,o,rfl,hc⟩:∃g o,p=some ⟨g,o,none⟩/\∀j,j<l.length->w.cell? ⟨g,o+j,none⟩=some (.int .i64 (l.getD j 0)):=by
      rcases HL.out with h | h
      ·rw [h] at aC;simp at aC
      ·exact h
     have hcj:=hc j aC;have ci:=fun u=>aU (l.getD j 0) (-1) 4611686018427387903 u
     have HJ:=hid (show ∀bo,cy (l.getD j 0) (-1) 4611686018427387903=bo->(bo=false->R=false)/\(bo=true->∀q,q<j+1->cy (l.getD q 0) (-1) 4611686018427387903=true) from fun bo MV =>
      ⟨fun h=>by rw[<-HB.out];exact cU aC (by rw[MV];exact h),fun h q hq=>by
       rcases Nat.lt_succ_iff_lt_or_eq.1 hq with h1 | h1
       ·exact o7.out q h1
       ·rw [h1,MV];exact h⟩)
     have MW:=hid (HJ.out _ rfl);generalize cy (l.getD j 0) (-1) 4611686018427387903=b at ci MW;generalize l.getD j 0=x at hcj ci;clear hc HJ;cases b with
     | false =>
       obtain rfl:=MW.out.1 rfl;clear MW;go_wp2_with (go_at_call 142;(with_reducible refine(ci _).mono ?_);rintro e w1 ⟨rfl,rfl⟩)
       go_ret;exact⟨rfl,rfl⟩
     | true =>
       have HK:=hid (MW.out.2 rfl);clear MW;go_wp2_with (go_at_call 142;(with_reducible refine(ci _).mono ?_);rintro e w1 ⟨rfl,rfl⟩)
       go_round
       case rel=>exact ⟨j+1,by omega,by go_num,HK⟩
       case measure=>simp [intOf];omega
    ·obtain rfl:j=l.length:=by omega
     obtain rfl:R=true:=by rw[<-HB.out];exact dO o7.out
     go_wp2;go_ret;exact⟨rfl,rfl⟩
theorem JI (k a m start:Int)(p:Option Addr)(n c:Nat)(w:World)(b0 b1 b2 b3 R:Bool)(h1:fI k=b0)(h2:cy a 0 2147483648=b1)(h3:cy m start 4611686018427387904=b2)
 (hl:∀u,Below w.heap.size w u->Calls prog 185 #[.slice p n c] u (cG u b3)) (hR:(b0&&b1&&b2&&b3)=R) :
 Calls prog 143 #[.agg #[.int .i64 k,.int .i64 a,.int .i64 m,.slice p n c],.int .i64 start] w (cG w R):=by
 have ck:=fun u=>Nf k u
 have ca:=fun u=>aU a 0 2147483648 u
 have cm:=fun u=>aU m start 4611686018427387904 u
 rw[h1] at ck;rw[h2] at ca;rw[h3] at cm;clear h1 h2 h3;have yj:Below w.heap.size w (w.alloc (.cells #[.int .i64 k,.int .i64 a,.int .i64 m,.slice p n c] 80)):=(Below.refl _ _).alloc (Nat.le_refl _) _;have hl2:=hl _ yj;clear hl;rcases MR hR with ⟨rfl,rfl⟩ | ⟨rfl,rfl,rfl⟩ | ⟨rfl,rfl,rfl,rfl⟩ | ⟨rfl,rfl,rfl,rfl,rfl⟩ | ⟨rfl,rfl,rfl,rfl,rfl⟩
 all_goals
  clear hR;go_enter func143,ntmps143
  go_wp2_with (first
   |(go_at_call 134;(with_reducible refine(ck _).mono ?_);rintro e w1 ⟨rfl,rfl⟩)
   |(go_at_call 142;(with_reducible refine(ca _).mono ?_);rintro e w1 ⟨rfl,rfl⟩)
   |(go_at_call 142;(with_reducible refine(cm _).mono ?_);rintro e w1 ⟨rfl,rfl⟩)
   |(go_at_call 185;(with_reducible refine hl2.mono ?_);rintro e w1 ⟨rfl,hb1⟩;replace yj:=yj.trans (hb1.mono yj.size);clear hb1))
  go_ret;exact⟨rfl,yj⟩
theorem Nh (r:Rw)(start:Int)(p:Option Addr)(c:Nat)(w:World)(hn:(r.out.length:Int)<=9223372036854775807)(hl:ak w p r.out) :
 Calls prog 143 #[.agg #[.int .i64 r.key,.int .i64 r.ay,.int .i64 r.mark,.slice p r.out.length c],.int .i64 start] w (cG w (iY r start)) :=
 JI _ _ _ _ _ _ _ _ _ _ _ _ _ rfl rfl rfl (fun u hu=>EW p r.out c u hn (hl.below hu)) (BW r start).symm
def kF (l:List Rw)(j:Nat):Int:=if j=0 then -1 else (l.getD (j-1) aq).key
theorem Ni {l:List Rw}{s:Int}{j:Nat}(h:(l.getD j aq).key<=kF l j∨iY (l.getD j aq) s=false):iZ l s j=false:=by
 rcases h with h | h
 ·unfold kF at h
  by_cases hj:j=0
  ·rw [if_pos hj] at h
   refine kE (.inl ?_);have:fI (l.getD j aq).key=false:=by unfold fI;exact decide_eq_false (by omega)
   rw[BW,this];rfl
  ·rw [if_neg hj] at h
   exact kE (.inr ⟨by omega,h⟩)
 ·exact kE (.inl h)
theorem JJ {l:List Rw}{s:Int}{j:Nat}(h:kF l j<(l.getD j aq).key)(h0:iY (l.getD j aq) s=true):iZ l s j=true:=by
 refine vG h0 ?_;unfold kF at h;by_cases hj:j=0
 ·exact .inl hj
 ·rw [if_neg hj] at h
  exact .inr h
theorem zW (l:List Rw)(j:Nat):kF l (j+1)=(l.getD j aq).key:=by simp[kF]
theorem JK (start:Int)(p:Option Addr)(n c:Nat)(w:World)(h:(cy start 0 4611686018427387904&&decide (n<=16))=false) :
 Calls prog 96 #[.agg #[.int .i64 start,.slice p n c]] w (cG w false):=by
 have ci:=fun u=>aU start 0 4611686018427387904 u
 generalize cy start 0 4611686018427387904=b at ci h;have h4:b=false∨(b=true/\16<(n:Int)):=by
  cases b <;>simp at h ⊢
  omega
 clear h;rcases h4 with rfl | ⟨rfl,h5⟩
 ·go_enter func96,ntmps96
  go_wp2_with (go_at_call 142;(with_reducible refine(ci _).mono ?_);rintro e w1 ⟨rfl,rfl⟩)
  go_ret;exact⟨rfl,(Below.refl _ _).alloc (Nat.le_refl _) _⟩
 ·go_enter func96,ntmps96
  go_wp2_with (go_at_call 142;(with_reducible refine(ci _).mono ?_);rintro e w1 ⟨rfl,rfl⟩)
  go_ret;exact⟨rfl,(Below.refl _ _).alloc (Nat.le_refl _) _⟩
theorem EY (start:Int)(p:Option Addr)(l:List Rw)(c:Nat)(w:World)(h:cy start 0 4611686018427387904=true)(hn:l.length<=16)(hl:ar w p l)(hs:∀r∈l,(r.out.length:Int)<=9223372036854775807) :
 Calls prog 96 #[.agg #[.int .i64 start,.slice p l.length c]] w (cG w (dC (iZ l start) l.length)):=by
 have ci:=fun u=>aU start 0 4611686018427387904 u
 rw[h] at ci;have HL:=hid hl;have HS:=hid hs;clear h hl hs;generalize hB:dC (iZ l start) l.length=R;have HB:=hid hB;clear hB;go_enter func96,ntmps96
 go_wp2_with (go_at_call 142;(with_reducible refine(ci _).mono ?_);rintro e w1 ⟨rfl,rfl⟩)
 generalize hw0:w.alloc (.cells #[.int .i64 start,.slice p l.length c] 28)=w0;have b0:Below w.heap.size w w0:=by rw[<-hw0];exact(Below.refl _ _).alloc (Nat.le_refl _) _
 have k0:w0.cell? ⟨w.heap.size,0,none⟩=some (.int .i64 start):=by
  rw[<-hw0,cell_of_row _ _ 0 _ _ (0,0) (heap_alloc_new w _)];rfl
 have yh:=hid k0;clear hw0 k0 ci;go_loopw [3,19] (fun la i wr=>∃j:Nat,j<=l.length/\la=.int .i64 (kF l j)/\i=.int .i64 (j:Int)/\Hid (∀q,q<j->iZ l start q=true)/\Below w0.heap.size w0 wr) (fun _ i _=>l.length-(intOf i).toNat)
 case atStart=>exact ⟨0,by omega,rfl,rfl,(by intro q hq;omega),Below.refl _ _⟩
 case round =>
  obtain⟨j,hj,rfl,rfl,o7,hb⟩:=hrel;have c0:wr.cell? ⟨w.heap.size,0,none⟩=some (.int .i64 start):=af yh.out hb;have Ez:ar wr p l:=(HL.out.below b0).below hb;by_cases aC:j<l.length
  ·obtain ⟨g,o,rfl,hc⟩:∃g o,p=some ⟨g,o,none⟩/\∀j,j<l.length->dK wr g (o+j*4) (l.getD j aq):=by
    rcases Ez with h | h
    ·rw [h] at aC;simp at aC
    ·exact h
   obtain⟨d0,d1,d2,p3,c3,d3,hle⟩:=hc j aC;have hro:=HS.out (l.getD j aq) (by simp[List.getD,aC])
   have hrow:=fun (u:World) (hu:Below wr.heap.size wr u)=>Nh (l.getD j aq) start p3 c3 u hro (hle.below hu)
   have xy:=hid (Ni (l:=l) (s:=start) (j:=j));have hrt:=hid (JJ (l:=l) (s:=start) (j:=j));have V3:=hid (zW l j);generalize kF l j=z at xy hrt;generalize l.getD j aq=r at d0 d1 d2 d3 hle hrow xy hrt hro V3;obtain⟨x,av,mk,out⟩:=r;simp only at d0 d1 d2 d3 hle hrow xy hrt hro V3;have Mb:g<wr.heap.size:=World.block_lt_of_cell? _ _ d0;have hwl:w.heap.size<wr.heap.size:=World.block_lt_of_cell? _ _ c0;clear Ez hc hle hro;generalize hR:iY ⟨x,av,mk,out⟩ start=br at hrow xy hrt;clear hR;have hb1:Below wr.heap.size wr (wr.alloc (.cells #[.int .i64 x,.int .i64 av,.int .i64 mk,.slice p3 out.length c3] 80)):=(Below.refl _ _).alloc (Nat.le_refl _) _;have hrow2:=hrow _ hb1;have aO:=hid hb1;have V4:(wr.alloc (.cells #[.int .i64 x,.int .i64 av,.int .i64 mk,.slice p3 out.length c3] 80)).cell? ⟨wr.heap.size,0,none⟩=some (.int .i64 x):=by
    rw[cell_of_row _ _ 0 _ _ (0,0) (heap_alloc_new wr _)];rfl
   have V5:=hid V4;clear hrow hb1 V4;by_cases hz:x<=z
   ·obtain rfl:R=false:=by rw[<-HB.out];exact cU aC (xy.out (.inl hz))
    have hd:decide (x<=z)=true:=decide_eq_true hz;clear xy hrt hz V3 hrow2;go_wp2;go_ret;exact⟨rfl,b0.trans ((hb.trans (aO.out.mono hb.size)).mono b0.size)⟩
   ·have hd:decide (x<=z)=false:=decide_eq_false hz
    cases br with
    | false =>
      obtain rfl:R=false:=by rw[<-HB.out];exact cU aC (xy.out (.inr rfl))
      clear xy hrt hz V3;go_wp2_with (go_at_call 143;(with_reducible refine hrow2.mono ?_);rintro e w1 ⟨rfl,hb2⟩;have bJ:=hid hb2;clear hb2)
      go_ret;exact⟨rfl,b0.trans ((hb.trans ((aO.out.trans (bJ.out.mono aO.out.size)).mono hb.size)).mono b0.size)⟩
    | true =>
      have HJ:=hid (hrt.out (by omega) rfl)
      clear xy hrt hz;go_wp2_with (go_at_call 143;(with_reducible refine hrow2.mono ?_);rintro e w1 ⟨rfl,hb2⟩;have bJ:=hid hb2;have kx:=af V5.out hb2;clear hb2)
      go_roundw
      case rel=>exact ⟨j+1,by omega,by rw[V3.out],by go_num,(by intro q hq;rcases Nat.lt_succ_iff_lt_or_eq.1 hq with h | h;exact o7.out q h;rw[h];exact HJ.out),hb.trans ((aO.out.trans (bJ.out.mono aO.out.size)).mono hb.size)⟩
      case measure=>simp [intOf];omega
  ·obtain rfl:j=l.length:=by omega
   obtain rfl:R=true:=by rw[<-HB.out];exact dO o7.out
   go_wp2;go_ret;exact⟨rfl,b0.trans (hb.mono b0.size)⟩
theorem EZ (t:Tb)(p:Option Addr)(c:Nat)(w:World)(hl:ar w p t.rows)(hs:tI t.rows) :
 Calls prog 96 #[.agg #[.int .i64 t.start,.slice p t.rows.length c]] w (cG w (eh t)):=by
 unfold eh;cases h:(cy t.start 0 4611686018427387904&&decide (t.rows.length<=16)) with
 | false =>
   rw[Bool.false_and];exact JK _ _ _ _ _ h
 | true =>
   rw[Bool.true_and];rw[Bool.and_eq_true] at h;exact EY _ _ _ _ _ h.1 (of_decide_eq_true h.2) hl hs
theorem BX (g h s:Int)(ps p:Option Addr)(n cs m c:Nat)(w:World)(b0 b1 b2 b3 R:Bool)(h0:cy g 1 1099511627776=b0)(h1:cy h 0 1099511627776=b1)
 (hst:∀u,Below w.heap.size w u->Calls prog 95 #[.slice ps n cs] u fun e w'=>e=.returned (.bool b2)/\u=w')
 (V6:∀u,Below w.heap.size w u->Calls prog 96 #[.agg #[.int .i64 s,.slice p m c]] u (cG u b3)) (hR:(b0&&b1&&b2&&b3)=R) :
 Calls prog 52 #[.agg #[.int .i64 g,.int .i64 h,.slice ps n cs,.int .i64 s,.slice p m c]] w (cG w R):=by
 have cg:=fun u=>Qn g u
 have ch:=fun u=>Qo h u
 rw[h0] at cg;rw[h1] at ch;clear h0 h1;have yj:Below w.heap.size w (w.alloc (.cells #[.int .i64 g,.int .i64 h,.slice ps n cs,.int .i64 s,.slice p m c] 30)):=(Below.refl _ _).alloc (Nat.le_refl _) _;have hs2:=hst _ yj;have ht2:=V6 _ yj;clear hst V6;rcases MR hR with ⟨rfl,rfl⟩ | ⟨rfl,rfl,rfl⟩ | ⟨rfl,rfl,rfl,rfl⟩ | ⟨rfl,rfl,rfl,rfl,rfl⟩ | ⟨rfl,rfl,rfl,rfl,rfl⟩
 all_goals
  clear hR;go_enter func52,ntmps52
  go_wp2_with (first
   |(go_at_call 93;(with_reducible refine(cg _).mono ?_);rintro e w1 ⟨rfl,rfl⟩)
   |(go_at_call 94;(with_reducible refine(ch _).mono ?_);rintro e w1 ⟨rfl,rfl⟩)
   |(go_at_call 95;(with_reducible refine hs2.mono ?_);rintro e w1 ⟨rfl,rfl⟩)
   |(go_at_call 96;(with_reducible refine ht2.mono ?_);rintro e w1 ⟨rfl,hb1⟩;replace yj:=yj.trans (hb1.mono yj.size);clear hb1))
  go_ret;exact⟨rfl,yj⟩
theorem lZ (t:Tk)(ps p:Option Addr)(cs c:Nat)(w:World)(hn:(t.stamps.length:Int)<=9223372036854775807)(hst:cX w ps t.stamps)(hl:ar w p t.table.rows)(hs:tI t.table.rows) :
 Calls prog 52 #[.agg #[.int .i64 t.gen,.int .i64 t.bP,.slice ps t.stamps.length cs,.int .i64 t.table.start,.slice p t.table.rows.length c]] w (cG w (bn t)) :=
 BX _ _ _ _ _ _ _ _ _ _ _ _ _ _ _ rfl rfl (fun u hu=>EX ps t.stamps cs u hn (hst.below hu)) (fun u hu=>EZ t.table p c u (hl.below hu) hs) (by
  unfold bn lj;simp only[Bool.and_assoc])
def Kp (B:Nat)(T:TypeId)(w w':World):Prop:=B<=w.heap.size/\(∀g,g<B->w'.heap[g]? =w.heap[g]?)/\gR T w w'
section
variable {B:Nat}{T:TypeId}{w w' w'':World}
theorem Kp.below (hb:Below w.heap.size w w')(hB:B<=w.heap.size):Kp B T w w':=⟨hB,fun g hg=>hb.block g (by omega),.below hb⟩
theorem Kp.grown {b:Nat}{cs:Array Value}{z:Nat×Nat}{T':TypeId}(hb:w.heap[b]? =some (.cells cs T' z))(hT:T'≠T)(hB:B<=b)(hg:w.grownBy w' (some b)):Kp B T w w' :=
 ⟨Nat.le_of_lt (Nat.lt_of_le_of_lt hB (ae hb)),fun g h=>hg.block g (Nat.lt_trans (Nat.lt_of_lt_of_le h hB) (ae hb)) (by simp;omega),.grown hb hT hg⟩
def kG (B:Nat)(T:TypeId)(w:World)(g:Nat):Prop:=g<B∨∃cs z,w.heap[g]? =some (Obj.cells cs T z)
theorem kG.cell {g o:Nat}(h:kG B T w g)(k:Kp B T w w'):w'.cell? ⟨g,o,none⟩=w.cell? ⟨g,o,none⟩:=by
 have e:w'.heap[g]? =w.heap[g]? :=by
  rcases h with h | ⟨cs,z,h⟩
  ·exact k.2.1 g h
  ·rw [h];exact k.2.2 g cs z h
 simp[World.cell?,e]
theorem kG.bM {g:Nat}(h:kG B T w g)(k:Kp B T w w'):kG B T w' g:=by
 rcases h with h | ⟨cs,z,h⟩
 ·exact .inl h
 ·exact .inr ⟨cs,z,k.2.2 g cs z h⟩
def fc (B:Nat)(w:World)(p:Option Addr)(l:List (Int×Int)):Prop :=
 l=[]∨∃b o,p=some ⟨b,o,none⟩/\kG B 141 w b/\∀j,j<l.length->w.cell? ⟨b,o+j*2,none⟩=some (.int .i64 (l.getD j (0,0)).1)/\w.cell? ⟨b,o+j*2+1,none⟩=some (.int .i64 (l.getD j (0,0)).2)
def o5 (B:Nat)(w:World)(b o:Nat)(r:Rw):Prop :=
 w.cell? ⟨b,o,none⟩=some (.int .i64 r.key)/\w.cell? ⟨b,o+1,none⟩=some (.int .i64 r.ay)/\w.cell? ⟨b,o+2,none⟩=some (.int .i64 r.mark) /\
  ∃p c,w.cell? ⟨b,o+3,none⟩=some (.slice p r.out.length c)/\fc B w p r.out
def jB (B:Nat)(w:World)(p:Option Addr)(l:List Rw):Prop :=
 l=[]∨∃b o,p=some ⟨b,o,none⟩/\kG B 80 w b/\∀j,j<l.length->o5 B w b (o+j*4) (l.getD j aq)
theorem fc.dS {p:Option Addr}{l:List (Int×Int)}(h:fc B w p l):ak w p l:=by
 rcases h with h | ⟨b,o,h,_,hc⟩
 ·exact .inl h
 ·exact .inr ⟨b,o,h,hc⟩
theorem o5.row {b o:Nat}{r:Rw}(h:o5 B w b o r):dK w b o r:=by
 obtain⟨h0,h1,h2,p,c,h3,h4⟩:=h;exact⟨h0,h1,h2,p,c,h3,h4.dS⟩
theorem fc.of {p:Option Addr}{l:List (Int×Int)}(h:ak w p l):fc w.heap.size w p l:=by
 by_cases h0:l=[]
 ·exact .inl h0
 ·rcases h with h | ⟨b,o,h,hc⟩
  ·exact .inl h
  ·exact .inr ⟨b,o,h,.inl (World.block_lt_of_cell? _ _ (hc 0 (List.length_pos_iff.2 h0)).1),hc⟩
theorem o5.of {b o:Nat}{r:Rw}(h:dK w b o r):o5 w.heap.size w b o r:=by
 obtain⟨h0,h1,h2,p,c,h3,h4⟩:=h;exact⟨h0,h1,h2,p,c,h3,.of h4⟩
theorem fc.bM {p:Option Addr}{l:List (Int×Int)}(h:fc B w p l)(k:Kp B 141 w w'):fc B w' p l:=by
 rcases h with h | ⟨b,o,h,hl,hc⟩
 ·exact .inl h
 ·exact .inr ⟨b,o,h,hl.bM k,fun j hj=>⟨(hl.cell k).trans (hc j hj).1,(hl.cell k).trans (hc j hj).2⟩⟩
theorem o5.bM {b o:Nat}{r:Rw}(h:o5 B w b o r)(hl:kG B 80 w b)(k:Kp B 80 w w')(k':Kp B 141 w w'):o5 B w' b o r:=by
 obtain⟨h0,h1,h2,p,c,h3,h4⟩:=h;exact⟨(hl.cell k).trans h0,(hl.cell k).trans h1,(hl.cell k).trans h2,p,c,(hl.cell k).trans h3,h4.bM k'⟩
theorem jB.bM {p:Option Addr}{l:List Rw}(h:jB B w p l)(k:Kp B 80 w w')(k':Kp B 141 w w'):jB B w' p l:=by
 rcases h with h | ⟨b,o,h,hl,hc⟩
 ·exact .inl h
 ·exact .inr ⟨b,o,h,hl.bM k,fun j hj=>(hc j hj).bM hl k k'⟩
theorem kG.lower {B' g:Nat}(h:kG B T w g)(hB:B<=B'):kG B' T w g:=by
 rcases h with h | h
 ·exact .inl (by omega)
 ·exact .inr h
theorem fc.lower {B':Nat}{p:Option Addr}{l:List (Int×Int)}(h:fc B w p l)(hB:B<=B'):fc B' w p l:=by
 rcases h with h | ⟨b,o,h,hl,hc⟩
 ·exact .inl h
 ·exact .inr ⟨b,o,h,hl.lower hB,hc⟩
theorem BZ (w:World)(b o m:Nat)(h:∀j,j<m->∃u,w.cell? ⟨b,o+j,none⟩=some u/\u.oneCell'=true) :
 ∃xs:List Value,xs.length=m/\(∀j u,xs[j]? =some u->w.cell? ((⟨b,o,none⟩:Addr).add j)=some u)/\(∀j,j<m->∃u,xs[j]? =some u/\w.cell? ⟨b,o+j,none⟩=some u)/\∀u∈xs,u.oneCell'=true:=by
 induction m with
 | zero=>exact ⟨[],rfl,by simp,by intro j hj;omega,by simp⟩
 | succ m ih =>
   obtain⟨xs,h1,h2,h3,h4⟩:=ih (fun j hj=>h j (by omega))
   obtain⟨u,hu,ho⟩:=h m (by omega)
   refine⟨xs++[u],by simp[h1],fun j v hj=> ?_,fun j hj=> ?_,fun v hv=> ?_⟩
   ·by_cases aC:j<xs.length
    ·rw [List.getElem?_append_left aC] at hj
     exact h2 j v hj
    ·rw [List.getElem?_append_right (by omega)] at hj
     have:j=m:=by
      by_cases hjm:j-xs.length=0
      ·omega
      ·rw [List.getElem?_eq_none (by simp;omega)] at hj;cases hj
     subst this;rw[h1,Nat.sub_self] at hj;simp only[List.getElem?_cons_zero,Option.some.injEq] at hj;rw[gM,<-hj];exact hu
   ·by_cases aC:j<m
    ·obtain ⟨v,hv,hc⟩:=h3 j aC
     exact⟨v,by rw[List.getElem?_append_left (by omega)];exact hv,hc⟩
    ·obtain rfl:j=m:=by omega
     exact⟨u,by rw[List.getElem?_append_right (by omega),h1,Nat.sub_self];rfl,hu⟩
   ·rcases List.mem_append.1 hv with hv | hv
    ·exact h4 v hv
    ·simp only[List.mem_singleton] at hv
     rw[hv];exact ho
end
end Zx
end Go.Proofs.YtbgdlokegibkmaaGreat
