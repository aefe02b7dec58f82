/-
  A part of the proof of VisitPlays.
-/
import Derived.Deep.RegionHeld3
import Derived.Test.YtbgdlokegibkmaaGreatMpAd
set_option maxRecDepth 100000
set_option maxHeartbeats 4000000
namespace Go.Proofs.YtbgdlokegibkmaaGreat
open Go.RowKit
open Tryz
open Lib (hid)
namespace Zv
open Zx (Rw Tb aq ak af)
open Zq (aI cO ae aj ai)
open Zr (dh add sub mul vu lu qH eP)
theorem lY {w:World}{b:Nat}{x y:Value}(h:w.heap[b]? =some (.cells #[x,y] 77 (0,0))) :
 w.cell? ⟨b,0,Option.none⟩=some x/\w.cell? ⟨b,1,Option.none⟩=some y :=
 ⟨by rw[cell_of_row w b 0 _ _ (0,0) h];rfl,by rw[cell_of_row w b 1 _ _ (0,0) h];rfl⟩
theorem gq (w:World)(o1 o2 o3:Obj):((((w.alloc o1).alloc o2).alloc o3).heap[w.heap.size]? =some o1)/\((((w.alloc o1).alloc o2).alloc o3).heap[w.heap.size+1]? =some o2)/\((((w.alloc o1).alloc o2).alloc o3).heap[w.heap.size+1+1]? =some o3)/\Below w.heap.size w (((w.alloc o1).alloc o2).alloc o3):=by
 have z1:(w.alloc o1).heap.size=w.heap.size+1:=by simp
 have z2:((w.alloc o1).alloc o2).heap.size=w.heap.size+1+1:=by simp
 have n2:=heap_alloc_new (w.alloc o1) o2;have n3:=heap_alloc_new ((w.alloc o1).alloc o2) o3;rw[z1] at n2;rw[z2] at n3;exact⟨(Below.heap_alloc _ _ _ (by simp;omega)).trans ((Below.heap_alloc _ _ _ (by simp)).trans (heap_alloc_new _ _)),(Below.heap_alloc _ _ _ (by simp)).trans n2,n3,(((Below.refl _ _).alloc (Nat.le_refl _) _).alloc (by simp) _).alloc (by simp;omega) _⟩
theorem EI (r:Rw)(p:Option Addr)(c:Nat)(now R B:Int)(w:World)(h:ak w p r.out)(hl:r.out.length<=1000) :
 Calls prog 173 #[dE r p c,.int .i64 now,.agg #[.int .i64 R,.int .i64 B]] w fun e w'=>e=.returned (dE (jn r now R B) p c)/\Below w.heap.size w w':=by
 have EJ:=fun (u:World) (hu:Below w.heap.size w u)=>ye r p c u (h.below hu) hl
 have hm:Hid (∀a m,a=add [r.ay,min (mul R (sub now r.mark)) (sub B (mF r))]->m=max r.mark now->dE (jn r now R B) p c=.agg #[.int .i64 r.key,.int .i64 a,.int .i64 m,.slice p r.out.length (c+r.out.length)]):=by
  rintro a m rfl rfl;rfl
 generalize dE (jn r now R B) p c=V at hm ⊢;have jr:=lu now r.mark;have lU:=qH R (sub now r.mark);have kD:=lu B (mF r);generalize sub now r.mark=s1 at *;generalize mul R s1=more at *;generalize mF r=T at *;generalize sub B T=aw at *;obtain⟨key,ay,mark,out⟩:=r;simp only[dE] at *;generalize out.length=n at *;have VJ:=eP ay more;have Bu:=eP ay aw;obtain⟨k0,k1,k2,hb⟩:=gq w (.cells #[.int .i64 key,.int .i64 ay,.int .i64 mark,.slice p n (c+n)] 80) (.cells #[.int .i64 R,.int .i64 B] 77) (.cells #[.int .i64 0,.int .i64 0,.int .i64 0,.slice none 0 0] 80);have b9:(more<=aw/\mark<now)∨(more<=aw/\now<=mark)∨(aw<more/\mark<now)∨(aw<more/\now<=mark):=by omega
 clear h hl;rcases b9 with ⟨h1,h2⟩ | ⟨h1,h2⟩ | ⟨h1,h2⟩ | ⟨h1,h2⟩
 case' inl=>have HV:=hid (hm.out (add [ay,more]) now (by rw[show min more aw=more by omega]) (by omega))
 case' inr.inl=>have HV:=hid (hm.out (add [ay,more]) mark (by rw[show min more aw=more by omega]) (by omega))
 case' inr.inr.inl=>have HV:=hid (hm.out (add [ay,aw]) now (by rw[show min more aw=aw by omega]) (by omega))
 case' inr.inr.inr=>have HV:=hid (hm.out (add [ay,aw]) mark (by rw[show min more aw=aw by omega]) (by omega))
 all_goals
  clear hm;generalize add [ay,more]=q1 at *;generalize add [ay,aw]=q2 at *;have hk:∀u,Below (((w.alloc (.cells #[.int .i64 key,.int .i64 ay,.int .i64 mark,.slice p n (c+n)] 80)).alloc (.cells #[.int .i64 R,.int .i64 B] 77)).alloc (.cells #[.int .i64 0,.int .i64 0,.int .i64 0,.slice none 0 0] 80)).heap.size (((w.alloc (.cells #[.int .i64 key,.int .i64 ay,.int .i64 mark,.slice p n (c+n)] 80)).alloc (.cells #[.int .i64 R,.int .i64 B] 77)).alloc (.cells #[.int .i64 0,.int .i64 0,.int .i64 0,.slice none 0 0] 80)) u ->
   u.heap[w.heap.size]? =some (.cells #[.int .i64 key,.int .i64 ay,.int .i64 mark,.slice p n (c+n)] 80 (0,0))/\u.heap[w.heap.size+1]? =some (.cells #[.int .i64 R,.int .i64 B] 77 (0,0))/\u.heap[w.heap.size+1+1]? =some (.cells #[.int .i64 0,.int .i64 0,.int .i64 0,.slice none 0 0] 80 (0,0)) :=
   fun u hu=>⟨(hu.block _ (ae k0)).trans k0,(hu.block _ (ae k1)).trans k1,(hu.block _ (ae k2)).trans k2⟩
  have HK:=hid hk;have HB:=hid hb;clear hk hb k0 k1 k2;go_enter func173,ntmps173
  go_wp2;generalize(((w.alloc (.cells #[.int .i64 key,.int .i64 ay,.int .i64 mark,.slice p n (c+n)] 80)).alloc (.cells #[.int .i64 R,.int .i64 B] 77)).alloc (.cells #[.int .i64 0,.int .i64 0,.int .i64 0,.slice none 0 0] 80))=w3 at *;have D0:=hid (Below.refl w3.heap.size w3).drew;obtain⟨q,q',-⟩:=HK.out _ D0.out;obtain⟨-,-,a2,-⟩:=aV q;obtain⟨b0,-⟩:=lY q';clear q q';go_region_held3 (fun u=>u.cell? ⟨w.heap.size+1,0,none⟩=some (.int .i64 R)/\u.cell? ⟨w.heap.size,2,none⟩=some (.int .i64 mark)) (first | assumption | exact⟨b0,a2⟩) (first
   |(go_at_call 206;(with_reducible refine(jr _).mono ?_);rintro e u1 ⟨rfl,rfl⟩)
   |(go_at_call 207;(with_reducible refine(lU _).mono ?_);rintro e u2 ⟨rfl,rfl⟩))
  all_goals
   go_wp2;have D1:=hid D0.out.drew;clear a2 b0;obtain⟨q,q',-⟩:=HK.out _ D1.out;obtain⟨a0,a1,a2,a3,-⟩:=aV q;obtain⟨-,b1⟩:=lY q';clear q q';go_region_held3 (fun u=>u.cell? ⟨w.heap.size+1,1,none⟩=some (.int .i64 B)/\u.cell? ⟨w.heap.size,0,none⟩=some (.int .i64 key)/\u.cell? ⟨w.heap.size,1,none⟩=some (.int .i64 ay)/\u.cell? ⟨w.heap.size,2,none⟩=some (.int .i64 mark)/\u.cell? ⟨w.heap.size,3,none⟩=some (.slice p n (c+n))) (first | assumption | exact⟨b1,a0,a1,a2,a3⟩ | exact⟨e1,d0,d1,d2,d3⟩) (first
    |(go_at_call 30;(with_reducible refine(EJ _ (HB.out.trans (D1.out.mono HB.out.size))).mono ?_);rintro e u3 ⟨rfl,hb3⟩;have D2:=hid (D1.out.trans (hb3.mono D1.out.size));obtain⟨q,q',q''⟩:=HK.out _ D2.out;obtain⟨d0,d1,d2,d3,ff⟩:=aV q;obtain⟨-,e1⟩:=lY q';obtain⟨g0,g1,g2,g3,gg⟩:=aV q'';have f1:=ff 1;have f2:=ff 2;have j0:=gg 0;have j1:=gg 1;have j2:=gg 2;have j3:=gg 3;clear hb3 q q' q'' ff gg)
    |(go_at_call 206;(with_reducible refine(kD _).mono ?_);rintro e u4 ⟨rfl,rfl⟩))
   all_goals
    clear a0 a1 a2 a3 b1 D0 D1 HK EJ jr lU kD;go_wp2_with (first
     |(go_at_call 50;(with_reducible refine(VJ _).mono ?_);rintro e u5 ⟨rfl,rfl⟩)
     |(go_at_call 50;(with_reducible refine(Bu _).mono ?_);rintro e u5 ⟨rfl,rfl⟩))
    have BF:=HB.out.trans (D2.out.mono HB.out.size);refine bodyPost_ret ?gh rfl ⟨congrArg Ending.returned HV.out.symm,?gb⟩
    case gh=>simp [results,results173,go_sem,g0,g1,g2,g3]
    case gb=>repeat' (first
     | with_reducible refine Below.setCell ?_ (by first | omega | (simp;done) | (simp;omega)) _
     | with_reducible exact BF)
theorem BD (t:Tb)(p:Option Addr)(c:Nat)(key now R B:Int)(W w:World)(h0:ar W p t.rows)(hW:Below W.heap.size W w)(hl:t.rows.length<=1000)(ho:∀r∈t.rows,r.out.length<=1000) :
 Calls prog 122 #[bN t p c,.int .i64 key,.int .i64 now,.agg #[.int .i64 R,.int .i64 B]] w (Bx W w (gZ t key now R B) id):=by
 have Ee:(ah t key).out.length<=1000:=by
  unfold ah;split
  ·simp
  ·rcases bA (fun r=>r.key==key) aq t.rows with ⟨h1,-⟩ | ⟨j,h1,h2,-⟩
   ·exact absurd (show au t.rows key<0 by unfold au;omega) (by assumption)
   ·have:(au t.rows key).toNat=j:=by unfold au;omega
    rw[this];exact ho _ (by simp[List.getD,h2])
 have RK:=fun (u:World) (p':Option Addr) (c':Nat) (hu:ak u p' (ah t key).out)=>EI (ah t key) p' c' now R B u hu Ee
 have hlk:Hid (gZ t key now R B=jn (ah t key) now R B):=rfl;have aT:Hid ((jn (ah t key) now R B).out=(ah t key).out):=rfl;generalize gZ t key now R B=L at hlk ⊢;obtain⟨k0,k1,k2,hb⟩:=gq w (.cells #[.int .i64 t.start,.slice p t.rows.length (c+t.rows.length)] 28) (.cells #[.int .i64 R,.int .i64 B] 77) (.cells #[.int .i64 0,.int .i64 0,.int .i64 0,.slice none 0 0] 80);have eH:=np t p c key W (((w.alloc (.cells #[.int .i64 t.start,.slice p t.rows.length (c+t.rows.length)] 28)).alloc (.cells #[.int .i64 R,.int .i64 B] 77)).alloc (.cells #[.int .i64 0,.int .i64 0,.int .i64 0,.slice none 0 0] 80)) h0 (hW.trans (hb.mono hW.size)) hl;generalize hF:ah t key=F at *;generalize et t key=I at *;generalize hM:jn F now R B=M at *;obtain⟨fk,fa,fm,fo⟩:=F;obtain⟨mk,ma,mm,mo⟩:=M;have HMO:=hid (show mo=fo from aT.out)
 have HLK:=hid hlk.out;clear hlk aT hF hM Ee ho;obtain⟨start,rows⟩:=t;simp only[bN,dE] at *;generalize Ib:fo.length=nf at *;generalize rows.length=nr at *;have xn:=hid Ib;clear Ib;have fS:Calls prog 67 #[.agg #[.int .i64 start,.slice p nr (c+nr)],.int .i64 key] (((w.alloc (.cells #[.int .i64 start,.slice p nr (c+nr)] 28)).alloc (.cells #[.int .i64 R,.int .i64 B] 77)).alloc (.cells #[.int .i64 0,.int .i64 0,.int .i64 0,.slice none 0 0] 80)) fun e w'=>∃p1 c1,e=.returned (.tuple #[.agg #[.int .i64 fk,.int .i64 fa,.int .i64 fm,.slice p1 nf (c1+nf)],.bool I])/\ak W p1 fo /\
  Below (((w.alloc (.cells #[.int .i64 start,.slice p nr (c+nr)] 28)).alloc (.cells #[.int .i64 R,.int .i64 B] 77)).alloc (.cells #[.int .i64 0,.int .i64 0,.int .i64 0,.slice none 0 0] 80)).heap.size (((w.alloc (.cells #[.int .i64 start,.slice p nr (c+nr)] 28)).alloc (.cells #[.int .i64 R,.int .i64 B] 77)).alloc (.cells #[.int .i64 0,.int .i64 0,.int .i64 0,.slice none 0 0] 80)) w':=by
  refine eH.mono ?_;rintro e w' ⟨p1,c1,rfl,h1,h2⟩;exact⟨p1,c1,by rw[<-xn.out];rfl,h1,h2⟩
 clear eH;have hk:∀u,Below (((w.alloc (.cells #[.int .i64 start,.slice p nr (c+nr)] 28)).alloc (.cells #[.int .i64 R,.int .i64 B] 77)).alloc (.cells #[.int .i64 0,.int .i64 0,.int .i64 0,.slice none 0 0] 80)).heap.size (((w.alloc (.cells #[.int .i64 start,.slice p nr (c+nr)] 28)).alloc (.cells #[.int .i64 R,.int .i64 B] 77)).alloc (.cells #[.int .i64 0,.int .i64 0,.int .i64 0,.slice none 0 0] 80)) u ->
  u.heap[w.heap.size+1]? =some (.cells #[.int .i64 R,.int .i64 B] 77 (0,0))/\u.heap[w.heap.size+1+1]? =some (.cells #[.int .i64 0,.int .i64 0,.int .i64 0,.slice none 0 0] 80 (0,0)) :=
  fun u hu=>⟨(hu.block _ (ae k1)).trans k1,(hu.block _ (ae k2)).trans k2⟩
 have HK:=hid hk;have HB:=hid hb;have HW:=hid (hW.trans (hb.mono hW.size));clear hk hb k0 k1 k2 h0 hW;go_enter func122,ntmps122
 go_wp2_with (first
  |(go_at_call 67;(with_reducible refine fS.mono ?_);rintro e u1 ⟨p1,c1,rfl,iG,hb1⟩;have ba:=(Below.refl u1.heap.size u1).alloc (Nat.le_refl _) (.cells #[.int .i64 fk,.int .i64 fa,.int .i64 fm,.slice p1 nf (c1+nf)] 80);have D1:=hid (hb1.trans (ba.mono hb1.size));have L0:=hid iG;have L1:=hid (iG.below (HW.out.trans (D1.out.mono HW.out.size)));obtain⟨q,q'⟩:=HK.out _ hb1;obtain⟨a0,a1⟩:=lY q;have EK:=ae q;clear fS iG hb1 ba q q')
  |(go_at_call 173;(with_reducible refine(RK _ _ _ L1.out).mono ?_);rintro e u2 ⟨rfl,hb2⟩;have D2:=hid (D1.out.trans (hb2.mono D1.out.size));obtain⟨-,q'⟩:=HK.out _ D2.out;obtain⟨g0,g1,g2,g3,gg⟩:=aV q';have j0:=gg 0;have j1:=gg 1;have j2:=gg 2;have j3:=gg 3;clear RK hb2 q' gg D1 L1))
 have BF:=HB.out.trans (D2.out.mono HB.out.size);refine bodyPost_ret (v:=.agg #[.int .i64 mk,.int .i64 ma,.int .i64 mm,.slice p1 mo.length (c1+mo.length)]) (by simp[results,results122,go_sem,g0,g1,g2,g3]) rfl ?_
 have B4:=(((BF.setCell (p:=⟨w.heap.size+1+1,0,none⟩) (by simp;omega) (.int .i64 mk)).setCell (p:=⟨w.heap.size+1+1,1,none⟩) (by simp;omega) (.int .i64 ma)).setCell (p:=⟨w.heap.size+1+1,2,none⟩) (by simp;omega) (.int .i64 mm)).setCell (p:=⟨w.heap.size+1+1,3,none⟩) (by simp;omega) (.slice p1 mo.length (c1+mo.length))
 exact⟨p1,c1,by rw[HLK.out];rfl,by rw[HLK.out];show ak W p1 mo;rw[HMO.out];exact L0.out,B4⟩
end Zv
namespace Zx
open Go.RowKit Zq
theorem MQ (start:Int)(p:Option Addr)(n c:Nat)(w:World)(h:(cy start 0 4611686018427387904&&decide (n<=16))=false) :
 Calls prog 111 #[.agg #[.int .i64 start,.slice p n c]] w (cG w false):=by
 have ci:=fun u=>jX start 0 4611686018427387904 u
 generalize cy start 0 4611686018427387904=b at ci h;have h4:b=false∨(b=true/\16<(n:Int)):=by
  cases b <;>simp at h ⊢
  omega
 clear h;rcases h4 with rfl | ⟨rfl,h5⟩
 ·go_enter func111,ntmps111
  go_wp2_with (go_at_call 110;(with_reducible refine(ci _).mono ?_);rintro e w1 ⟨rfl,rfl⟩)
  go_ret;exact⟨rfl,(Below.refl _ _).alloc (Nat.le_refl _) _⟩
 ·go_enter func111,ntmps111
  go_wp2_with (go_at_call 110;(with_reducible refine(ci _).mono ?_);rintro e w1 ⟨rfl,rfl⟩)
  go_ret;exact⟨rfl,(Below.refl _ _).alloc (Nat.le_refl _) _⟩
theorem EL {w w':World}(h:Below w.drew.heap.size w.drew w'):Below w.heap.size w w':=⟨h.os,h.tape,h.output,h.size,h.block⟩
theorem kE {l:List Rw}{s:Int}{i:Nat}(h:iY (l.getD i aq) s=false∨(0<i/\(l.getD i aq).key<=(l.getD (i-1) aq).key)):iZ l s i=false:=by
 unfold iZ;rcases h with h | ⟨h0,h1⟩
 ·rw [h];simp
 ·have:(i==0||decide ((l.getD (i-1) aq).key<(l.getD i aq).key))=false:=by
   rw[Bool.or_eq_false_iff];exact⟨by simp;omega,decide_eq_false (by omega)⟩
  rw[this];simp
theorem vG {l:List Rw}{s:Int}{i:Nat}(h0:iY (l.getD i aq) s=true)(h2:i=0∨(l.getD (i-1) aq).key<(l.getD i aq).key):iZ l s i=true:=by
 unfold iZ;rw[h0,Bool.true_and,Bool.or_eq_true];rcases h2 with h2 | h2
 ·exact .inl (by simp[h2])
 ·exact .inr (decide_eq_true h2)
theorem Jt (start:Int)(p:Option Addr)(l:List Rw)(c:Nat)(w:World)(h:cy start 0 4611686018427387904=true)(hn:l.length<=16)(hl:ar w p l)(hs:∀r∈l,(r.out.length:Int)<=9223372036854775807) :
 Calls prog 111 #[.agg #[.int .i64 start,.slice p l.length c]] w (cG w (dC (iZ l start) l.length)):=by
 have ci:=fun u=>jX start 0 4611686018427387904 u
 rw[h] at ci;have HL:=hid hl;have HS:=hid hs;clear h hl hs;generalize hB:dC (iZ l start) l.length=R;have HB:=hid hB;clear hB;go_enter func111,ntmps111
 go_wp2_with (go_at_call 110;(with_reducible refine(ci _).mono ?_);rintro e w1 ⟨rfl,rfl⟩)
 generalize hw0:w.alloc (.cells #[.int .i64 start,.slice p l.length c] 28)=w0;have b0:Below w.heap.size w w0:=by rw[<-hw0];exact(Below.refl _ _).alloc (Nat.le_refl _) _
 have k0:w0.cell? ⟨w.heap.size,0,none⟩=some (.int .i64 start):=by
  rw[<-hw0,cell_of_row _ _ 0 _ _ (0,0) (heap_alloc_new w _)];rfl
 have k1:w0.cell? ⟨w.heap.size,1,none⟩=some (.slice p l.length c):=by
  rw[<-hw0,cell_of_row _ _ 1 _ _ (0,0) (heap_alloc_new w _)];rfl
 have yh:=hid k0;have kq:=hid k1;clear hw0 k0 k1 ci;go_loopw [4] (fun i wr=>∃j:Nat,j<=l.length/\i=.int .i64 (j:Int)/\Hid (∀q,q<j->iZ l start q=true)/\Below w0.heap.size w0 wr) (fun i _=>l.length-(intOf i).toNat)
 case atStart=>exact ⟨0,by omega,rfl,(by intro q hq;omega),Below.refl _ _⟩
 case round =>
  obtain⟨j,hj,rfl,o7,hb⟩:=hrel;have c0:wr.cell? ⟨w.heap.size,0,none⟩=some (.int .i64 start):=af yh.out hb;have c1:wr.cell? ⟨w.heap.size,1,none⟩=some (.slice p l.length c):=af kq.out hb;have Ez:ar wr p l:=(HL.out.below b0).below hb;by_cases aC:j<l.length
  ·obtain ⟨g,o,rfl,hc⟩:∃g o,p=some ⟨g,o,none⟩/\∀j,j<l.length->dK wr g (o+j*4) (l.getD j aq):=by
    rcases Ez with h | h
    ·rw [h] at aC;simp at aC
    ·exact h
   obtain⟨d0,d1,d2,p3,c3,d3,hle⟩:=hc j aC;have Mr:0<j->wr.cell? ⟨g,o+(j-1)*4,none⟩=some (.int .i64 (l.getD (j-1) aq).key):=fun _=>(hc (j-1) (by omega)).1
   have hro:=HS.out (l.getD j aq) (by simp[List.getD,aC])
   have hrow:=fun (u:World) (hu:Below wr.heap.size wr u)=>P8 (l.getD j aq) start p3 c3 u hro (hle.below hu)
   have xy:=hid (kE (l:=l) (s:=start) (i:=j));have hrt:=hid (vG (l:=l) (s:=start) (i:=j));generalize(l.getD (j-1) aq).key=z at Mr xy hrt;generalize l.getD j aq=r at d0 d1 d2 d3 hle hrow xy hrt hro;obtain⟨x,av,mk,out⟩:=r;simp only at d0 d1 d2 d3 hle hrow xy hrt hro;have bE:(j:Int)<(l.length:Int):=by omega
   clear Ez hc hle hro;generalize hR:iY ⟨x,av,mk,out⟩ start=br at hrow xy hrt;clear hR;go_wp2;go_region_held3 (fun u=>u.cell? ⟨w.heap.size,0,none⟩=some (.int .i64 start)/\u.cell? ⟨w.heap.size,1,none⟩=some (.slice (some ⟨g,o,none⟩) l.length c)/\u.cell? ⟨g,o+j*4,none⟩=some (.int .i64 x)/\u.cell? ⟨g,o+j*4+1,none⟩=some (.int .i64 av)/\u.cell? ⟨g,o+j*4+2,none⟩=some (.int .i64 mk)/\u.cell? ⟨g,o+j*4+3,none⟩=some (.slice p3 out.length c3)) (first | assumption | exact⟨c0,c1,d0,d1,d2,d3⟩) (first
    |(go_at_call 165;(with_reducible refine(hrow _ (Below.refl _ _).drew).mono ?_);rintro e u1 ⟨rfl,hb1⟩;have aO:=hid (EL hb1);clear hb1;have s1:u1.cell? ⟨w.heap.size,0,none⟩=some (.int .i64 start)/\u1.cell? ⟨w.heap.size,1,none⟩=some (.slice (some ⟨g,o,none⟩) l.length c)/\u1.cell? ⟨g,o+j*4,none⟩=some (.int .i64 x)/\u1.cell? ⟨g,o+j*4+1,none⟩=some (.int .i64 av)/\u1.cell? ⟨g,o+j*4+2,none⟩=some (.int .i64 mk)/\u1.cell? ⟨g,o+j*4+3,none⟩=some (.slice p3 out.length c3):=⟨af c0 aO.out,af c1 aO.out,af d0 aO.out,af d1 aO.out,af d2 aO.out,af d3 aO.out⟩))
   obtain⟨s0,s1',s2,_,_,_⟩:=s1;have hb2:Below w0.heap.size w0 u1:=hb.trans (aO.out.mono hb.size);have Yq:0<j->u1.cell? ⟨g,o+(j-1)*4,none⟩=some (.int .i64 z):=fun h=>af (Mr h) aO.out
   clear c0 c1 d0 d1 d2 d3 hrow Mr;cases br with
   | false =>
     obtain rfl:R=false:=by rw[<-HB.out];exact cU aC (xy.out (.inl rfl))
     clear xy hrt Yq;go_wp2;go_quiet (fail)
     go_wp2;go_ret;exact⟨rfl,b0.trans ((ag hb2 _).mono b0.size)⟩
   | true =>
     by_cases h0:0<j
     ·have hp:=Yq h0
      have VF:(0:Int)<(j:Int):=by omega
      clear Yq;by_cases hz:x<=z
      ·obtain rfl:R=false:=by rw[<-HB.out];exact cU aC (xy.out (.inr ⟨h0,hz⟩))
       have hd:decide (x<=z)=true:=decide_eq_true hz;clear xy hrt hz;go_wp2;have e2:0<=(j:Int)-1:=by omega
       have e4:(j:Int)-1<(l.length:Int):=by omega
       have e3:((j:Int)-1).toNat=j-1:=by omega
       have e1:IntKind.i64.wrap ((j:Int)-1)=(j:Int)-1:=IntWalk.i64_in _ (by omega)
       go_quiet (fail)
       clear e1 e3;go_wp2;go_ret;exact⟨rfl,b0.trans ((ag hb2 _).mono b0.size)⟩
      ·have HJ:=hid (hrt.out rfl (.inr (by omega)))
       have hd:decide (x<=z)=false:=decide_eq_false hz;clear xy hrt hz;go_wp2;have e2:0<=(j:Int)-1:=by omega
       have e4:(j:Int)-1<(l.length:Int):=by omega
       have e3:((j:Int)-1).toNat=j-1:=by omega
       have e1:IntKind.i64.wrap ((j:Int)-1)=(j:Int)-1:=IntWalk.i64_in _ (by omega)
       go_quiet (fail)
       clear e1 e3;go_wp2;go_roundw
       case rel=>exact ⟨j+1,by omega,by go_num,(by intro q hq;rcases Nat.lt_succ_iff_lt_or_eq.1 hq with h | h;exact o7.out q h;rw[h];exact HJ.out),ag hb2 _⟩
       case measure=>simp [intOf];omega
     ·have HJ:=hid (hrt.out rfl (.inl (by omega)))
      have VF:decide ((0:Int)<(j:Int))=false:=by simp;omega
      clear xy hrt Yq;go_wp2;go_quiet (fail)
      go_wp2;go_roundw
      case rel=>exact ⟨j+1,by omega,by go_num,(by intro q hq;rcases Nat.lt_succ_iff_lt_or_eq.1 hq with h | h;exact o7.out q h;rw[h];exact HJ.out),ag hb2 _⟩
      case measure=>simp [intOf];omega
  ·obtain rfl:j=l.length:=by omega
   obtain rfl:R=true:=by rw[<-HB.out];exact dO o7.out
   go_wp2;go_ret;exact⟨rfl,b0.trans (hb.mono b0.size)⟩
def tI (l:List Rw):Prop:=∀r∈l,(r.out.length:Int)<=9223372036854775807
theorem Ju (t:Tb)(p:Option Addr)(c:Nat)(w:World)(hl:ar w p t.rows)(hs:tI t.rows) :
 Calls prog 111 #[.agg #[.int .i64 t.start,.slice p t.rows.length c]] w (cG w (eh t)):=by
 unfold eh;cases h:(cy t.start 0 4611686018427387904&&decide (t.rows.length<=16)) with
 | false =>
   rw[Bool.false_and];exact MQ _ _ _ _ _ h
 | true =>
   rw[Bool.true_and];rw[Bool.and_eq_true] at h;exact Jt _ _ _ _ _ h.1 (of_decide_eq_true h.2) hl hs
theorem BG (l:List Int)(n:Nat):ig l (n+1)=(ig l n&&cy (l.getD n 0) (-1) 4611686018427387903):=Er _ n
theorem Jv (t:Tk)(ps p:Option Addr)(cs c:Nat)(w:World)(hn:(t.stamps.length:Int)<=9223372036854775807)(hst:cX w ps t.stamps)(hl:ar w p t.table.rows)(hs:tI t.table.rows) :
 Calls prog 58 #[.agg #[.int .i64 t.gen,.int .i64 t.bP,.slice ps t.stamps.length cs,.int .i64 t.table.start,.slice p t.table.rows.length c]] w (cG w (bn t)):=by
 obtain⟨gen,bP,l,tb⟩:=t;simp only at hn hst hl hs ⊢;have Tf:=fun (u:World) (hu:Below w.heap.size w u)=>Ju tb p c u (hl.below hu) hs
 have c1:=fun u=>jX gen 1 1099511627776 u
 have c2:=fun u=>jX bP 0 1099511627776 u
 have c3:=fun u=>jX (l.length:Int) 1 64 u
 generalize hR:bn ⟨gen,bP,l,tb⟩=R;unfold bn lj at hR;simp only at hR;generalize cy gen 1 1099511627776=b1 at c1 hR;generalize cy bP 0 1099511627776=b2 at c2 hR;generalize cy (l.length:Int) 1 64=b3 at c3 hR;generalize eh tb=bt at Tf hR;have HST:=hid hst;have VK:=hid Tf;clear Tf hl hs hst;obtain⟨hd,hhd⟩:∃hd,hd=(b1&&b2&&b3):=⟨_,rfl⟩;rw[<-hhd] at hR;have HR:=hid hR;clear hR;have ways:(b1=false/\hd=false)∨(b1=true/\b2=false/\hd=false)∨(b1=true/\b2=true/\b3=hd):=by
  cases b1 <;>cases b2 <;>cases b3 <;>simp_all
 clear hhd;rcases ways with ⟨rfl,Yr⟩ | ⟨rfl,rfl,Yr⟩ | ⟨rfl,rfl,Yr⟩
 all_goals
  have HD:=hid Yr;clear Yr;go_enter func58,ntmps58
  go_wp2_with (first
   |(go_at_call 110;(with_reducible refine(c1 _).mono ?_);rintro e w1 ⟨rfl,rfl⟩)
   |(go_at_call 110;(with_reducible refine(c2 _).mono ?_);rintro e w1 ⟨rfl,rfl⟩)
   |(go_at_call 110;(with_reducible refine(c3 _).mono ?_);rintro e w1 ⟨rfl,rfl⟩))
  generalize hw0:w.alloc (.cells #[.int .i64 gen,.int .i64 bP,.slice ps l.length cs,.int .i64 tb.start,.slice p tb.rows.length c] 30)=w0;have b0:Below w.heap.size w w0:=by rw[<-hw0];exact(Below.refl _ _).alloc (Nat.le_refl _) _
  have k2:w0.cell? ⟨w.heap.size,2,none⟩=some (.slice ps l.length cs):=by
   rw[<-hw0,cell_of_row _ _ 2 _ _ (0,0) (heap_alloc_new w _)];rfl
  have k3:w0.cell? ⟨w.heap.size,3,none⟩=some (.int .i64 tb.start):=by
   rw[<-hw0,cell_of_row _ _ 3 _ _ (0,0) (heap_alloc_new w _)];rfl
  have k4:w0.cell? ⟨w.heap.size,4,none⟩=some (.slice p tb.rows.length c):=by
   rw[<-hw0,cell_of_row _ _ 4 _ _ (0,0) (heap_alloc_new w _)];rfl
  clear hw0 c1 c2 c3;go_loop [3,4] (fun ok i=>∃j:Nat,j<=l.length/\i=.int .i64 (j:Int)/\ok=.bool (hd&&ig l j)) (fun _ i=>l.length-(intOf i).toNat)
  case atStart=>exact ⟨0,by omega,rfl,(by rw[show ig l 0=true from rfl,Bool.and_true];first | rw[HD.out] | rw[<-HD.out])⟩
  case round =>
   obtain⟨j,hj,rfl,rfl⟩:=hrel;by_cases aC:j<l.length
   ·obtain ⟨g,o,rfl,hc⟩:∃g o,ps=some ⟨g,o,none⟩/\∀j,j<l.length->w.cell? ⟨g,o+j,none⟩=some (.int .i64 (l.getD j 0)):=by
     rcases HST.out with h | h
     ·rw [h] at aC;simp at aC
     ·exact h
    have hcj:=af (hc j aC) b0;have HS:=hid (BG l j);have ci:=fun u=>jX (l.getD j 0) (-1) 4611686018427387903 u
    generalize cy (l.getD j 0) (-1) 4611686018427387903=b at ci HS;generalize l.getD j 0=x at hcj ci;obtain⟨q,hq⟩:∃q,q=(hd&&ig l j):=⟨_,rfl⟩;rw[<-hq];have HQ:=hid hq;clear hc hq;cases q
    ·go_wp2_with (go_at_call 110;(with_reducible refine(ci _).mono ?_);rintro e w1 ⟨rfl,rfl⟩)
     go_round
     case rel=>exact ⟨j+1,by omega,by go_num,by rw[HS.out,<-Bool.and_assoc,<-HQ.out];rfl⟩
     case measure=>simp [intOf];omega
    ·go_wp2_with (go_at_call 110;(with_reducible refine(ci _).mono ?_);rintro e w1 ⟨rfl,rfl⟩)
     go_round
     case rel=>exact ⟨j+1,by omega,by go_num,by rw[HS.out,<-Bool.and_assoc,<-HQ.out];rfl⟩
     case measure=>simp [intOf];omega
   ·obtain rfl:j=l.length:=by omega
    have ct:=VK.out w0 b0;obtain⟨q,hq⟩:∃q,q=(hd&&ig l l.length):=⟨_,rfl⟩;rw[<-hq];have hr:R=(q&&bt):=by rw[hq];exact HR.out.symm
    clear hq VK HR;cases q
    ·obtain rfl:R=false:=by rw[hr];rfl
     clear hr;go_wp2_with (go_at_call 111;(with_reducible refine ct.mono ?_);rintro e w1 ⟨rfl,hb1⟩;have aO:=hid hb1;clear hb1)
     go_ret;exact⟨rfl,b0.trans (aO.out.mono b0.size)⟩
    ·obtain rfl:R=bt:=by rw[hr];rfl
     clear hr;go_wp2_with (go_at_call 111;(with_reducible refine ct.mono ?_);rintro e w1 ⟨rfl,hb1⟩;have aO:=hid hb1;clear hb1)
     go_ret;exact⟨rfl,b0.trans (aO.out.mono b0.size)⟩
theorem MR {a b c d R:Bool}(h:(a&&b&&c&&d)=R):(a=false/\R=false)∨(a=true/\b=false/\R=false)∨(a=true/\b=true/\c=false/\R=false)∨(a=true/\b=true/\c=true/\d=false/\R=false)∨(a=true/\b=true/\c=true/\d=true/\R=true):=by
 subst h;cases a <;>cases b <;>cases c <;>cases d <;>simp
theorem MS (x y x' y':Int)(w:World):(Op.equalIn 10000 141 (.agg #[.int .i64 x,.int .i64 y]) (.agg #[.int .i64 x',.int .i64 y'])).run prog w=.ok (x==x'&&y==y') w:=by
 rw[run_equalIn_agg w 9999 _ _ _ (by kernel_rfl) (by kernel_rfl)]
 have e:∀(a b:Int) (w:World),(Op.equalIn 9999 3 (.int .i64 a) (.int .i64 b)).run prog w=.ok (a==b) w:=fun a b w=>run_equalIn_int w 9998 _ _ _ a b underlying3
 cases h:(x==x')
 ·simp [Program.fieldsOf,underlying141,Op.eqFields,part,isAgg,run_underlying underlying3,e,h]
 ·by_cases k:y=y'
  ·simp [Program.fieldsOf,underlying141,Op.eqFields,part,isAgg,run_underlying underlying3,e,h,k]
  ·simp [Program.fieldsOf,underlying141,Op.eqFields,part,isAgg,run_underlying underlying3,e,h,k]
theorem yi (x y x' y':Int)(w:World):(binOp .neq 141 (.agg #[.int .i64 x,.int .i64 y]) (.agg #[.int .i64 x',.int .i64 y'])).run prog w=.ok (.bool (!(x==x'&&y==y'))) w:=by
 rw[run_neq_struct,MS];rfl
theorem MU (a b:List Int)(p q:Option Addr)(c d:Nat)(w:World)(hn:(a.length:Int)<=9223372036854775807)(ha:cX w p a)(hb:cX w q b) :
 Calls prog 66 #[.slice p a.length c,.slice q b.length d] w (cG w (mZ a b)):=by
 unfold mZ;by_cases hl:a.length=b.length
 ·have e:(a.length==b.length)=true:=by simpa using hl
  rw[e,Bool.true_and,<-hl];have tJ:=hid hl;clear e hl;generalize hB:dC (fun i=>a.getD i 0==b.getD i 0) a.length=R
  have HB:=hid hB;have HA:=hid ha;have eF:=hid hb;clear hB ha hb;go_enter func66,ntmps66
  go_wp2;go_loopw [5] (fun i wr=>∃j:Nat,j<=a.length/\i=.int .i64 (j:Int)/\Hid (∀q,q<j->(a.getD q 0==b.getD q 0)=true)/\Below w.heap.size w wr) (fun i _=>a.length-(intOf i).toNat)
  case atStart=>exact ⟨0,by omega,rfl,(by intro q hq;omega),Below.refl _ _⟩
  case round =>
   obtain⟨j,hj,rfl,o7,aW⟩:=hrel;by_cases aC:j<a.length
   ·obtain ⟨g,o,rfl,hc⟩:∃g o,p=some ⟨g,o,none⟩/\∀j,j<a.length->w.cell? ⟨g,o+j,none⟩=some (.int .i64 (a.getD j 0)):=by
     rcases HA.out with h | h
     ·rw [h] at aC;simp at aC
     ·exact h
    obtain⟨g',o',rfl,hc'⟩:∃g o,q=some ⟨g,o,none⟩/\∀j,j<b.length->w.cell? ⟨g,o+j,none⟩=some (.int .i64 (b.getD j 0)):=by
     rcases eF.out with h | h
     ·have:=tJ.out;rw[h] at this;simp at this;rw[this] at aC;simp at aC
     ·exact h
    have c1:=af (hc j aC) aW;have c2:=af (hc' j (by rw[<-tJ.out];exact aC)) aW
    have bE:(j:Int)<(a.length:Int):=by omega
    clear hc hc';have HJ:=hid (show ∀bo,(a.getD j 0==b.getD j 0)=bo->(bo=false->R=false)/\(bo=true->∀q,q<j+1->(a.getD q 0==b.getD q 0)=true) from fun bo MV =>
     ⟨fun h=>by rw[<-HB.out];exact cU aC (by rw[MV];exact h),fun h q hq=>by
      rcases Nat.lt_succ_iff_lt_or_eq.1 hq with h1 | h1
      ·exact o7.out q h1
      ·rw [h1,MV];exact h⟩)
    generalize a.getD j 0=x at c1 HJ;generalize b.getD j 0=y at c2 HJ;by_cases Jw:x=y
    ·have HK:=hid ((HJ.out true (by simpa using Jw)).2 rfl)
     have hd:(x != y)=false:=by simpa using Jw
     clear Jw HJ;go_wp2;go_quiet (fail)
     go_wp2;go_roundw
     case rel=>exact ⟨j+1,by omega,by go_num,HK,ag aW _⟩
     case measure=>simp [intOf];omega
    ·obtain rfl:=(HJ.out false (by simpa using Jw)).1 rfl
     have hd:(x != y)=true:=by simpa using Jw
     clear Jw HJ;go_wp2;go_quiet (fail)
     go_wp2;go_ret;exact⟨rfl,ag aW _⟩
   ·obtain rfl:j=a.length:=by omega
    obtain rfl:R=true:=by rw[<-HB.out];exact dO o7.out
    go_wp2;go_ret;exact⟨rfl,aW⟩
 ·have e:(a.length==b.length)=false:=by simpa using hl
  rw[e,Bool.false_and];have hd:((a.length:Int) != (b.length:Int))=true:=by simp;omega
  clear e hl ha hb;generalize a.length=n at hd hn ⊢;generalize b.length=m at hd ⊢;go_enter func66,ntmps66
  go_wp2;go_ret;exact⟨rfl,Below.refl _ _⟩
theorem EM (k a m k' a' m':Int)(p p':Option Addr)(n n' c c':Nat)(w:World)(h:(k==k'&&a==a'&&m==m'&&n==n')=false) :
 Calls prog 71 #[.agg #[.int .i64 k,.int .i64 a,.int .i64 m,.slice p n c],.agg #[.int .i64 k',.int .i64 a',.int .i64 m',.slice p' n' c']] w (cG w false):=by
 have yj:Below w.heap.size w ((w.alloc (.cells #[.int .i64 k,.int .i64 a,.int .i64 m,.slice p n c] 80)).alloc (.cells #[.int .i64 k',.int .i64 a',.int .i64 m',.slice p' n' c'] 80)):=((Below.refl _ _).alloc (Nat.le_refl _) _).alloc (by simp) _
 rcases MR h with ⟨h1,-⟩ | ⟨h0,h1,-⟩ | ⟨h0,h2,h1,-⟩ | ⟨h0,h2,h3,h1,-⟩ | ⟨-,-,-,-,h1⟩
 ·have d1:(k != k')=true:=by simpa using h1
  clear h h1;go_enter func71,ntmps71
  go_wp2;go_ret;exact⟨rfl,yj⟩
 ·have d0:(k != k')=false:=by simpa using h0
  have d1:(a != a')=true:=by simpa using h1
  clear h h0 h1;go_enter func71,ntmps71
  go_wp2;go_ret;exact⟨rfl,yj⟩
 ·have d0:(k != k')=false:=by simpa using h0
  have d2:(a != a')=false:=by simpa using h2
  have d1:(m != m')=true:=by simpa using h1
  clear h h0 h1 h2;go_enter func71,ntmps71
  go_wp2;go_ret;exact⟨rfl,yj⟩
 ·have d0:(k != k')=false:=by simpa using h0
  have d2:(a != a')=false:=by simpa using h2
  have d3:(m != m')=false:=by simpa using h3
  have d1:((n:Int) != (n':Int))=true:=by simp at h1 ⊢;omega
  clear h h0 h1 h2 h3;go_enter func71,ntmps71
  go_wp2;go_ret;exact⟨rfl,yj⟩
 ·cases h1
theorem BH (k a m:Int)(p p':Option Addr)(l l':List (Int×Int))(c c':Nat)(w:World)(hn:(l.length:Int)<=9223372036854775807)(hl:l.length=l'.length)(ha:ak w p l)(hb:ak w p' l') :
 Calls prog 71 #[.agg #[.int .i64 k,.int .i64 a,.int .i64 m,.slice p l.length c],.agg #[.int .i64 k,.int .i64 a,.int .i64 m,.slice p' l.length c']] w (cG w (jP l l')):=by
 unfold jP;have tJ:=hid hl;clear hl;generalize hB:dC (fun i=>jO (l.getD i (0,0)) (l'.getD i (0,0))) l.length=R
 have HB:=hid hB;have HA:=hid ha;have eF:=hid hb;clear hB ha hb;have d0:(k != k)=false:=by simp
 have d1:(a != a)=false:=by simp
 have d2:(m != m)=false:=by simp
 go_enter func71,ntmps71
 go_wp2;generalize hw0:(w.alloc (.cells #[.int .i64 k,.int .i64 a,.int .i64 m,.slice p l.length c] 80)).alloc (.cells #[.int .i64 k,.int .i64 a,.int .i64 m,.slice p' l.length c'] 80)=w0;have b0:Below w.heap.size w w0:=by rw[<-hw0];exact((Below.refl _ _).alloc (Nat.le_refl _) _).alloc (by simp) _
 have k3:w0.cell? ⟨w.heap.size,3,none⟩=some (.slice p l.length c):=by
  rw[<-hw0,cell_of_row _ _ 3 _ _ (0,0) ((Below.heap_alloc _ _ _ (by simp)).trans (heap_alloc_new w _))];rfl
 have k4:w0.cell? ⟨w.heap.size+1,3,none⟩=some (.slice p' l.length c'):=by
  have:=heap_alloc_new (w.alloc (.cells #[.int .i64 k,.int .i64 a,.int .i64 m,.slice p l.length c] 80)) (.cells #[.int .i64 k,.int .i64 a,.int .i64 m,.slice p' l.length c'] 80);rw[show (w.alloc (.cells #[.int .i64 k,.int .i64 a,.int .i64 m,.slice p l.length c] 80)).heap.size=w.heap.size+1 by simp] at this
  rw[<-hw0,cell_of_row _ _ 3 _ _ (0,0) this];rfl
 have rN:=hid k3;have VL:=hid k4;clear hw0 k3 k4 d0 d1 d2;go_loopw [5] (fun i wr=>∃j:Nat,j<=l.length/\i=.int .i64 (j:Int)/\Hid (∀q,q<j->jO (l.getD q (0,0)) (l'.getD q (0,0))=true)/\Below w0.heap.size w0 wr) (fun i _=>l.length-(intOf i).toNat)
 case atStart=>exact ⟨0,by omega,rfl,(by intro q hq;omega),Below.refl _ _⟩
 case round =>
  obtain⟨j,hj,rfl,o7,aW⟩:=hrel;have e3:wr.cell? ⟨w.heap.size,3,none⟩=some (.slice p l.length c):=af rN.out aW;have e4:wr.cell? ⟨w.heap.size+1,3,none⟩=some (.slice p' l.length c'):=af VL.out aW;by_cases aC:j<l.length
  ·obtain ⟨g,o,rfl,hc⟩:∃g o,p=some ⟨g,o,none⟩/\∀j,j<l.length->w.cell? ⟨g,o+j*2,none⟩=some (.int .i64 (l.getD j (0,0)).1)/\w.cell? ⟨g,o+j*2+1,none⟩=some (.int .i64 (l.getD j (0,0)).2):=by
    rcases HA.out with h | h
    ·rw [h] at aC;simp at aC
    ·exact h
   obtain⟨g',o',rfl,hc'⟩:∃g o,p'=some ⟨g,o,none⟩/\∀j,j<l'.length->w.cell? ⟨g,o+j*2,none⟩=some (.int .i64 (l'.getD j (0,0)).1)/\w.cell? ⟨g,o+j*2+1,none⟩=some (.int .i64 (l'.getD j (0,0)).2):=by
    rcases eF.out with h | h
    ·have:=tJ.out;rw[h] at this;simp at this;rw[this] at aC;simp at aC
    ·exact h
   have f1:=af (af (hc j aC).1 b0) aW;have f2:=af (af (hc j aC).2 b0) aW;have f3:=af (af (hc' j (by rw[<-tJ.out];exact aC)).1 b0) aW
   have f4:=af (af (hc' j (by rw[<-tJ.out];exact aC)).2 b0) aW
   have bE:(j:Int)<(l.length:Int):=by omega
   clear hc hc';have HJ:=hid (show ∀bo,jO (l.getD j (0,0)) (l'.getD j (0,0))=bo->(bo=false->R=false)/\(bo=true->∀q,q<j+1->jO (l.getD q (0,0)) (l'.getD q (0,0))=true) from fun bo MV =>
    ⟨fun h=>by rw[<-HB.out];exact cU aC (by rw[MV];exact h),fun h q hq=>by
     rcases Nat.lt_succ_iff_lt_or_eq.1 hq with h1 | h1
     ·exact o7.out q h1
     ·rw [h1,MV];exact h⟩)
   generalize l.getD j (0,0)=x at f1 f2 HJ;generalize l'.getD j (0,0)=y at f3 f4 HJ;obtain⟨x,u⟩:=x;obtain⟨y,v⟩:=y;simp only at f1 f2 f3 f4;cases Jw:jO (x,u) (y,v) with
   | true =>
     have HK:=hid ((HJ.out true Jw).2 rfl);have nq:∀W,(binOp .neq 141 (.agg #[.int .i64 x,.int .i64 u]) (.agg #[.int .i64 y,.int .i64 v])).run prog W=.ok (.bool false) W:=fun W=>by rw[yi,show(x==y&&u==v)=true from Jw];rfl
     clear Jw HJ;go_wp2;go_quiet (fail)
     go_wp2;go_roundw
     case rel=>exact ⟨j+1,by omega,by go_num,HK,ag aW _⟩
     case measure=>simp [intOf];omega
   | false =>
     obtain rfl:=(HJ.out false Jw).1 rfl;have nq:∀W,(binOp .neq 141 (.agg #[.int .i64 x,.int .i64 u]) (.agg #[.int .i64 y,.int .i64 v])).run prog W=.ok (.bool true) W:=fun W=>by rw[yi,show(x==y&&u==v)=false from Jw];rfl
     clear Jw HJ;go_wp2;go_quiet (fail)
     go_wp2;go_ret;exact⟨rfl,b0.trans ((ag aW _).mono b0.size)⟩
  ·obtain rfl:j=l.length:=by omega
   obtain rfl:R=true:=by rw[<-HB.out];exact dO o7.out
   go_wp2;go_ret;exact⟨rfl,b0.trans (aW.mono b0.size)⟩
theorem BI (r s:Rw)(p p':Option Addr)(c c':Nat)(w:World)(hn:(r.out.length:Int)<=9223372036854775807)(ha:ak w p r.out)(hb:ak w p' s.out) :
 Calls prog 71 #[.agg #[.int .i64 r.key,.int .i64 r.ay,.int .i64 r.mark,.slice p r.out.length c],.agg #[.int .i64 s.key,.int .i64 s.ay,.int .i64 s.mark,.slice p' s.out.length c']] w (cG w (ij r s)):=by
 unfold ij;cases h:(r.key==s.key&&r.ay==s.ay&&r.mark==s.mark&&r.out.length==s.out.length) with
 | false =>
   rw[Bool.false_and];exact EM _ _ _ _ _ _ _ _ _ _ _ _ _ h
 | true =>
   rw[Bool.true_and];rcases MR h with ⟨-,h1⟩ | ⟨-,-,h1⟩ | ⟨-,-,-,h1⟩ | ⟨-,-,-,-,h1⟩ | ⟨h0,h1,h2,h3,-⟩
   ·cases h1
   ·cases h1
   ·cases h1
   ·cases h1
   ·have e0:r.key=s.key:=by simpa using h0
    have e1:r.ay=s.ay:=by simpa using h1
    have e2:r.mark=s.mark:=by simpa using h2
    have e3:r.out.length=s.out.length:=by simpa using h3
    rw[<-e0,<-e1,<-e2,<-e3];exact BH _ _ _ _ _ _ _ _ _ _ hn e3 ha hb
theorem zQ (s s':Int)(p p':Option Addr)(n n' c c':Nat)(w:World)(h:(s==s'&&n==n')=false) :
 Calls prog 26 #[.agg #[.int .i64 s,.slice p n c],.agg #[.int .i64 s',.slice p' n' c']] w (cG w false):=by
 have yj:Below w.heap.size w ((w.alloc (.cells #[.int .i64 s,.slice p n c] 28)).alloc (.cells #[.int .i64 s',.slice p' n' c'] 28)):=((Below.refl _ _).alloc (Nat.le_refl _) _).alloc (by simp) _
 cases h1:(s==s') with
 | false =>
   have d1:(s != s')=true:=by simpa using h1
   clear h h1;go_enter func26,ntmps26
   go_wp2;go_ret;exact⟨rfl,yj⟩
 | true =>
   rw[h1,Bool.true_and] at h;have d0:(s != s')=false:=by simpa using h1
   have d1:((n:Int) != (n':Int))=true:=by simp at h ⊢;omega
   clear h h1;go_enter func26,ntmps26
   go_wp2;go_ret;exact⟨rfl,yj⟩
theorem xA (s:Int)(p p':Option Addr)(l l':List Rw)(c c':Nat)(w:World)(hn:(l.length:Int)<=9223372036854775807)(hl:l.length=l'.length)(ha:ar w p l)(hb:ar w p' l')(hs:tI l) :
 Calls prog 26 #[.agg #[.int .i64 s,.slice p l.length c],.agg #[.int .i64 s,.slice p' l.length c']] w (cG w (dC (fun i=>ij (l.getD i aq) (l'.getD i aq)) l.length)):=by
 have tJ:=hid hl;clear hl;generalize hB:dC (fun i=>ij (l.getD i aq) (l'.getD i aq)) l.length=R
 have HB:=hid hB;have HA:=hid ha;have eF:=hid hb;have HS:=hid hs;clear hB ha hb hs;have d0:(s != s)=false:=by simp
 go_enter func26,ntmps26
 go_wp2;generalize hw0:(w.alloc (.cells #[.int .i64 s,.slice p l.length c] 28)).alloc (.cells #[.int .i64 s,.slice p' l.length c'] 28)=w0;have b0:Below w.heap.size w w0:=by rw[<-hw0];exact((Below.refl _ _).alloc (Nat.le_refl _) _).alloc (by simp) _
 have k3:w0.cell? ⟨w.heap.size,1,none⟩=some (.slice p l.length c):=by
  rw[<-hw0,cell_of_row _ _ 1 _ _ (0,0) ((Below.heap_alloc _ _ _ (by simp)).trans (heap_alloc_new w _))];rfl
 have k4:w0.cell? ⟨w.heap.size+1,1,none⟩=some (.slice p' l.length c'):=by
  have:=heap_alloc_new (w.alloc (.cells #[.int .i64 s,.slice p l.length c] 28)) (.cells #[.int .i64 s,.slice p' l.length c'] 28);rw[show (w.alloc (.cells #[.int .i64 s,.slice p l.length c] 28)).heap.size=w.heap.size+1 by simp] at this
  rw[<-hw0,cell_of_row _ _ 1 _ _ (0,0) this];rfl
 have rN:=hid k3;have VL:=hid k4;clear hw0 k3 k4 d0;go_loopw [5] (fun i wr=>∃j:Nat,j<=l.length/\i=.int .i64 (j:Int)/\Hid (∀q,q<j->ij (l.getD q aq) (l'.getD q aq)=true)/\Below w0.heap.size w0 wr) (fun i _=>l.length-(intOf i).toNat)
 case atStart=>exact ⟨0,by omega,rfl,(by intro q hq;omega),Below.refl _ _⟩
 case round =>
  obtain⟨j,hj,rfl,o7,aW⟩:=hrel;have e3:wr.cell? ⟨w.heap.size,1,none⟩=some (.slice p l.length c):=af rN.out aW;have e4:wr.cell? ⟨w.heap.size+1,1,none⟩=some (.slice p' l.length c'):=af VL.out aW;by_cases aC:j<l.length
  ·obtain ⟨g,o,rfl,hc⟩:∃g o,p=some ⟨g,o,none⟩/\∀j,j<l.length->dK wr g (o+j*4) (l.getD j aq):=by
    rcases(HA.out.below b0).below aW with h | h
    ·rw [h] at aC;simp at aC
    ·exact h
   obtain⟨g',o',rfl,hc'⟩:∃g o,p'=some ⟨g,o,none⟩/\∀j,j<l'.length->dK wr g (o+j*4) (l'.getD j aq):=by
    rcases(eF.out.below b0).below aW with h | h
    ·have:=tJ.out;rw[h] at this;simp at this;rw[this] at aC;simp at aC
    ·exact h
   obtain⟨f0,f1,f2,q3,r3,f3,hle⟩:=hc j aC;obtain⟨Ys,Yt,Yu,q3',UW,Yv,Tg⟩:=hc' j (by rw[<-tJ.out];exact aC)
   have hro:=HS.out (l.getD j aq) (by simp[List.getD,aC])
   have hrow:=fun (u:World) (hu:Below wr.heap.size wr u)=>BI (l.getD j aq) (l'.getD j aq) q3 q3' r3 UW u hro (hle.below hu) (Tg.below hu)
   have bE:(j:Int)<(l.length:Int):=by omega
   clear hc hc';have HJ:=hid (show ∀bo,ij (l.getD j aq) (l'.getD j aq)=bo->(bo=false->R=false)/\(bo=true->∀q,q<j+1->ij (l.getD q aq) (l'.getD q aq)=true) from fun bo MV =>
    ⟨fun h=>by rw[<-HB.out];exact cU aC (by rw[MV];exact h),fun h q hq=>by
     rcases Nat.lt_succ_iff_lt_or_eq.1 hq with h1 | h1
     ·exact o7.out q h1
     ·rw [h1,MV];exact h⟩)
   generalize l.getD j aq=x at f0 f1 f2 f3 hle hro hrow HJ;generalize l'.getD j aq=y at Ys Yt Yu Yv Tg hrow HJ;obtain⟨x0,x1,x2,x3⟩:=x;obtain⟨y0,y1,y2,y3⟩:=y;simp only at f0 f1 f2 f3 Ys Yt Yu Yv hrow;clear hle Tg hro;have MW:=hid (HJ.out _ rfl);clear HJ;generalize ij ⟨x0,x1,x2,x3⟩ ⟨y0,y1,y2,y3⟩=br at hrow MW;go_wp2;go_region_held3 (fun u=>u.cell? ⟨w.heap.size,1,none⟩=some (.slice (some ⟨g,o,none⟩) l.length c)/\u.cell? ⟨w.heap.size+1,1,none⟩=some (.slice (some ⟨g',o',none⟩) l.length c')/\u.cell? ⟨g,o+j*4,none⟩=some (.int .i64 x0)/\u.cell? ⟨g,o+j*4+1,none⟩=some (.int .i64 x1)/\u.cell? ⟨g,o+j*4+2,none⟩=some (.int .i64 x2)/\u.cell? ⟨g,o+j*4+3,none⟩=some (.slice q3 x3.length r3)/\u.cell? ⟨g',o'+j*4,none⟩=some (.int .i64 y0)/\u.cell? ⟨g',o'+j*4+1,none⟩=some (.int .i64 y1)/\u.cell? ⟨g',o'+j*4+2,none⟩=some (.int .i64 y2)/\u.cell? ⟨g',o'+j*4+3,none⟩=some (.slice q3' y3.length UW)) (first | assumption | exact⟨e3,e4,f0,f1,f2,f3,Ys,Yt,Yu,Yv⟩) (first
    |(go_at_call 71;(with_reducible refine(hrow _ (Below.refl _ _).drew).mono ?_);rintro e u1 ⟨rfl,hb1⟩;have aO:=hid (EL hb1);clear hb1;have s1:u1.cell? ⟨w.heap.size,1,none⟩=some (.slice (some ⟨g,o,none⟩) l.length c)/\u1.cell? ⟨w.heap.size+1,1,none⟩=some (.slice (some ⟨g',o',none⟩) l.length c')/\u1.cell? ⟨g,o+j*4,none⟩=some (.int .i64 x0)/\u1.cell? ⟨g,o+j*4+1,none⟩=some (.int .i64 x1)/\u1.cell? ⟨g,o+j*4+2,none⟩=some (.int .i64 x2)/\u1.cell? ⟨g,o+j*4+3,none⟩=some (.slice q3 x3.length r3)/\u1.cell? ⟨g',o'+j*4,none⟩=some (.int .i64 y0)/\u1.cell? ⟨g',o'+j*4+1,none⟩=some (.int .i64 y1)/\u1.cell? ⟨g',o'+j*4+2,none⟩=some (.int .i64 y2)/\u1.cell? ⟨g',o'+j*4+3,none⟩=some (.slice q3' y3.length UW):=⟨af e3 aO.out,af e4 aO.out,af f0 aO.out,af f1 aO.out,af f2 aO.out,af f3 aO.out,af Ys aO.out,af Yt aO.out,af Yu aO.out,af Yv aO.out⟩))
   have hb2:Below w0.heap.size w0 u1:=aW.trans (aO.out.mono aW.size);clear s1 hrow;cases br with
   | true =>
     have HK:=hid (MW.out.2 rfl);clear MW;go_wp2;go_roundw
     case rel=>exact ⟨j+1,by omega,by go_num,HK,hb2⟩
     case measure=>simp [intOf];omega
   | false =>
     obtain rfl:=MW.out.1 rfl;clear MW;go_wp2;go_ret;exact⟨rfl,b0.trans (hb2.mono b0.size)⟩
  ·obtain rfl:j=l.length:=by omega
   obtain rfl:R=true:=by rw[<-HB.out];exact dO o7.out
   go_wp2;go_ret;exact⟨rfl,b0.trans (aW.mono b0.size)⟩
theorem xB (a b:Tb)(p p':Option Addr)(c c':Nat)(w:World)(hn:(a.rows.length:Int)<=9223372036854775807)(ha:ar w p a.rows)(hb:ar w p' b.rows)(hs:tI a.rows) :
 Calls prog 26 #[.agg #[.int .i64 a.start,.slice p a.rows.length c],.agg #[.int .i64 b.start,.slice p' b.rows.length c']] w (cG w (gS a b)):=by
 unfold gS;cases h:(a.start==b.start&&a.rows.length==b.rows.length) with
 | false =>
   rw[Bool.false_and];exact zQ _ _ _ _ _ _ _ _ _ h
 | true =>
   rw[Bool.true_and];rw[Bool.and_eq_true] at h;have e0:a.start=b.start:=by simpa using h.1
   have e1:a.rows.length=b.rows.length:=by simpa using h.2
   rw[<-e0,<-e1];exact xA _ _ _ _ _ _ _ _ hn e1 ha hb hs
theorem yl (w:World)(cs ds:Array Value)(T:TypeId):Below w.heap.size w ((w.alloc (.cells cs T)).alloc (.cells ds T))/\(∀i,((w.alloc (.cells cs T)).alloc (.cells ds T)).cell? ⟨w.heap.size,i,none⟩=cs[i]?)/\∀i,((w.alloc (.cells cs T)).alloc (.cells ds T)).cell? ⟨w.heap.size+1,i,none⟩=ds[i]? :=by
 refine⟨((Below.refl _ _).alloc (Nat.le_refl _) _).alloc (by simp) _,fun i=>cell_of_row _ _ i _ T (0,0) ((Below.heap_alloc _ _ _ (by simp)).trans (heap_alloc_new w _)),fun i=> ?_⟩
 have:=heap_alloc_new (w.alloc (.cells cs T)) (.cells ds T);rw[show (w.alloc (.cells cs T)).heap.size=w.heap.size+1 by simp] at this
 exact cell_of_row _ _ i _ T (0,0) this
theorem vH (g h s g' h' s':Int)(sp p Qe p':Option Addr)(sn sc n c VM RL n' c':Nat)(w:World)(b1 b2 R:Bool)
 (c1:∀u,Below w.heap.size w u->Calls prog 66 #[.slice sp sn sc,.slice Qe VM RL] u (cG u b1))
 (c2:∀u,Below w.heap.size w u->Calls prog 26 #[.agg #[.int .i64 s,.slice p n c],.agg #[.int .i64 s',.slice p' n' c']] u (cG u b2))
 (hR:(g==g'&&h==h'&&b1&&b2)=R) :
 Calls prog 18 #[.agg #[.int .i64 g,.int .i64 h,.slice sp sn sc,.int .i64 s,.slice p n c],.agg #[.int .i64 g',.int .i64 h',.slice Qe VM RL,.int .i64 s',.slice p' n' c']] w (cG w R):=by
 obtain⟨b0,ka,kb⟩:=yl w #[.int .i64 g,.int .i64 h,.slice sp sn sc,.int .i64 s,.slice p n c] #[.int .i64 g',.int .i64 h',.slice Qe VM RL,.int .i64 s',.slice p' n' c'] 30;have HA:=hid (show ∀u,Below ((w.alloc (.cells #[.int .i64 g,.int .i64 h,.slice sp sn sc,.int .i64 s,.slice p n c] 30)).alloc (.cells #[.int .i64 g',.int .i64 h',.slice Qe VM RL,.int .i64 s',.slice p' n' c'] 30)).heap.size ((w.alloc (.cells #[.int .i64 g,.int .i64 h,.slice sp sn sc,.int .i64 s,.slice p n c] 30)).alloc (.cells #[.int .i64 g',.int .i64 h',.slice Qe VM RL,.int .i64 s',.slice p' n' c'] 30)) u ->
  u.cell? ⟨w.heap.size,0,none⟩=some (.int .i64 g)/\u.cell? ⟨w.heap.size,1,none⟩=some (.int .i64 h)/\u.cell? ⟨w.heap.size,3,none⟩=some (.int .i64 s)/\u.cell? ⟨w.heap.size,4,none⟩=some (.slice p n c) /\
  u.cell? ⟨w.heap.size+1,0,none⟩=some (.int .i64 g')/\u.cell? ⟨w.heap.size+1,1,none⟩=some (.int .i64 h')/\u.cell? ⟨w.heap.size+1,3,none⟩=some (.int .i64 s')/\u.cell? ⟨w.heap.size+1,4,none⟩=some (.slice p' n' c') from fun u hu =>
  ⟨af (ka 0) hu,af (ka 1) hu,af (ka 3) hu,af (ka 4) hu,af (kb 0) hu,af (kb 1) hu,af (kb 3) hu,af (kb 4) hu⟩)
 clear ka kb;rcases MR hR with ⟨d1,rfl⟩ | ⟨d0,d1,rfl⟩ | ⟨d0,d1,rfl,rfl⟩ | ⟨d0,d1,rfl,rfl,rfl⟩ | ⟨d0,d1,rfl,rfl,rfl⟩
 all_goals
  clear hR;go_enter func18,ntmps18
  go_wp2_with (first
   |(go_at_call 66;(with_reducible refine(c1 _ b0).mono ?_);rintro e u1 ⟨rfl,hb1⟩;clear c1;have H1:=hid hb1;have aW:=b0.trans (hb1.mono b0.size);clear hb1;obtain⟨x0,x1,x3,x4,y0,y1,y3,y4⟩:=HA.out u1 H1.out)
   |(go_at_call 26;(with_reducible refine(c2 _ aW).mono ?_);rintro e u2 ⟨rfl,hb2⟩;clear c2 x0 x1 x3 x4 y0 y1 y3 y4;have aaD:=aW.trans (hb2.mono aW.size);obtain⟨x0,x1,x3,x4,y0,y1,y3,y4⟩:=HA.out u2 (H1.out.trans (hb2.mono H1.out.size));clear hb2))
  go_ret;exact⟨rfl,aaD⟩
theorem pc (a b:Tk)(sp p Qe p':Option Addr)(sc c RL c':Nat)(w:World)(hm:(a.stamps.length:Int)<=9223372036854775807)(hn:(a.table.rows.length:Int)<=9223372036854775807)(ha:cX w sp a.stamps)(hb:cX w Qe b.stamps)(ra:ar w p a.table.rows)(rb:ar w p' b.table.rows)(hs:tI a.table.rows) :
 Calls prog 18 #[.agg #[.int .i64 a.gen,.int .i64 a.bP,.slice sp a.stamps.length sc,.int .i64 a.table.start,.slice p a.table.rows.length c],.agg #[.int .i64 b.gen,.int .i64 b.bP,.slice Qe b.stamps.length RL,.int .i64 b.table.start,.slice p' b.table.rows.length c']] w (cG w (rQ a b)) :=
 vH _ _ _ _ _ _ _ _ _ _ _ _ _ _ _ _ _ _ w _ _ _ (fun u hu=>MU a.stamps b.stamps sp Qe sc RL u hm (ha.below hu) (hb.below hu)) (fun u hu=>xB a.table b.table p p' c c' u hn (ra.below hu) (rb.below hu) hs) rfl
end Zx
namespace Zv
open Zx (Rw Tb aq ak af)
open Zq (aI cO ae aj ai)
theorem ag (w:World)(n:Nat):Below w.heap.size w (w.drewN n):=⟨rfl,rfl,rfl,Nat.le_refl _,fun _ _=>rfl⟩
theorem j6 {u:World}{ops:Array Oper}{rest:List Oper}{o:Oper}{a:Act}{Q:Exit->Act->World->Prop}(hgd:o.guard=none)(s y:Operand)
 (ho:o.op=.call { callee:=.builtin .append,args:= #[s,y],argTypes:= #[26,26] })
 (W w0 wr:World) (v:Value) (hs:a.eval s=v) (l:List Rw) (n:Nat) (hn:l.length=n) (ax:jY W w0.heap.size wr v l) (aW:Below w0.heap.size w0 wr) (hu:Below wr.heap.size wr u)
 (g:Nat) (x:Rw) (px:Option Addr) (nx cx:Nat) (Ic:x.out.length=nx) (hy:a.eval y=.slice (some ⟨g,0,Option.none⟩) 1 1)
 (hg:(u.alloc (.cells #[.int .i64 x.key,.int .i64 x.ay,.int .i64 x.mark,.slice px nx (cx+nx)] 80)).heap[g]? =some (.cells #[.int .i64 x.key,.int .i64 x.ay,.int .i64 x.mark,.slice px nx (cx+nx)] 80 (0,0))) (hx:ak W px x.out) (aT:n<=100000)
 (h:∀p c w',Hid (jY W w0.heap.size w' (.slice p (n+1) c) (l++[x]))->Below w0.heap.size w0 w'->wpList prog ops Q rest (a.put o.dst (.slice p (n+1) c)) w'):wpList prog ops Q (o :: rest) a (u.alloc (.cells #[.int .i64 x.key,.int .i64 x.ay,.int .i64 x.mark,.slice px nx (cx+nx)] 80)):=by
 subst hn Ic;obtain⟨i0,hi,hz0,hz1,hz2⟩:=info_parts Ms;obtain⟨m,hm,ax,sg⟩:=ax;have xT:Below wr.heap.size wr (u.alloc (.cells #[.int .i64 x.key,.int .i64 x.ay,.int .i64 x.mark,.slice px x.out.length (cx+x.out.length)] 80)):=hu.alloc hu.size _;refine wpList_append_own _ hgd s y 26 ho w0.heap.size 80 i0 (.agg #[.int .i64 0,.int .i64 0,.int .i64 0,.slice Option.none 0 0]) 4 48 underlying26 hi hz0 hz1 hz2 rfl (by decide) v l.length (bp m) hs (aI ax xT) ⟨g,0,Option.none⟩ 1 1 [.int .i64 x.key,.int .i64 x.ay,.int .i64 x.mark,.slice px x.out.length (cx+x.out.length)] hy rfl (World.news_of_block hg) ?_ (by unfold maxLen;omega) (by omega) (Nat.le_trans aW.size xT.size) ?_
 ·intro z hz
  simp at hz;rcases hz with rfl | rfl | rfl | rfl <;>rfl
 ·intro v' w' ko hg2 _
  have hb2:=(aW.trans (xT.mono aW.size)).grown hg2 (Nat.le_trans aW.size xT.size) (fun k hk=>(World.ownsRow.lt ax k hk).1)
  have R:=jY.S9 hm sg hx (aI ax xT) rfl ko;obtain⟨p,c,rfl⟩:∃p c,v'=.slice p (l.length+1) c:=by
   rcases ko.2 with ⟨_,h0⟩ | ⟨g,cap,cur,rfl,_⟩
   ·omega
   ·exact ⟨_,cap,rfl⟩
  exact h p c w' R hb2
open Zr (dh add sub mul)
theorem EN (r:Rw)(s:List Rw×Bool)(x:Rw):(s.2=true/\x.key=r.key/\cN r s x=(s.1,true))∨(s.2=true/\x.key≠r.key/\cN r s x=(s.1++[x],true))∨
 (s.2=false/\x.key<r.key/\cN r s x=(s.1++[x],false))∨(s.2=false/\x.key=r.key/\cN r s x=(s.1++[r],true))∨(s.2=false/\r.key<x.key/\cN r s x=(s.1++[r]++[x],true)):=by
 obtain⟨a,d⟩:=s;unfold cN;cases d
 ·by_cases h1:x.key<r.key
  ·exact .inr (.inr (.inl ⟨rfl,h1,by simp[show ¬r.key<=x.key by omega,show x.key≠r.key by omega]⟩))
  ·by_cases h2:x.key=r.key
   ·exact .inr (.inr (.inr (.inl ⟨rfl,h2,by simp[h2]⟩)))
   ·exact .inr (.inr (.inr (.inr ⟨rfl,by omega,by simp[show r.key<=x.key by omega,h2]⟩)))
 ·by_cases h2:x.key=r.key
  ·exact .inl ⟨rfl,h2,by simp[h2]⟩
  ·exact .inr (.inl ⟨rfl,h2,by simp[h2]⟩)
theorem uF (t:Tb)(p:Option Addr)(c:Nat)(r:Rw)(pr:Option Addr)(cr:Nat)(W w:World)(h:ar W p t.rows)(hr:ak W pr r.out)(hW:Below W.heap.size W w)(hl:t.rows.length<=1000) :
 Calls prog 121 #[bN t p c,dE r pr cr] w (ew w (setRow t r) id):=by
 obtain⟨start,rows⟩:=t;obtain⟨k0,k1,k2,hb⟩:=gq w (.cells #[.int .i64 start,.slice p rows.length (c+rows.length)] 28) (.cells #[.int .i64 r.key,.int .i64 r.ay,.int .i64 r.mark,.slice pr r.out.length (cr+r.out.length)] 80) (.cells #[.int .i64 0,.slice none 0 0] 28);simp only[bN,dE] at *;have HS:=hid (show setRow ⟨start,rows⟩ r=⟨start,dr rows r⟩ from rfl)
 have Yw:=hid (show dr rows r=if (gj r rows).2=true then (gj r rows).1 else (gj r rows).1++[r] from rfl)
 generalize setRow ⟨start,rows⟩ r=T at HS ⊢;generalize dr rows r=SR at HS Yw;have HW:=hid hW;have HR:=hid h;have RM:=hid hr;have HB:=hid hb;have K0:=hid k0;have K1:=hid k1;have K2:=hid k2;clear hW h hr hb k0 k1 k2;go_enter func121,ntmps121
 go_wp2;have hsz:(((w.alloc (.cells #[.int .i64 start,.slice p rows.length (c+rows.length)] 28)).alloc (.cells #[.int .i64 r.key,.int .i64 r.ay,.int .i64 r.mark,.slice pr r.out.length (cr+r.out.length)] 80)).alloc (.cells #[.int .i64 0,.slice none 0 0] 28)).heap.size=w.heap.size+1+1+1:=by simp
 generalize(((w.alloc (.cells #[.int .i64 start,.slice p rows.length (c+rows.length)] 28)).alloc (.cells #[.int .i64 r.key,.int .i64 r.ay,.int .i64 r.mark,.slice pr r.out.length (cr+r.out.length)] 80)).alloc (.cells #[.int .i64 0,.slice none 0 0] 28))=w3 at *;have HZ:=hid hsz;clear hsz;go_loopw [5,6,7] (fun v d i wr=>∃j:Nat,j<=rows.length/\i=.int .i64 (j:Int)/\d=.bool (gj r (rows.take j)).2/\Hid (jY W w3.heap.size wr v (gj r (rows.take j)).1)/\Below w3.heap.size w3 wr) (fun _ _ i _=>rows.length-(intOf i).toNat)
 case atStart=>exact ⟨0,by omega,rfl,rfl,jY.none _ _ _,Below.refl _ _⟩
 case round =>
  obtain⟨j,hj,rfl,rfl,ax,aW⟩:=hrel;obtain⟨a0,a1,-⟩:=dY (t:=⟨start,rows⟩) ((aW.block _ (ae K0.out)).trans K0.out);obtain⟨b0,b1,b2,b3,-⟩:=aV ((aW.block _ (ae K1.out)).trans K1.out);by_cases aC:j<rows.length
  ·obtain ⟨b,o,rfl,o9,qC,Jp,px,cx,Jq,Bg⟩:=gT HR.out aC
   have EO:=HW.out.trans ((HB.out.trans (aW.mono HB.out.size)).mono HW.out.size);have x0:=af o9 EO;have x1:=af qC EO;have x2:=af Jp EO;have x3:=af Jq EO;have bE:(j:Int)<(rows.length:Int):=by omega
   have hst:=Es r rows j aC;have hcs:=EN r (gj r (rows.take j)) (rows.getD j aq);rw[<-hst] at hcs;have aT:=rR r (rows.take j);have BJ:(gj r (rows.take j)).1.length<=1001:=by
    have:(rows.take j).length<=1000:=by simp;omega
    omega
   generalize gj r (rows.take j)=S at *;generalize VN:gj r (rows.take (j+1))=S' at *;have rO:=hid VN;clear VN;generalize rows.getD j aq=x at *;obtain⟨l,D⟩:=S;simp only at BJ;obtain⟨pv,cv,rfl⟩:=ax.out.jx;have VO:=hid Bg;have cH:=hid (HW.out.trans (HB.out.mono HW.out.size));have Qa:Hid (∀u,Below W.heap.size W u->u.cell? ⟨b,o+j*4,none⟩=some (.int .i64 x.key)/\u.cell? ⟨b,o+j*4+1,none⟩=some (.int .i64 x.ay)/\u.cell? ⟨b,o+j*4+2,none⟩=some (.int .i64 x.mark)/\u.cell? ⟨b,o+j*4+3,none⟩=some (.slice px x.out.length (cx+x.out.length))):=fun u hu=>⟨af o9 hu,af qC hu,af Jp hu,af Jq hu⟩
   clear o9 qC Jp Jq hst aT Bg EO;simp only at ax;generalize Th:l.length=nl at *;have tJ:=hid Th;clear Th;have UU:=fun n=>ag wr n
   have UX:w3.heap.size<=wr.heap.size:=aW.size;obtain⟨rk,ra,rm,ro⟩:=r;obtain⟨xk,xa,xm,xo⟩:=x;simp only at *;generalize hro:ro.length=Yx at *;generalize hxo:xo.length=MX at *;have Md:=hid hro;have Ti:=hid hxo;clear hro hxo;have Me:=hid ax.out;have cA:=hid aW;clear ax;rcases hcs with ⟨rfl,hk,hS⟩ | ⟨rfl,hk,hS⟩ | ⟨rfl,hk,hS⟩ | ⟨rfl,hk,hS⟩ | ⟨rfl,hk,hS⟩
   ·have hk2:=hk.symm
    clear hk;subst hk2;have SE:=hid (rO.out.trans hS);clear hS rO;go_wp2;go_quiet (fail)
    go_wp2;go_quiet (fail)
    go_wp2;go_roundw
    case rel=>exact ⟨j+1,by omega,by go_num,by rw[SE.out],by rw[SE.out];exact hid (Me.out.on (ag _ _)),cA.out.trans ((ag _ _).mono cA.out.size)⟩
    case measure=>simp [intOf];omega
   ·have SE:=hid (rO.out.trans hS)
    clear hS rO;go_wp2;go_quiet (fail)
    go_wp2;go_quiet (fail)
    go_wp2_with (at_builtin;refine j6 rfl (.tmp 41) (.tmp 47) rfl W w3 wr (.slice pv nl cv) rfl l nl tJ.out Me.out cA.out (ag wr _) wr.heap.size ⟨xk,xa,xm,xo⟩ px MX cx Ti.out rfl (heap_alloc_new _ _) VO.out (by omega) ?_;intro p4 c4 w4 R4 B4;clear a0 a1 b0 b1 b2 b3 x0 x1 x2 x3;obtain⟨a0,a1,-⟩:=dY (t:=⟨start,rows⟩) ((B4.block _ (ae K0.out)).trans K0.out);obtain⟨b0,b1,b2,b3,-⟩:=aV ((B4.block _ (ae K1.out)).trans K1.out);obtain⟨x0,x1,x2,x3⟩:=Qa.out _ (cH.out.trans (B4.mono cH.out.size)))
    go_roundw
    case rel=>exact ⟨j+1,by omega,by go_num,by rw[SE.out],by rw[SE.out];exact R4,B4⟩
    case measure=>simp [intOf];omega
   ·have SE:=hid (rO.out.trans hS)
    clear hS rO;go_wp2;go_quiet (fail)
    go_wp2;go_quiet (fail)
    go_wp2_with (at_builtin;refine j6 rfl (.tmp 41) (.tmp 47) rfl W w3 wr (.slice pv nl cv) rfl l nl tJ.out Me.out cA.out (ag wr _) wr.heap.size ⟨xk,xa,xm,xo⟩ px MX cx Ti.out rfl (heap_alloc_new _ _) VO.out (by omega) ?_;intro p4 c4 w4 R4 B4;clear a0 a1 b0 b1 b2 b3 x0 x1 x2 x3;obtain⟨a0,a1,-⟩:=dY (t:=⟨start,rows⟩) ((B4.block _ (ae K0.out)).trans K0.out);obtain⟨b0,b1,b2,b3,-⟩:=aV ((B4.block _ (ae K1.out)).trans K1.out);obtain⟨x0,x1,x2,x3⟩:=Qa.out _ (cH.out.trans (B4.mono cH.out.size)))
    go_roundw
    case rel=>exact ⟨j+1,by omega,by go_num,by rw[SE.out],by rw[SE.out];exact R4,B4⟩
    case measure=>simp [intOf];omega
   ·have hk2:=hk.symm
    clear hk;subst hk2;have SE:=hid (rO.out.trans hS);clear hS rO;go_wp2;go_quiet (fail)
    go_wp2_with (at_builtin;refine j6 rfl (.tmp 28) (.tmp 30) rfl W w3 wr (.slice pv nl cv) rfl l nl tJ.out Me.out cA.out (ag wr _) wr.heap.size ⟨rk,ra,rm,ro⟩ pr Yx cr Md.out rfl (heap_alloc_new _ _) RM.out (by omega) ?_;intro p4 c4 w4 R4 B4;clear a0 a1 b0 b1 b2 b3 x0 x1 x2 x3;obtain⟨a0,a1,-⟩:=dY (t:=⟨start,rows⟩) ((B4.block _ (ae K0.out)).trans K0.out);obtain⟨b0,b1,b2,b3,-⟩:=aV ((B4.block _ (ae K1.out)).trans K1.out);obtain⟨x0,x1,x2,x3⟩:=Qa.out _ (cH.out.trans (B4.mono cH.out.size)))
    go_quiet (fail)
    go_wp2;go_roundw
    case rel=>exact ⟨j+1,by omega,by go_num,by rw[SE.out],by rw[SE.out];exact hid (R4.out.on (ag _ _)),B4.trans ((ag _ _).mono B4.size)⟩
    case measure=>simp [intOf];omega
   ·have SE:=hid (rO.out.trans hS)
    clear hS rO;go_wp2;go_quiet (fail)
    go_wp2_with (at_builtin;refine j6 rfl (.tmp 28) (.tmp 30) rfl W w3 wr (.slice pv nl cv) rfl l nl tJ.out Me.out cA.out (ag wr _) wr.heap.size ⟨rk,ra,rm,ro⟩ pr Yx cr Md.out rfl (heap_alloc_new _ _) RM.out (by omega) ?_;intro p4 c4 w4 R4 B4;clear a0 a1 b0 b1 b2 b3 x0 x1 x2 x3;obtain⟨a0,a1,-⟩:=dY (t:=⟨start,rows⟩) ((B4.block _ (ae K0.out)).trans K0.out);obtain⟨b0,b1,b2,b3,-⟩:=aV ((B4.block _ (ae K1.out)).trans K1.out);obtain⟨x0,x1,x2,x3⟩:=Qa.out _ (cH.out.trans (B4.mono cH.out.size)))
    go_quiet (fail)
    go_wp2_with (at_builtin;refine j6 rfl (.tmp 41) (.tmp 47) rfl W w3 w4 (.slice p4 (nl+1) c4) rfl (l++[⟨rk,ra,rm,ro⟩]) (nl+1) (by rw[List.length_append,tJ.out];rfl) R4.out B4 (ag w4 _) w4.heap.size ⟨xk,xa,xm,xo⟩ px MX cx Ti.out rfl (heap_alloc_new _ _) VO.out (by omega) ?_;intro p5 c5 w5 R5 B5;clear a0 a1 b0 b1 b2 b3 x0 x1 x2 x3;obtain⟨a0,a1,-⟩:=dY (t:=⟨start,rows⟩) ((B5.block _ (ae K0.out)).trans K0.out);obtain⟨b0,b1,b2,b3,-⟩:=aV ((B5.block _ (ae K1.out)).trans K1.out);obtain⟨x0,x1,x2,x3⟩:=Qa.out _ (cH.out.trans (B5.mono cH.out.size)))
    go_roundw
    case rel=>exact ⟨j+1,by omega,by go_num,by rw[SE.out],by rw[SE.out];exact R5,B5⟩
    case measure=>simp [intOf];omega
  ·obtain rfl:j=rows.length:=by omega
   rw[List.take_length] at ax ⊢;have aT:=rR r rows;have EO:=HW.out.trans ((HB.out.trans (aW.mono HB.out.size)).mono HW.out.size);generalize gj r rows=S at *;obtain⟨l,D⟩:=S;simp only at ax aT Yw;obtain⟨pv,cv,rfl⟩:=ax.out.jx;have hsz:=HZ.out;have hWw:=HW.out.size;have END:Hid (∀(u:World) (pu:Option Addr) (cu:Nat) (l2:List Rw),Below w3.heap.size w3 u->jY W w3.heap.size u (.slice pu l2.length cu) l2->SR=l2 ->
    ew w T id (.returned (.agg #[.int .i64 start,.slice pu l2.length cu])) (((u.setCell ⟨w.heap.size,1,none⟩ (.slice pu l2.length cu)).setCell ⟨w.heap.size+1+1,0,none⟩ (.int .i64 start)).setCell ⟨w.heap.size+1+1,1,none⟩ (.slice pu l2.length cu))):=by
    intro u pu cu l2 hb ho Yy;have hWu:=HW.out.trans ((HB.out.trans (hb.mono HB.out.size)).mono HW.out.size);have hwu:=HB.out.trans (hb.mono HB.out.size);have aaF:=((hWu.setCell (p:=⟨w.heap.size,1,none⟩) (by simp;omega) (.slice pu l2.length cu)).setCell (p:=⟨w.heap.size+1+1,0,none⟩) (by simp;omega) (.int .i64 start)).setCell (p:=⟨w.heap.size+1+1,1,none⟩) (by simp;omega) (.slice pu l2.length cu)
    have Qf:=((hwu.setCell (p:=⟨w.heap.size,1,none⟩) (by simp) (.slice pu l2.length cu)).setCell (p:=⟨w.heap.size+1+1,0,none⟩) (by simp;omega) (.int .i64 start)).setCell (p:=⟨w.heap.size+1+1,1,none⟩) (by simp;omega) (.slice pu l2.length cu)
    have ko:=((ho.set (b:=w.heap.size) (o:=1) (u:=.slice pu l2.length cu) (by omega)).set (b:=w.heap.size+1+1) (o:=0) (u:=.int .i64 start) (by omega)).set (b:=w.heap.size+1+1) (o:=1) (u:=.slice pu l2.length cu) (by omega)
    obtain⟨p',c',hv,tK⟩:=ko.rows aaF;simp only[Value.slice.injEq,true_and] at hv;obtain⟨rfl,rfl⟩:=hv;rw[HS.out,Yy];exact⟨pu,c',rfl,tK,Qf⟩
   have fa:=(dY (t:=⟨start,rows⟩) ((aW.block _ (ae K0.out)).trans K0.out)).2.2 1;obtain⟨e0,e1,e2⟩:=dY (t:=⟨0,[]⟩) (p:=none) (c:=0) ((aW.block _ (ae K2.out)).trans K2.out);have f0:=e2 0;have f1:=e2 1;have Me:=hid ax.out;have cA:=hid aW;clear ax e2 hsz hWw;cases D with
   | true =>
     have EE:=hid (END.out wr pv cv l aW Me.out (by rw[Yw.out];rfl))
     clear END;generalize l.length=nl at *;go_wp2;refine bodyPost_ret (v:=.agg #[.int .i64 start,.slice pv nl cv]) (by simp[results,results121,go_sem,e0,e1]) rfl EE.out
   | false =>
     have Yy:SR=l++[r]:=by rw[Yw.out];rfl
     have hlr:(l++[r]).length=l.length+1:=by simp
     have EE:Hid (∀(u:World) (pu:Option Addr) (cu:Nat),Below w3.heap.size w3 u->jY W w3.heap.size u (.slice pu (l.length+1) cu) (l++[r]) ->
      ew w T id (.returned (.agg #[.int .i64 start,.slice pu (l.length+1) cu])) (((u.setCell ⟨w.heap.size,1,none⟩ (.slice pu (l.length+1) cu)).setCell ⟨w.heap.size+1+1,0,none⟩ (.int .i64 start)).setCell ⟨w.heap.size+1+1,1,none⟩ (.slice pu (l.length+1) cu))):=fun u pu cu h1 h2=>by
      have:=END.out u pu cu (l++[r]) h1 (by rw[hlr];exact h2) Yy
      rw[hlr] at this;exact this
     have hl2:l.length<=100000:=by
      simp only[rest] at aT;omega
     clear END Yy hlr aT;generalize Th:l.length=nl at *;have tJ:=hid Th;clear Th;obtain⟨rk,ra,rm,ro⟩:=r;simp only at *;generalize hro:ro.length=Yx at *;have Md:=hid hro;clear hro;go_wp2_with (at_builtin;refine j6 rfl (.tmp 51) (.tmp 53) rfl W w3 wr (.slice pv nl cv) rfl l nl tJ.out Me.out cA.out (Below.refl _ _) wr.heap.size ⟨rk,ra,rm,ro⟩ pr Yx cr Md.out rfl (heap_alloc_new _ _) RM.out hl2 ?_;intro p4 c4 w4 R4 B4;clear a0 a1 b0 b1 b2 b3 e0 e1 f0 f1 fa;obtain⟨a0,a1,ff⟩:=dY (t:=⟨start,rows⟩) ((B4.block _ (ae K0.out)).trans K0.out);obtain⟨e0,e1,ee⟩:=dY (t:=⟨0,[]⟩) (p:=none) (c:=0) ((B4.block _ (ae K2.out)).trans K2.out);have fa:=ff 1;have f0:=ee 0;have f1:=ee 1;have E4:=hid (EE.out _ _ _ B4 R4.out);clear ff ee EE)
     refine bodyPost_ret (v:=.agg #[.int .i64 start,.slice p4 (nl+1) c4]) (by simp[results,results121,go_sem,e0,e1]) rfl E4.out
end Zv
namespace Zx
open Go.RowKit Zq
def pK (t:Tk):Bool:=decide (t.stamps.length<=100/\t.table.rows.length<=100)&&dC (fun i=>decide ((t.table.rows.getD i aq).out.length<=100)) t.table.rows.length
theorem EP (t:Tk)(ps p:Option Addr)(cs c:Nat)(w:World)(hn:(t.stamps.length:Int)<=9223372036854775807)(hm:(t.table.rows.length:Int)<=9223372036854775807)(hl:ar w p t.table.rows) :
 Calls prog 29 #[.agg #[.int .i64 t.gen,.int .i64 t.bP,.slice ps t.stamps.length cs,.int .i64 t.table.start,.slice p t.table.rows.length c]] w (cG w (pK t)):=by
 obtain⟨gen,bP,st,start,rows⟩:=t;simp only at hn hm hl ⊢;unfold pK;simp only;by_cases h1:st.length<=100
 ·by_cases h2:rows.length<=100
  ·rw [decide_eq_true (And.intro h1 h2),Bool.true_and]
   generalize hB:dC (fun i=>decide ((rows.getD i aq).out.length<=100)) rows.length=R
   have HB:=hid hB;have HL:=hid hl;clear hB hl;have VP:(st.length:Int)<=100:=by omega
   have h2':(rows.length:Int)<=100:=by omega
   clear h1 h2;go_enter func29,ntmps29
   go_wp2;generalize hw0:w.alloc (.cells #[.int .i64 gen,.int .i64 bP,.slice ps st.length cs,.int .i64 start,.slice p rows.length c] 30)=w0;have b0:Below w.heap.size w w0:=by rw[<-hw0];exact(Below.refl _ _).alloc (Nat.le_refl _) _
   have k4:w0.cell? ⟨w.heap.size,4,none⟩=some (.slice p rows.length c):=by
    rw[<-hw0,cell_of_row _ _ 4 _ _ (0,0) (heap_alloc_new w _)];rfl
   clear hw0;go_loop [3] (fun i=>∃j:Nat,j<=rows.length/\i=.int .i64 (j:Int)/\Hid (∀q,q<j->decide ((rows.getD q aq).out.length<=100)=true)) (fun i=>rows.length-(intOf i).toNat)
   case atStart=>exact ⟨0,by omega,rfl,(by intro q hq;omega)⟩
   case round =>
    obtain⟨j,hj,rfl,o7⟩:=hrel;by_cases aC:j<rows.length
    ·obtain ⟨g,o,rfl,hc⟩:∃g o,p=some ⟨g,o,none⟩/\∀j,j<rows.length->dK w0 g (o+j*4) (rows.getD j aq):=by
      rcases HL.out.below b0 with h | h
      ·rw [h] at aC;simp at aC
      ·exact h
     obtain⟨-,-,-,p3,c3,d3,-⟩:=hc j aC;have HJ:=hid (show((rows.getD j aq).out.length<=100->∀q,q<j+1->decide ((rows.getD q aq).out.length<=100)=true)/\(100<(rows.getD j aq).out.length->R=false) from
      ⟨fun h q hq=>by
       rcases Nat.lt_succ_iff_lt_or_eq.1 hq with h1 | h1
       ·exact o7.out q h1
       ·rw [h1];exact decide_eq_true h,fun h=>by rw[<-HB.out];exact cU aC (decide_eq_false (by omega))⟩)
     generalize(rows.getD j aq).out.length=n at d3 HJ;clear hc;have bE:(j:Int)<(rows.length:Int):=by omega
     by_cases hz:n<=100
     ·have HK:=hid (HJ.out.1 hz)
      have hz':(n:Int)<=100:=by omega
      clear HJ hz;go_wp2;go_round
      case rel=>exact ⟨j+1,by omega,by go_num,HK⟩
      case measure=>simp [intOf];omega
     ·obtain rfl:=HJ.out.2 (by omega)
      have hz':100<(n:Int):=by omega
      clear HJ hz;go_wp2;go_ret;exact⟨rfl,b0⟩
    ·obtain rfl:j=rows.length:=by omega
     obtain rfl:R=true:=by rw[<-HB.out];exact dO o7.out
     go_wp2;go_ret;exact⟨rfl,b0⟩
  ·rw [decide_eq_false (fun h=>h2 h.2),Bool.false_and]
   have VP:(st.length:Int)<=100:=by omega
   have h2':100<(rows.length:Int):=by omega
   clear h1 h2 hl;go_enter func29,ntmps29
   go_wp2;go_ret;exact⟨rfl,(Below.refl _ _).alloc (Nat.le_refl _) _⟩
 ·rw [decide_eq_false (fun h=>h1 h.1),Bool.false_and]
  have VP:100<(st.length:Int):=by omega
  clear h1 hl;go_enter func29,ntmps29
  go_wp2;go_ret;exact⟨rfl,(Below.refl _ _).alloc (Nat.le_refl _) _⟩
end Zx
namespace Zw
open Zq (ae aj ai aI)
structure fN (w w':World):Prop where
 size:w.heap.size<=w'.heap.size
 block:∀(g:Nat) (cs:Array Value) (t:TypeId) (z:Nat×Nat),w.heap[g]? =some (Obj.cells cs t z)->t∈[92,131]->w'.heap[g]? =some (Obj.cells cs t z)
abbrev Pw:=Nat->World->Nat->List Lz->Prop
structure eA (PW:Pw)(B:Nat)(w:World)(q:Nat)(l:List Lz)(w':World):Prop where
 pw:PW B w' q l
 off:fN w w'
 below:Below B w w'
def x1:Lz:=⟨3,7,5,0,20⟩
def x2:Lz:=⟨3,7,5,4,20⟩
end Zw
end Go.Proofs.YtbgdlokegibkmaaGreat
