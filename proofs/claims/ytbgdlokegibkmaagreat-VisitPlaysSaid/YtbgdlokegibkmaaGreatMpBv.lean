/-
  A part of the proof of VisitPlays.
-/
import Derived.Test.YtbgdlokegibkmaaGreatMpBa
import Derived.Test.YtbgdlokegibkmaaGreatMpBs
import Derived.Test.YtbgdlokegibkmaaGreatMpBu
set_option maxRecDepth 100000
set_option maxHeartbeats 8000000
namespace Go.Proofs.YtbgdlokegibkmaaGreat
open Go.RowKit
open Tryz
open Lib (hid)
namespace Zy
open Zq (ae aj ai)
open Zp (iE aL At bS eu fN af aD aA ag dQ bQ bX)
open Zw (Lz bC bH)
open Zu (It take)
open Zz (Nt)
def am (c:Cf)(e:Eg)(k:Int):Int:=Zz.aF (Zz.of e.D k) (Zu.sum e.Q k) (rb c k)
section
variable {R:Nat->Prop}{B q qw qq qd:Nat}{w w' u u':World}{y:Value}{c:Cf}{e e' e2:Eg}
theorem Hf (h:In R B w q y qw qq qd c e)(hg:bu c e)(hf:iL e){key:Int}(hk:bC key) :
 Calls prog 161 #[.pointer (some ⟨q,0,none⟩),.int .i64 key] w fun x w'=>x=.returned (.int .i64 (am c e key))/\Below w.heap.size w w':=by
 obtain⟨p,k,rfl,hl⟩:=h.aH;have HK:=hid (fun u (hu:Below w.heap.size w u)=>lJ k (hl.below hu) key)
 have HS:=hid (fun u (hu:Below w.heap.size w u)=>Zu.zB.sum (h.below hu).qu hg.q hf.2.1 key hk)
 have HW:=hid (fun u (qs b:Int) (hu:Below w.heap.size w u)=>Zz.KP (h.below hu).dm hk qs b)
 have HX:=hid (fun u (hu:Below w.heap.size w u)=>(h.below hu).jh)
 obtain⟨k0,k1,k2,k3,k4,k5,k6,k7,k8,k9,uj,Sq⟩:=h.jh;rw[show am c e key=Zz.aF (Zz.of e.D key) (Zu.sum e.Q key) (rb c key) from rfl]
 generalize ra c key=Vt at *;generalize rb c key=Q8 at *;generalize c.fT key=kk at *;generalize Zu.sum e.Q key=qs at *;simp only[Cf.val] at *;clear h hl hg hf k0 uj Sq;go_enter func161,ntmps161
 go_wp2_with (first
  |(go_at_call 83;(with_reducible refine(HK.out _ (Below.refl _ _)).mono ?_);rintro e1 w1 ⟨rfl,hb⟩;have aO:=hid hb;clear hb HK))
 have gH:=aO.out.trans ((cQ w1 (.cells #[.int .i64 Vt,.int .i64 Q8] 77)).mono aO.out.size);have bJ:=hid gH;have XO:=heap_alloc_new w1 (.cells #[.int .i64 Vt,.int .i64 Q8] 77);have hb1:(w1.alloc (.cells #[.int .i64 Vt,.int .i64 Q8] 77)).cell? ⟨w1.heap.size,1,none⟩=some (.int .i64 Q8):=by rw[cell_of_row _ _ 1 _ _ (0,0) XO];rfl
 clear gH XO aO k1 k2 k3 k4 k5 k6 k7 k8 k9;generalize w1.heap.size=g at *;generalize w1.alloc (.cells #[.int .i64 Vt,.int .i64 Q8] 77)=w2 at *;have HY:=hid (fun u (hu:Below w2.heap.size w2 u)=>show Below w2.heap.size w2 u/\u.cell? ⟨q,10,none⟩=some (.pointer (some ⟨qq,0,none⟩))/\u.cell? ⟨q,11,none⟩=some (.pointer (some ⟨qd,0,none⟩))/\u.cell? ⟨g,1,none⟩=some (.int .i64 Q8) from
  ⟨hu,(HX.out u (bJ.out.trans (hu.mono bJ.out.size))).uj,(HX.out u (bJ.out.trans (hu.mono bJ.out.size))).Sq,af hb1 hu⟩)
 have y0:=HY.out _ (Below.refl w2.heap.size w2).drew;clear hb1;go_region_held3 (fun u=>Below w2.heap.size w2 u/\u.cell? ⟨q,10,none⟩=some (.pointer (some ⟨qq,0,none⟩))/\u.cell? ⟨q,11,none⟩=some (.pointer (some ⟨qd,0,none⟩))/\u.cell? ⟨g,1,none⟩=some (.int .i64 Q8)) (first | with_reducible assumption) (first
  |(go_at_call 200;(with_reducible refine(HS.out _ (IM (by with_reducible assumption) bJ.out)).mono ?_);rintro e1 w3 ⟨rfl,hb⟩;have y3:=HY.out _ (qg (by with_reducible assumption) hb))
  |(go_at_call 199;(with_reducible refine(HW.out _ _ _ (IM (by with_reducible assumption) bJ.out)).mono ?_);rintro e1 w4 ⟨rfl,hb⟩;have y4:=HY.out _ (qg (by with_reducible assumption) hb)))
 go_wp2;go_ret;exact⟨rfl,bJ.out.trans (y4.1.mono bJ.out.size)⟩
theorem LW (c:Cf)(e:Eg)(k:Int):(0<am c e k↔0<aK c e k)/\(0<am c e k->am c e k=aK c e k):=by
 unfold am aK rb;by_cases h:0<=c.fT k
 ·rw [if_pos h,if_pos h]
  exact⟨Iff.rfl,fun _=>rfl⟩
 ·rw [if_neg h,if_neg h]
  have:Zz.aF (Zz.of e.D k) (Zu.sum e.Q k) 0<=0:=by
   unfold Zz.aF;have:Zr.dh 0=0:=by decide
   rw[this];omega
  exact⟨⟨fun h=>by omega,fun h=>by omega⟩,fun h=>by omega⟩
end
theorem gY (x:Int):∀(a b:List Int),x∈merge a b↔x∈a∨x∈b
 | [],b=>by simp[merge]
 | a :: l,[]=>by simp[merge]
 | a :: l,b :: m=>by
   have h1:=gY x l (b :: m);have h2:=gY x l m;have h3:=gY x (a :: l) m;rw[merge];split
   ·rw [List.mem_cons,h1]
    simp only[List.mem_cons,or_assoc]
   ·split
    ·rename_i e
     subst e;rw[List.mem_cons,h2];simp only[List.mem_cons]
     constructor
     ·rintro (h | h | h) <;>simp [h]
     ·rintro ((h | h) | h | h) <;>simp [h]
    ·rw [List.mem_cons,h3]
     simp only[List.mem_cons]
     constructor
     ·rintro (h | (h | h) | h) <;>simp [h]
     ·rintro ((h | h) | h | h) <;>simp [h]
theorem mE:∀(a b:List Int),a.Pairwise (·<·)->b.Pairwise (·<·)->(merge a b).Pairwise (·<·)
 | [],b,_,h=>by simpa[merge] using h
 | a :: l,[],h,_=>by simpa[merge] using h
 | a :: l,b :: m,ha,hb=>by
   obtain⟨a1,a2⟩:=List.pairwise_cons.1 ha;obtain⟨b1,b2⟩:=List.pairwise_cons.1 hb;have h1:=mE l (b :: m) a2 hb;have h2:=mE l m a2 b2;have h3:=mE (a :: l) m ha b2;rw[merge];split
   ·rename_i h
    refine List.pairwise_cons.2 ⟨fun x hx=> ?_,h1⟩
    rcases(gY x _ _).1 hx with hx | hx
    ·exact a1 x hx
    ·rcases List.mem_cons.1 hx with rfl | hx
     ·exact h
     ·have:=b1 x hx;omega
   ·split
    ·rename_i e
     refine List.pairwise_cons.2 ⟨fun x hx=> ?_,h2⟩
     rcases(gY x _ _).1 hx with hx | hx
     ·have:=a1 x hx;omega
     ·exact b1 x hx
    ·refine List.pairwise_cons.2 ⟨fun x hx=> ?_,h3⟩
     rcases(gY x _ _).1 hx with hx | hx
     ·rcases List.mem_cons.1 hx with rfl | hx
      ·omega
      ·have:=a1 x hx;omega
     ·exact b1 x hx
theorem Pd (e:Eg):Lib.compact ((Zu.aR e.Q++Zz.aR e.D).mergeSort fun x y=>decide (x<=y))=aR e:=by
 have hp:=List.mergeSort_perm (Zu.aR e.Q++Zz.aR e.D) (fun x y=>decide (x<=y))
 have hs:((Zu.aR e.Q++Zz.aR e.D).mergeSort fun x y=>decide (x<=y)).Pairwise (·<=·):=by
  have:=List.pairwise_mergeSort (le:=fun x y:Int=>decide (x<=y)) (fun a b c h1 h2=>by simp at *;omega) (fun a b=>by simp;omega) (Zu.aR e.Q++Zz.aR e.D)
  exact this.imp fun h=>by simpa using h
 generalize((Zu.aR e.Q++Zz.aR e.D).mergeSort fun x y=>decide (x<=y))=zs at *
 obtain⟨c1,c2⟩:=Zu.mD hs zs.length (Nat.le_refl _);refine Zu.lW c1 (mE _ _ (Zu.oU _ e.Q rfl).1 (Zz.eX e.D)) fun x=> ?_
 have:=c2 x;rw[List.take_length,hp.mem_iff,List.mem_append] at this;exact this.trans (gY x _ _).symm
theorem Pg {c:Cf}{e:Eg}(hg:bu c e)(hn:∀x∈e.D,bC x.key)(x:Int)(hx:x∈aR e):bC x:=by
 rcases(gY x _ _).1 hx with h | h
 ·have h2:=(Zu.oU _ e.Q rfl).2 x |>.1 h
  obtain⟨i,hi,rfl⟩:=List.mem_map.1 h2;exact(hg.q.mO i hi).2.2.1
 ·obtain ⟨-,z,hz,rfl⟩:=((Zz.rY e.D e.D).2 x).1 h
  exact hn z hz
section
variable {R:Nat->Prop}{B q qw qq qd:Nat}{w w' u u':World}{y:Value}{c:Cf}{e e' e2:Eg}
theorem X3:eu prog ib 174 171:=⟨underlying171,.agg #[.int .i64 0,.int .i64 0],16,by kernel_rfl,rfl,by decide⟩
theorem Hg {w2:World}{la lb:List Int}{pa pb:Option Addr}{ca cb:Nat}{T:TypeId}(ha:aL bX w2 pa la)(hb:aL bX w2 pb lb)(na:pa=none->ca=0)(nb:pb=none->cb=0)(la':la.length<=300)(lb':lb.length<=700) :
 Calls prog 158 #[.slice (some ⟨w2.heap.size,0,none⟩) 2 2] (w2.alloc (.cells #[.slice pa la.length ca,.slice pb lb.length cb] T)) fun e w'=>∃v,e=.returned v/\Zp.Own bX 3 w2.heap.size w' v (la++lb)/\Below w2.heap.size w2 w':=by
 have gH:=cQ w2 (.cells #[.slice pa la.length ca,.slice pb lb.length cb] T);have k:=heap_alloc_new w2 (.cells #[.slice pa la.length ca,.slice pb lb.length cb] T);refine(E0 (g:=w2.heap.size) (ca:=ca) (cb:=cb) (by rw[cell_of_row _ _ 0 _ _ (0,0) k];rfl) (by rw[cell_of_row _ _ 1 _ _ (0,0) k];rfl) (ha.below gH) (hb.below gH) na nb la' lb').mono ?_
 rintro e w' ⟨v,he,ho,hb2⟩;exact⟨v,he,Zp.Own.lower ho gH.size,gH.trans (hb2.mono gH.size)⟩
theorem Hh (h:In R B w q y qw qq qd c e)(hg:bu c e)(hf:iL e)(hn:∀x∈e.D,bC x.key) :
 Calls prog 107 #[.pointer (some ⟨q,0,none⟩)] w fun x w'=>∃p k,x=.returned (.slice p (dL c e).length k)/\aL ib w' p (dL c e)/\eW w' p 174/\Below w.heap.size w w':=by
 have HX:=hid (fun u (hu:Below w.heap.size w u)=>(h.below hu).jh)
 have HQ:=hid (fun u (hu:Below w.heap.size w u)=>Zu.oW (h.below hu).qu hf.2.1)
 have HD:=hid (fun u (hu:Below w.heap.size w u)=>Zz.oW (h.below hu).dm (by have:=hf.2.2;omega))
 have HWD:=hid (fun u key (hu:Below w.heap.size w u) (hk:bC key)=>Hf (h.below hu) hg hf hk)
 have iG:=Zu.fB e.Q;have hl2:=Zz.fB e.D;have HCC:=hid (fun(u:World) (pa pb:Option Addr) (ca cb:Nat) (T:TypeId) (ha:aL bX u pa (Zu.aR e.Q)) (hb:aL bX u pb (Zz.aR e.D)) (na:pa=none->ca=0) (nb:pb=none->cb=0)=>Hg (ca:=ca) (cb:=cb) (T:=T) ha hb na nb (by have:=hf.2.1;omega) (by have:=hf.2.2;omega))
 have Tp:(Zu.aR e.Q++Zz.aR e.D).length<=800:=by rw[List.length_append];have:=hf.2.1;have:=hf.2.2;omega
 have uR:=hid (fun(B':Nat) (u:World) (v:Value) (ho:Zp.Own bX 3 B' u v (Zu.aR e.Q++Zz.aR e.D)) (hu:B'<=u.heap.size)=>Zu.oV ho hu (by omega))
 have UM:=hid (fun(B':Nat) (u:World) (v:Value) (ho:Zp.Own bX 3 B' u v ((Zu.aR e.Q++Zz.aR e.D).mergeSort fun x y=>decide (x<=y))) (hu:B'<=u.heap.size)=>Zu.rK ho hu (by rw[List.length_mergeSort];omega))
 rw[Pd e] at UM;have HW:=hid (show dL c e=dB c e ((aR e).take (aR e).length) by rw[List.take_length];rfl)
 have V5:=hid (fun x (hx:x∈aR e)=>Pg hg hn x hx)
 have Pz:(aR e).length<=1000:=Nat.le_trans (jL _ _) (by have:=hf.2.1;have:=hf.2.2;omega)
 generalize((Zu.aR e.Q++Zz.aR e.D).mergeSort fun x y=>decide (x<=y))=zs at *
 generalize Zu.aR e.Q++Zz.aR e.D=ls at *;generalize Zu.aR e.Q=la at *;generalize Zz.aR e.D=lb at *;generalize dL c e=WW at *;generalize aR e=l at *;have WS:=hid (fun(j:Nat) (hj:j<l.length)=>Co (c:=c) (e:=e) hj)
 have WL:=hid (fun j=>sG c e (l.take j))
 have W0:=hid (show dB c e (l.take 0)=[] from rfl)
 have HY:=hid (fun u (hu:Below w.heap.size w u)=>show Below w.heap.size w u/\u.cell? ⟨q,10,none⟩=some (.pointer (some ⟨qq,0,none⟩))/\u.cell? ⟨q,11,none⟩=some (.pointer (some ⟨qd,0,none⟩)) from⟨hu,(HX.out u hu).uj,(HX.out u hu).Sq⟩)
 have y0:=HY.out _ (Below.refl w.heap.size w).drew;clear h hg hf hn iG hl2 HX;go_enter func107,ntmps107
 go_wp2_with fail
 go_region_held3 (fun u=>Below w.heap.size w u/\u.cell? ⟨q,10,none⟩=some (.pointer (some ⟨qq,0,none⟩))/\u.cell? ⟨q,11,none⟩=some (.pointer (some ⟨qd,0,none⟩))) (first | with_reducible assumption | exact HY.out _ (ry (by with_reducible assumption) _)) (first
  |(go_at_call 159;(with_reducible refine(HQ.out _ (And.left (by with_reducible assumption))).mono ?_);rintro e1 w1 ⟨p1,d1,rfl,ack,hb⟩;have HLA:=hid ack;have y1:=HY.out _ (qg (by with_reducible assumption) hb))
  |(go_at_call 160;(with_reducible refine(HD.out _ (And.left (by with_reducible assumption))).mono ?_);rintro e1 w2 ⟨p2,d2,rfl,acn,hb⟩;have HLB:=hid acn;have X6:=hid (HLA.out.1.below hb);have y2:=HY.out _ (qg (by with_reducible assumption) hb))
  |(go_at_call 158;(refine(HCC.out w2 _ _ _ _ _ X6.out HLB.out.1 HLA.out.2 HLB.out.2).mono ?_);rintro e1 w3 ⟨v3,rfl,ho,hb⟩;have jK:=hid ho;have cH:=hid hb;have y3:=HY.out _ (qg (by with_reducible assumption) hb)))
 have Ha:=hid y2.1;clear y0 y1 y2 y3 HQ HD HCC HLA HLB X6 HY;go_wp2_with (first
  |(go_at_call 148;(with_reducible refine(uR.out _ _ _ jK.out cH.out.size).mono ?_);rintro e1 w4 ⟨rfl,ho,hb⟩;have xl:=hid ho;have fp:=hid (cH.out.trans hb);clear ho hb uR)
  |(go_at_call 149;(with_reducible refine(UM.out _ _ _ xl.out fp.out.size).mono ?_);rintro e1 w5 ⟨p5,d5,rfl,⟨Nb,-⟩,hb⟩;have Si:=hid Nb;have jy:=hid (fp.out.trans hb);clear Nb hb UM))
 have xF:=hid (Ha.out.trans (jy.out.mono Ha.out.size));clear jK xl cH fp jy Ha;go_loopw [4,27] (fun o i wr=>∃(j:Nat) (pq:Option Addr) (d n:Nat),j<=l.length/\i=.int .i64 (j:Int)/\o=.slice pq n d/\Hid (Zp.Own ib 174 w5.heap.size wr o (dB c e (l.take j)))/\Hid ((dB c e (l.take j)).length=n)/\Hid (Below w5.heap.size w5 wr)) (fun _ i _=>l.length-(intOf i).toNat)
 case atStart=>exact ⟨0,none,0,0,by omega,rfl,rfl,by rw[W0.out];exact hid (Zp.Own.none _ _ _ _),by rw[W0.out];exact hid rfl,hid (Below.refl _ _)⟩
 case round =>
  obtain⟨j,pq,d,n,hj,rfl,rfl,ax,hn,aW⟩:=hrel;by_cases aC:j<l.length
  ·have bE:(j:Int)<(l.length:Int):=by omega
   obtain⟨b,o,rfl,Ql⟩:=oD (Si.out.below aW.out) aC;have Yp:n<=1000:=by rw[<-hn.out];exact Nat.le_trans (WL.out j) (by simp;omega)
   have NK:=hid (WS.out j aC);have HKJ:=hid (V5.out _ (List.getElem_mem aC));have JO:l[j]=l.getD j 0:=by simp[List.getD,aC]
   rw[JO] at HKJ;have c6:=HWD.out wr _ (xF.out.trans (aW.out.mono xF.out.size)) HKJ.out;have hAM:=LW c e (l.getD j 0);clear JO V5 WS WL W0 HW HWD;generalize dB c e (l.take j)=WJ at *;generalize l.getD j 0=key at *;generalize am c e key=a1 at *;generalize aK c e key=a2 at *;by_cases PD:0<a1
   ·obtain rfl:=hAM.2 PD
    have HE:=hid (show dB c e (l.take (j+1))=WJ++[(key,a1)] by rw[NK.out,if_pos PD])
    clear NK hAM;go_wp2_with (first
     |(go_at_call 161;(with_reducible refine c6.mono ?_);rintro e1 w6 ⟨rfl,hb⟩;have Ck:=hid (aW.out.trans (hb.mono aW.out.size));have HO6:=hid (ax.out.on hb);clear hb c6)
     |(at_builtin;refine Zp.push X3 rfl _ _ rfl w5 w6 (.slice pq n d) rfl WJ n hn.out HO6.out Ck.out (cQ _ _) w6.heap.size (key,a1) rfl (heap_alloc_new _ _) (by omega) ?_;intro p7 c7 w7 R7 B7))
    go_roundw
    case rel=>exact ⟨j+1,p7,c7,n+1,by omega,by go_num,rfl,by rw[HE.out];exact R7,by rw[HE.out];exact hid (by rw[List.length_append,hn.out];rfl),hid B7⟩
    case measure=>simp only[intOf];omega
   ·have X7:¬0<a2:=fun h=>PD (hAM.1.2 h)
    have HE:=hid (show dB c e (l.take (j+1))=WJ by rw[NK.out,if_neg X7])
    clear NK hAM X7;go_wp2_with (go_at_call 161;(with_reducible refine c6.mono ?_);rintro e1 w6 ⟨rfl,hb⟩;have Ck:=hid (aW.out.trans (hb.mono aW.out.size));have HO6:=hid (ax.out.on hb);clear hb c6)
    go_roundw
    case rel=>exact ⟨j+1,pq,d,n,by omega,by go_num,rfl,by rw[HE.out];exact HO6,by rw[HE.out];exact hn,Ck⟩
    case measure=>simp only[intOf];omega
  ·have bE:¬(j:Int)<(l.length:Int):=by omega
   have HE := hid (show WW = dB c e (l.take j) by rw[HW.out];have e:j=l.length:=by omega
                                                  subst e;rfl)
   generalize dB c e (l.take j)=WJ at *;clear WS WL W0 HW HWD V5;go_wp2;have e1:=hn.out;have e2:=HE.out;subst e2 e1;refine bodyPost_ret (v:=.slice pq WW.length d) (by simp[results,results107,go_sem]) rfl ?_
   obtain⟨q',d',e',Tt⟩:=Zp.Own.gi ax.out;rw[Value.slice.injEq] at e';obtain⟨rfl,-,rfl⟩:=e';refine⟨_,⟨_,rfl⟩,Tt,?_,xF.out.trans (aW.out.mono xF.out.size)⟩;rintro a rfl;rcases ax.out.2 with ⟨e,-⟩ | ⟨g,cap,cur,e,-,k,-⟩
   ·simp at e
   ·simp only[Value.slice.injEq,Option.some.injEq] at e
    obtain⟨rfl,-,-⟩:=e;exact⟨_,_,k⟩
end
end Zy
end Go.Proofs.YtbgdlokegibkmaaGreat
