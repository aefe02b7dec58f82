/-
  A part of the proof of VisitPlays.
-/
import Derived.Test.YtbgdlokegibkmaaGreatMpAj
import Derived.Test.YtbgdlokegibkmaaGreatMpAh
import Derived.Test.YtbgdlokegibkmaaGreatMpAd
set_option maxRecDepth 100000
set_option maxHeartbeats 16000000
namespace Go.Proofs.YtbgdlokegibkmaaGreat
open Go.RowKit
open Tryz
open Lib (hid)
namespace Zy
open Zq (ae aj ai)
open Zp (iE aL At bS eu fN af aD aA ag)
open Zw (Lz bH)
open Zu (It take)
open Zz (Nt)
theorem Qw {w:World}{B v:Nat}{c:Cf}{e:Eg}(h:Ed B w v c e)(hB:B<=w.heap.size)(hf:e.L.length<=1000)(x:Lz) :
 Calls prog 125 #[.pointer (some ⟨v,9,none⟩),Zw.val x] w fun e' w'=>e'=.returned (.int .i64 (Zw.put e.L x).2)/\aM B w v c ⟨(Zw.put e.L x).1,e.Q,e.D⟩ w' :=
 (Zl.vE h.wl hB hf x).mono fun _ _ ⟨he,hs⟩=>⟨he,h.zZ hs⟩
theorem JU {w:World}{B v:Nat}{c:Cf}{e:Eg}(h:Ed B w v c e)(hB:B<=w.heap.size)(hf:e.L.length<=1000)(key gen:Int) :
 Calls prog 166 #[.pointer (some ⟨v,9,none⟩),.int .i64 key,.int .i64 gen] w fun e' w'=>e'=.returned (.int .i64 (Zw.bB e.L key gen).2)/\aM B w v c ⟨(Zw.bB e.L key gen).1,e.Q,e.D⟩ w' :=
 (Zl.pI h.wl hB hf key gen).mono fun _ _ ⟨he,hs⟩=>⟨he,h.zZ hs⟩
theorem Nv {w:World}{B v:Nat}{c:Cf}{e:Eg}(h:Ed B w v c e)(hB:B<=w.heap.size)(hf:e.D.length<=900)(key spent:Int) :
 Calls prog 167 #[.pointer (some ⟨v,12,none⟩),.int .i64 key,.int .i64 spent] w fun e' w'=>e'=.returned (.int .i64 (Zz.of (e.D++[⟨key,spent⟩]) key))/\aM B w v c ⟨e.L,e.Q,e.D++[⟨key,spent⟩]⟩ w' :=
 (Zk.JM h.dm hB hf key spent).mono fun _ _ ⟨he,hs⟩=>⟨he,h.E3 hs⟩
theorem Ch {w:World}{B v:Nat}{c:Cf}{e:Eg}(h:Ed B w v c e)(hB:B<=w.heap.size)(hf:e.L.length<=1000)(gen:Int) :
 Calls prog 115 #[.pointer (some ⟨v,9,none⟩),.int .i64 gen] w fun e' w'=>e'=.returned (.int .i64 (Zw.drop e.L gen).2)/\aM B w v c (drop e gen) w' :=
 (Zl.Jm h.wl hB hf gen).mono fun _ _ ⟨he,hs⟩=>⟨he,h.zZ hs⟩
theorem jQ {c:Cf}{e:Eg}(h:bu c e){x:Lz}(hx:Zw.kV x):bu c ⟨(Zw.put e.L x).1,e.Q,e.D⟩:=⟨Zw.jQ h.l hx,h.q,h.nB⟩
theorem E9 {B v:Nat}{c:Cf}{e:Eg}{w:World}(h:Ed B w v c e)(hB:B<=w.heap.size)(hg:bu c e)(hf:e.L.length<=150/\e.Q.length<=150/\e.D.length<=800)(x:Lz)(hx:Zw.kV x)(now:Int) :
 Calls prog 65 #[.pointer (some ⟨v,0,none⟩),Zw.val x,.int .i64 now] w fun e' w'=>∃y,e'=.returned y/\jt w' y (aQ e x now).2/\aM B w v c (aQ e x now).1 w':=by
 have c1:=fun u (hu:Below w.heap.size w u)=>Qw (h.below hB hu) (Nat.le_trans hB hu.size) (by omega) x
 have c2:=fun u (hs:Ed B u v c ⟨(Zw.put e.L x).1,e.Q,e.D⟩) (hb:B<=u.heap.size)=>E5 hs hb (jQ hg hx) ⟨by have:=Zw.Hq e.L x;simp only;omega,by simp only;omega,by simp only;omega⟩ x.key now
 have hG:aQ e x now=if (Zw.put e.L x).2=0 then mI ⟨(Zw.put e.L x).1,e.Q,e.D⟩ x.key now else (e,[]):=rfl
 have hno:(Zw.put e.L x).2≠0->(Zw.put e.L x).1=e.L:=by
  unfold Zw.put;split
  ·intro _;rfl
  ·split
   ·intro _;rfl
   ·intro h0;exact absurd rfl h0
 have HS:=hid (fun u (hu:Below w.heap.size w u)=>aM.same h hB hu)
 have HB:=hid hB;generalize aQ e x now=R at *;generalize Zw.put e.L x=P at *;obtain⟨L',f⟩:=P;simp only at *;have HX:=hid (cQ w (.cells #[.int .i64 x.key,.int .i64 x.gen,.int .i64 x.aK,.int .i64 x.spent,.int .i64 x.cJ] 131));obtain⟨b0,b1,b2,b3,b4⟩:=Zp.bQ (heap_alloc_new w (.cells #[.int .i64 x.key,.int .i64 x.gen,.int .i64 x.aK,.int .i64 x.spent,.int .i64 x.cJ] 131));have HK:=hid (heap_alloc_new w (.cells #[.int .i64 x.key,.int .i64 x.gen,.int .i64 x.aK,.int .i64 x.spent,.int .i64 x.cJ] 131));have mR:=hid h.lt;obtain⟨xk,xg,xa,xs,xt⟩:=x;simp only[Zw.val] at *;clear h hg hf hx;have qU:=fun (u:World) (h:u.heap[w.heap.size]? =some (.cells #[.int .i64 xk,.int .i64 xg,.int .i64 xa,.int .i64 xs,.int .i64 xt] 131 (0,0)))=>Zp.bQ h
 have HF:=hid qU;clear qU;by_cases hf:f=0
 ·subst hf
  rw[if_pos rfl] at hG;subst hG;clear hno;go_enter func65,ntmps65
  go_wp2;generalize w.alloc (.cells #[.int .i64 xk,.int .i64 xg,.int .i64 xa,.int .i64 xs,.int .i64 xt] 131)=w0 at *;go_region_held3 (fun u=>u.cell? ⟨w.heap.size,0,none⟩=some (.int .i64 xk)/\u.cell? ⟨w.heap.size,1,none⟩=some (.int .i64 xg)/\u.cell? ⟨w.heap.size,2,none⟩=some (.int .i64 xa)/\u.cell? ⟨w.heap.size,3,none⟩=some (.int .i64 xs)/\u.cell? ⟨w.heap.size,4,none⟩=some (.int .i64 xt)) (first | assumption | exact⟨b0,b1,b2,b3,b4⟩) (first
   |(go_at_call 125;(with_reducible refine(c1 _ HX.out.drew).mono ?_);rintro e1 w1 ⟨rfl,h1⟩;have H1:=hid h1;have K1:=hid ((h1.only w.heap.size (by have:=mR.out;omega) (ae HK.out)).trans HK.out);have y1:=HF.out _ K1.out;clear h1 c1))
  clear b0 b1 b2 b3 b4;obtain⟨b0,b1,b2,b3,b4⟩:=y1;have hb1:=hid (Nat.le_trans HB.out (Nat.le_trans HX.out.drew.size H1.out.size));go_wp2_with (go_at_call 126;(with_reducible refine(c2 _ H1.out.ed hb1.out).mono ?_);rintro e1 w2 ⟨y,rfl,ht,h2⟩;have H2:=hid h2;have HT:=hid ht;clear h2 ht c2)
  go_ret;exact⟨y,rfl,HT.out,(HS.out _ HX.out.drew).trans (H1.out.trans H2.out)⟩
 ·rw [if_neg hf] at hG
  subst hG;obtain rfl:=hno hf;have hf2:(f != 0)=true:=by simp[hf]
  clear hno c2;go_enter func65,ntmps65
  go_wp2;generalize w.alloc (.cells #[.int .i64 xk,.int .i64 xg,.int .i64 xa,.int .i64 xs,.int .i64 xt] 131)=w0 at *;go_region_held3 (fun u=>u.cell? ⟨w.heap.size,0,none⟩=some (.int .i64 xk)/\u.cell? ⟨w.heap.size,1,none⟩=some (.int .i64 xg)/\u.cell? ⟨w.heap.size,2,none⟩=some (.int .i64 xa)/\u.cell? ⟨w.heap.size,3,none⟩=some (.int .i64 xs)/\u.cell? ⟨w.heap.size,4,none⟩=some (.int .i64 xt)) (first | assumption | exact⟨b0,b1,b2,b3,b4⟩) (first
   |(go_at_call 125;(with_reducible refine(c1 _ HX.out.drew).mono ?_);rintro e1 w1 ⟨rfl,h1⟩;have H1:=hid h1;have K1:=hid ((h1.only w.heap.size (by have:=mR.out;omega) (ae HK.out)).trans HK.out);have y1:=HF.out _ K1.out;clear h1 c1))
  clear b0 b1 b2 b3 b4;go_wp2;go_ret;exact⟨_,rfl,oI _,(HS.out _ HX.out.drew).trans H1.out⟩
theorem pI {B v:Nat}{c:Cf}{e:Eg}{w:World}(h:Ed B w v c e)(hB:B<=w.heap.size)(hf:e.L.length<=150/\e.Q.length<=150/\e.D.length<=800)(key gen:Int) :
 Calls prog 113 #[.pointer (some ⟨v,0,none⟩),.int .i64 key,.int .i64 gen] w fun e' w'=>e'=.returned (.int .i64 (bB e key gen).2)/\aM B w v c (bB e key gen).1 w':=by
 have c1:=JU h hB (by omega) key gen
 have c2:=fun u (hs:Ed B u v c ⟨(Zw.bB e.L key gen).1,e.Q,e.D⟩) (hb:B<=u.heap.size)=>Nv hs hb (by simp only;omega) key (Zw.bB e.L key gen).2
 have hG:bB e key gen=(⟨(Zw.bB e.L key gen).1,e.Q,if 0<=(Zw.bB e.L key gen).2 then e.D++[⟨key,(Zw.bB e.L key gen).2⟩] else e.D⟩,(Zw.bB e.L key gen).2):=rfl
 have HB:=hid hB;generalize bB e key gen=R at *;generalize Zw.bB e.L key gen=P at *;obtain⟨L',n⟩:=P;simp only at *;clear h hf;by_cases hn:0<=n
 ·rw [if_pos hn] at hG
  subst hG;generalize Zz.of (e.D++[⟨key,n⟩]) key=dv at *;go_enter func113,ntmps113
  go_wp2_with (first
   |(go_at_call 166;(with_reducible refine c1.mono ?_);rintro e1 w1 ⟨rfl,h1⟩;have H1:=hid h1;clear h1 c1)
   |(go_at_call 167;(with_reducible refine(c2 _ H1.out.ed (Nat.le_trans HB.out H1.out.size)).mono ?_);rintro e1 w2 ⟨rfl,h2⟩;have H2:=hid h2;clear h2 c2))
  go_ret;exact⟨rfl,H1.out.trans H2.out⟩
 ·rw [if_neg hn] at hG
  subst hG;clear c2;go_enter func113,ntmps113
  go_wp2_with (go_at_call 166;(with_reducible refine c1.mono ?_);rintro e1 w1 ⟨rfl,h1⟩;have H1:=hid h1;clear h1 c1)
  go_ret;exact⟨rfl,H1.out⟩
theorem vR {Q l:List It}{j:Nat}(h:j<l.length):dt Q (l.take (j+1))=(take (dt Q (l.take j)) (l.getD j Zu.z).id).1:=by
 unfold dt;rw[aA Zu.z h,List.foldl_append];rfl
theorem tM (Q:List It):∀l:List It,(dt Q l).length<=Q.length:=by
 intro l
 induction l generalizing Q with
 | nil=>exact Nat.le_refl _
 | cons x l ih =>
   refine Nat.le_trans (ih (take Q x.id).1) ?_;unfold take;split
   ·exact Nat.le_refl _
   ·exact (List.eraseIdx_sublist _ _).length_le
theorem Ci {B v:Nat}{c:Cf}{e:Eg}{w:World}(h:Ed B w v c e)(hB:B<=w.heap.size)(hf:e.Q.length<=150)(key fX:Int) :
 Calls prog 63 #[.pointer (some ⟨v,0,none⟩),.int .i64 key,.int .i64 fX] w fun e' w'=>∃y,e'=.returned y/\jt w' y (eC e key fX).2/\aM B w v c (eC e key fX).1 w':=by
 have eF:=hid hB;have HV:=hid h;have c0:=Zt.zL h.qu (by omega) key
 have aT:=Zu.lR e.Q key;have SV:=hid (show eC e key fX=(⟨e.L,dt e.Q (Zu.of e.Q key),e.D⟩,all (Zu.of e.Q key) fX) from rfl)
 generalize eC e key fX=R at *;generalize Zu.of e.Q key=l at *;have c2:=fun u p k (hl:aL Zu.aN u p l)=>Cb (d:=k) hl (by omega) fX
 have SS:=hid (fun(j:Nat) (hj:j<l.length)=>vR (Q:=e.Q) hj)
 have S0:=hid (show dt e.Q (l.take 0)=e.Q from rfl)
 have SL:=hid (show dt e.Q l=dt e.Q (l.take l.length) by rw[List.take_length])
 have SN:=hid (fun j=>Nat.le_trans (tM e.Q (l.take j)) (show e.Q.length<=1000 by omega))
 generalize all l fX=A at *;clear h hB;go_enter func63,ntmps63
 go_wp2_with (go_at_call 47;(with_reducible refine c0.mono ?_);rintro e1 w1 ⟨p,d,rfl,ho,hb⟩;have HO:=hid ho;have aO:=hid hb;clear ho hb c0)
 have Qs:=hid (HV.out.below eF.out aO.out);have bJ:=hid (Nat.le_trans eF.out aO.out.size);have Eh:=hid (aM.same HV.out eF.out aO.out);go_loopw [8] (fun i wr=>∃(j:Nat),j<=l.length/\i=.int .i64 (j:Int)/\Hid (aM B w1 v c ⟨e.L,dt e.Q (l.take j),e.D⟩ wr)) (fun i _=>l.length-(intOf i).toNat)
 case atStart=>exact ⟨0,by omega,rfl,by rw[S0.out];exact hid (aM.same Qs.out bJ.out (Below.refl _ _))⟩
 case round =>
  obtain⟨j,hj,rfl,hst⟩:=hrel;by_cases aC:j<l.length
  ·have bE:(j:Int)<(l.length:Int):=by omega
   obtain⟨g,cs,rfl,hblk,Ns⟩:=Il HO.out (by omega)
   have uE:=hid (fun u e' (hu:aM B w1 v c e' u)=>Zu.xu (Im (by decide) hblk (Ns j aC) Qs.out hu))
   obtain⟨k0,k1,k2,k3,k4⟩:=uE.out _ _ hst.out;have Bh:=hid (SS.out j aC);have U7:=hid (Nat.le_trans bJ.out hst.out.size);have R2:=hid (fun u (hu:Ed B u v c ⟨e.L,dt e.Q (l.take j),e.D⟩) (hb:B<=u.heap.size)=>Cg hu hb (SN.out j) (l.getD j Zu.z).id)
   simp only[show Zu.aN.n=5 from rfl,show Zu.aN.z=Zu.z from rfl] at k0 k1 k2 k3 k4 uE
   clear Ns hblk SS SN S0 SL k1 k2 k3 k4;generalize l.getD j Zu.z=x at *;obtain⟨xi,xk,xc,xs,xt⟩:=x;simp only at *;go_wp2;have Qt:=hid (aM.on hst.out U7.out (Below.refl _ wr).drew);go_region_held3 (fun u=>u.cell? ⟨g,j*5,none⟩=some (.int .i64 xi)) (first | assumption) (first
    |(go_at_call 123;(with_reducible refine(R2.out _ Qt.out.ed (Nat.le_trans bJ.out Qt.out.size)).mono ?_);rintro e1 w4 ⟨rfl,h4⟩;have T4:=hid (Qt.out.trans h4);have y4:=(uE.out _ _ T4.out).1;clear h4 R2))
   go_wp2;go_roundw
   case rel=>exact ⟨j+1,by omega,by go_num,by rw[Bh.out];exact T4⟩
   case measure=>simp only[intOf];omega
  ·have bE:¬(j:Int)<(l.length:Int):=by omega
   obtain rfl:j=l.length:=by omega
   have HR:=hid (show R=(⟨e.L,dt e.Q (l.take l.length),e.D⟩,A) by rw[SV.out,SL.out])
   have kX:=hid (Ce HO.out Qs.out hst.out);obtain⟨p',k',e',hl'⟩:=Zp.Own.gi kX.out;simp only[Value.slice.injEq] at e';obtain⟨rfl,-,rfl⟩:=e';have HLI:=hid hl';clear SV SL SS SN S0 hl';go_wp2_with (go_at_call 37;(with_reducible refine(c2 _ _ _ HLI.out).mono ?_);rintro e1 w5 ⟨y,rfl,ht,hb⟩;have HT:=hid ht;have jy:=hid hb;clear ht hb c2)
   go_ret;exact⟨y,rfl,by rw[HR.out];exact HT.out,by rw[HR.out];exact Eh.out.trans (hst.out.on (Nat.le_trans bJ.out hst.out.size) jy.out)⟩
theorem Ed.Qx {w:World}{B v:Nat}{c:Cf}{e:Eg}(h:Ed B w v c e)(_:B<=w.heap.size):aM B w v c e0 (((w.setCell ⟨v,11,none⟩ (.slice none 0 0)).setCell ⟨v,9,none⟩ (.slice none 0 0)).setCell ⟨v,12,none⟩ (.slice none 0 0)):=by
 obtain⟨h0,cs,p,k,yL,yQ,yD,h1,h2,h3,h4,h5,h6,h7,h8,h9,h10⟩:=h;have l9:9<cs.size:=(Array.getElem?_eq_some_iff.1 h4).1;have l11:11<cs.size:=(Array.getElem?_eq_some_iff.1 h7).1;have l12:12<cs.size:=(Array.getElem?_eq_some_iff.1 h9).1;have e3:=ai v 12 _ (.slice none 0 0) (ai v 9 _ (.slice none 0 0) (ai v 11 _ (.slice none 0 0) h1));have hb:Below B w (((w.setCell ⟨v,11,none⟩ (.slice none 0 0)).setCell ⟨v,9,none⟩ (.slice none 0 0)).setCell ⟨v,12,none⟩ (.slice none 0 0)) :=
  (((Below.refl B w).setCell (p:=⟨v,11,none⟩) h0 _).setCell (p:=⟨v,9,none⟩) h0 _).setCell (p:=⟨v,12,none⟩) h0 _
 refine⟨⟨h0,_,p,k,.slice none 0 0,.slice none 0 0,.slice none 0 0,e3,h2.on fun i hi=> ?_,h3.on hb,?_,World.ownsRow_nil _ _ _ _,?_,?_,Zp.Own.none _ _ _ _,?_,Zp.Own.none _ _ _ _⟩,fun g hn hg=> ?_,hb,by simp,fun i a b d=> ?_⟩
 ·rw [Array.getElem?_setIfInBounds,if_neg (by omega),Array.getElem?_setIfInBounds,if_neg (by omega),Array.getElem?_setIfInBounds,if_neg (by omega)]
 ·simp [l9]
 ·simpa [Array.getElem?_setIfInBounds] using h6
 ·simp [l11]
 ·simp [l12]
 ·exact (Below.heap_setCell _ _ _ _ hn).trans ((Below.heap_setCell _ _ _ _ hn).trans (Below.heap_setCell _ _ _ _ hn))
 ·rw [World.cell?_setCell_other _ _ _ _ (by intro e;simp only[Addr.mk.injEq] at e;omega),World.cell?_setCell_other _ _ _ _ (by intro e;simp only[Addr.mk.injEq] at e;omega),World.cell?_setCell_other _ _ _ _ (by intro e;simp only[Addr.mk.injEq] at e;omega)]
theorem Fa {B v:Nat}{c:Cf}{e:Eg}{w:World}(h:Ed B w v c e)(hB:B<=w.heap.size)(hf:e.Q.length<=150) :
 Calls prog 11 #[.pointer (some ⟨v,0,none⟩)] w fun e' w'=>∃y,e'=.returned y/\jt w' y (eI e).2/\aM B w v c (eI e).1 w':=by
 have HE:=hid (h.Qx hB);have HB:=hid hB;have HLQ:=hid (fun u e' (hu:aM B w v c e' u)=>show ∃p d,w.cell? ⟨v,11,none⟩=some (.slice p e.Q.length d)/\aL Zu.aN u p e.Q from by
  obtain⟨h0,cs,p,k,yL,yQ,yD,h1,h2,h3,h4,h5,h6,h7,h8,h9,h10⟩:=h;have h8':=Ce h8 ⟨h0,cs,p,k,yL,yQ,yD,h1,h2,h3,h4,h5,h6,h7,h8,h9,h10⟩ hu;obtain⟨q,d,rfl,hl⟩:=Zp.Own.gi h8';exact⟨q,d,by rw[cell_of_row w v 11 _ _ (0,0) h1,h7],hl⟩)
 have hG:eI e=(e0,all e.Q 8):=rfl;rw[hG];obtain⟨p,d,w11,hl⟩:=HLQ.out _ _ HE.out;have HL:=hid hl;obtain⟨f11,u9,d9,f9,u12,d12,f12⟩:w.frozen? ⟨v,11,none⟩=false/\∃u9,(w.setCell ⟨v,11,none⟩ (.slice none 0 0)).cell? ⟨v,9,none⟩=some u9/\(w.setCell ⟨v,11,none⟩ (.slice none 0 0)).frozen? ⟨v,9,none⟩=false /\
  ∃u12,((w.setCell ⟨v,11,none⟩ (.slice none 0 0)).setCell ⟨v,9,none⟩ (.slice none 0 0)).cell? ⟨v,12,none⟩=some u12/\((w.setCell ⟨v,11,none⟩ (.slice none 0 0)).setCell ⟨v,9,none⟩ (.slice none 0 0)).frozen? ⟨v,12,none⟩=false:=by
  obtain⟨h0,cs,p,k,yL,yQ,yD,h1,h2,h3,h4,h5,h6,h7,h8,h9,h10⟩:=h;have e1:=ai v 11 _ (.slice none 0 0) h1;have e2:=ai v 9 _ (.slice none 0 0) e1;refine⟨aj h1,yL,?_,aj e1,yD,?_,aj e2⟩
  ·rw [cell_of_row _ v 9 _ _ (0,0) e1,Array.getElem?_setIfInBounds,if_neg (by omega)]
   exact h4
  ·rw [cell_of_row _ v 12 _ _ (0,0) e2,Array.getElem?_setIfInBounds,if_neg (by omega),Array.getElem?_setIfInBounds,if_neg (by omega)]
   exact h9
 have c2:=fun u p k (hl:aL Zu.aN u p e.Q)=>Cb (d:=k) hl (by omega) 8
 have hvl:=h.lt;generalize all e.Q 8=A at *;generalize e.Q=Q at *;clear h hl HLQ hG;go_enter func11,ntmps11
 go_wp2_with (go_at_call 37;(with_reducible refine(c2 _ _ _ HL.out).mono ?_);rintro e1 w5 ⟨y,rfl,ht,hb⟩;have HT:=hid ht;have jy:=hid hb;clear ht hb c2)
 go_ret;exact⟨y,rfl,HT.out,HE.out.on (Nat.le_trans HB.out HE.out.size) jy.out⟩
open Zp (iE aL At bS eu fN af aD aA ag bQ)
def kY (r:Rq):Value:=.agg #[.int .i64 r.id,.int .i64 r.key,.int .i64 r.cost,.int .i64 r.bU,.int .i64 r.bR]
def Cf.val (c:Cf)(p:Option Addr)(k:Nat):Value:=.agg #[.int .i64 c.n,.int .i64 c.sk,.int .i64 c.tl,.int .i64 c.va,.int .i64 c.lo,.int .i64 c.he,.int .i64 c.ke,.int .i64 c.qu,.slice p c.zs.length k]
theorem sA (c:Cf)(p:Option Addr)(k:Nat)(key:Int)(w:World):Calls prog 45 #[c.val p k,.int .i64 key] w fun e' w'=>e'=.returned (.int .i64 (c.fT key))/\Below w.heap.size w w':=by
 obtain⟨n,sk,tl,va,lo,he,ke,qu,zs⟩:=c;unfold Cf.val Cf.fT;simp only;by_cases h:0<=key/\key<=524287/\key / 65536<zs.length
 ·rw [if_pos h]
  obtain⟨j,hj⟩:∃j:Nat,key / 65536=(j:Int):=⟨(key / 65536).toNat,by omega⟩
  rw[hj];exact Zm.Ab n sk tl va lo he ke qu p zs.length k j key w (Zm.fK h.1 h.2.1) h.1 h.2.1 hj (by omega)
 ·rw [if_neg h]
  refine Zm.Aa n sk tl va lo he ke qu p zs.length k key w ?_;by_cases hk:0<=key/\key<=524287
  ·exact .inr ⟨Zm.fK hk.1 hk.2,hk.1,hk.2,by omega⟩
  ·exact .inl (Zm.gp hk)
theorem l7 (key:Int)(w:World):Calls prog 43 #[.int .i64 key] w fun e' w'=>e'=.returned (.bool (decide (right key)))/\w=w':=by
 have:=Zm.lS key w;have e:Zm.aB key 0 524287=decide (right key):=by
  by_cases h:right key
  ·rw [decide_eq_true h];exact Zm.fK h.1 h.2
  ·rw [decide_eq_false h];exact Zm.gp h
 rwa [e] at this
structure JV (w:World)(v g:Nat)(c:Cf)(r:Rq)(p:Option Addr)(k:Nat):Prop where
 r0:w.cell? ⟨g,0,none⟩=some (.int .i64 r.id)
 r1:w.cell? ⟨g,1,none⟩=some (.int .i64 r.key)
 r2:w.cell? ⟨g,2,none⟩=some (.int .i64 r.cost)
 r3:w.cell? ⟨g,3,none⟩=some (.int .i64 r.bU)
 r4:w.cell? ⟨g,4,none⟩=some (.int .i64 r.bR)
 c0:w.cell? ⟨v,0,none⟩=some (.int .i64 c.n)
 c1:w.cell? ⟨v,1,none⟩=some (.int .i64 c.sk)
 c2:w.cell? ⟨v,2,none⟩=some (.int .i64 c.tl)
 c3:w.cell? ⟨v,3,none⟩=some (.int .i64 c.va)
 c4:w.cell? ⟨v,4,none⟩=some (.int .i64 c.lo)
 c5:w.cell? ⟨v,5,none⟩=some (.int .i64 c.he)
 c6:w.cell? ⟨v,6,none⟩=some (.int .i64 c.ke)
 c7:w.cell? ⟨v,7,none⟩=some (.int .i64 c.qu)
 c8:w.cell? ⟨v,8,none⟩=some (.slice p c.zs.length k)
theorem JV.on {w w':World}{v g:Nat}{c:Cf}{r:Rq}{p:Option Addr}{k:Nat}(h:JV w v g c r p k)(hb:Below w.heap.size w w'):JV w' v g c r p k :=
 ⟨af h.r0 hb,af h.r1 hb,af h.r2 hb,af h.r3 hb,af h.r4 hb,af h.c0 hb,af h.c1 hb,af h.c2 hb,af h.c3 hb,af h.c4 hb,af h.c5 hb,af h.c6 hb,af h.c7 hb,af h.c8 hb⟩
theorem Cj {w:World}{B v:Nat}{c:Cf}{e:Eg}(h:Ed B w v c e)(r:Rq):∃p k,bD B w p c.zs/\JV (w.alloc (.cells #[.int .i64 r.id,.int .i64 r.key,.int .i64 r.cost,.int .i64 r.bU,.int .i64 r.bR] 42)) v w.heap.size c r p k:=by
 obtain⟨p,k,hr,h0,h1,h2,h3,h4,h5,h6,h7,h8⟩:=h.dW;obtain⟨b0,b1,b2,b3,b4⟩:=bQ (heap_alloc_new w (.cells #[.int .i64 r.id,.int .i64 r.key,.int .i64 r.cost,.int .i64 r.bU,.int .i64 r.bR] 42));have hb:=cQ w (.cells #[.int .i64 r.id,.int .i64 r.key,.int .i64 r.cost,.int .i64 r.bU,.int .i64 r.bR] 42);exact⟨p,k,hr,b0,b1,b2,b3,b4,af h0 hb,af h1 hb,af h2 hb,af h3 hb,af h4 hb,af h5 hb,af h6 hb,af h7 hb,af h8 hb⟩
theorem JV.YF {w:World}{v g:Nat}{c:Cf}{r:Rq}{p:Option Addr}{k:Nat}(h:JV w v g c r p k):w.cell? ⟨v,0,none⟩=some (.int .i64 c.n)/\w.cell? ⟨v,1,none⟩=some (.int .i64 c.sk)/\w.cell? ⟨v,2,none⟩=some (.int .i64 c.tl)/\w.cell? ⟨v,3,none⟩=some (.int .i64 c.va)/\w.cell? ⟨v,4,none⟩=some (.int .i64 c.lo)/\w.cell? ⟨v,5,none⟩=some (.int .i64 c.he) /\
 w.cell? ⟨v,6,none⟩=some (.int .i64 c.ke)/\w.cell? ⟨v,7,none⟩=some (.int .i64 c.qu)/\w.cell? ⟨v,8,none⟩=some (.slice p c.zs.length k)/\w.cell? ⟨g,1,none⟩=some (.int .i64 r.key) :=
 ⟨h.c0,h.c1,h.c2,h.c3,h.c4,h.c5,h.c6,h.c7,h.c8,h.r1⟩
theorem JW {Q:List It}{r:Rq}(h:E2 Q r):r.cost<1∨¬r.cost<1/\(r.bU<0∨¬r.bU<0/\(2<r.bU∨¬2<r.bU/\(r.bR<0∨¬r.bR<0/\(1099511627776<r.bR∨¬1099511627776<r.bR/\(decide (right r.key)=false∨decide (right r.key)=true/\decide (0<=Zu.au Q r.id)=true))))):=by
 unfold E2 at h;by_cases h1:r.cost<1
 ·exact .inl h1
 refine .inr ⟨h1,?_⟩;by_cases h2:r.bU<0
 ·exact .inl h2
 refine .inr ⟨h2,?_⟩;by_cases h3:2<r.bU
 ·exact .inl h3
 refine .inr ⟨h3,?_⟩;by_cases h4:r.bR<0
 ·exact .inl h4
 refine .inr ⟨h4,?_⟩;by_cases h5:1099511627776<r.bR
 ·exact .inl h5
 refine .inr ⟨h5,?_⟩;by_cases h6:right r.key
 ·refine .inr ⟨decide_eq_true h6,decide_eq_true ?_⟩
  rcases h with h | h | h | h | h | h | h
  ·exact absurd h h1
  ·exact absurd h h2
  ·exact absurd h h3
  ·exact absurd h h4
  ·exact absurd h h5
  ·exact absurd h6 h
  ·exact h
 ·exact .inl (decide_eq_false h6)
theorem Qy {Q:List It}{r:Rq}(h:¬E2 Q r):¬r.cost<1/\¬r.bU<0/\¬2<r.bU/\¬r.bR<0/\¬1099511627776<r.bR/\decide (right r.key)=true/\decide (0<=Zu.au Q r.id)=false:=by
 unfold E2 at h;by_cases hr:right r.key
 ·by_cases hp:0<=Zu.au Q r.id
  ·simp [hp] at h
  ·simp only[hr,not_true,hp,or_false,not_or] at h
   exact⟨by omega,by omega,by omega,by omega,by omega,decide_eq_true hr,decide_eq_false hp⟩
 ·simp [hr] at h
theorem Nw {B v:Nat}{c:Cf}{e:Eg}{w:World}(h:Ed B w v c e)(hB:B<=w.heap.size)(hf:e.Q.length<=150)(r:Rq)(now:Int)(Wd:E2 e.Q r) :
 Calls prog 14 #[.pointer (some ⟨v,0,none⟩),kY r,.int .i64 now] w fun e' w'=>∃y,e'=.returned y/\jt w' y (no r.id 7)/\aM B w v c e w':=by
 have hc:=JW Wd;obtain⟨p,k,hr,Nx⟩:=Cj h r;have fD:=hid (cQ w (.cells #[.int .i64 r.id,.int .i64 r.key,.int .i64 r.cost,.int .i64 r.bU,.int .i64 r.bR] 42));have HS:=hid (fun u (hu:Below w.heap.size w u)=>aM.same h hB hu)
 have HW:=hid (fun u (hu:Below w.heap.size w u)=>vN (h.below hB hu) (by omega) r.id)
 have HR:=hid (fun u=>l7 r.key u)
 have HK:=hid (fun u=>sA c p k r.key u)
 have HN:=hid (fun u=>qQ r.id 7 u)
 have HX:=hid (fun u (hu:Below (w.alloc (.cells #[.int .i64 r.id,.int .i64 r.key,.int .i64 r.cost,.int .i64 r.bU,.int .i64 r.bR] 42)).heap.size (w.alloc (.cells #[.int .i64 r.id,.int .i64 r.key,.int .i64 r.cost,.int .i64 r.bU,.int .i64 r.bR] 42)) u)=>Nx.on hu)
 have hx:=HX.out _ (Below.refl _ _);generalize decide (0<=Zu.au e.Q r.id)=tw at *;generalize decide (right r.key)=rk at *;generalize c.fT r.key=kk at *;generalize no r.id 7=A at *;obtain⟨ri,fU,rc,rs,sB⟩:=r;obtain⟨cn,Ty,ctl,Tz,TA,TB,TC,RP,czs⟩:=c;simp only[kY,Cf.val] at *;obtain⟨x0,x1,x2,x3,x4,y0,y1,y2,y3,y4,y5,y6,y7,y8⟩:=hx;simp only at *;clear h Wd hf hB Nx;go_enter func14,ntmps14
 go_wp2_with (first
  |(go_at_call 43;(with_reducible refine(HR.out _).mono ?_);rintro e1 w1 ⟨rfl,rfl⟩)
  |(go_at_call 44;(with_reducible refine(HW.out _ fD.out).mono ?_);rintro e1 w2 ⟨rfl,hb⟩;have bJ:=hid hb;clear hb HW))
 clear x0 x1 x2 x3 x4 y0 y1 y2 y3 y4 y5 y6 y7 y8;have t2:=(HX.out _ bJ.out).YF;simp only at t2;go_region_held3 (fun u=>u.cell? ⟨v,0,none⟩=some (.int .i64 cn)/\u.cell? ⟨v,1,none⟩=some (.int .i64 Ty)/\u.cell? ⟨v,2,none⟩=some (.int .i64 ctl)/\u.cell? ⟨v,3,none⟩=some (.int .i64 Tz)/\u.cell? ⟨v,4,none⟩=some (.int .i64 TA)/\u.cell? ⟨v,5,none⟩=some (.int .i64 TB) /\
  u.cell? ⟨v,6,none⟩=some (.int .i64 TC)/\u.cell? ⟨v,7,none⟩=some (.int .i64 RP)/\u.cell? ⟨v,8,none⟩=some (.slice p czs.length k)/\u.cell? ⟨w.heap.size,1,none⟩=some (.int .i64 fU)) (first | assumption) (first
  |(go_at_call 45;(with_reducible refine(HK.out _).mono ?_);rintro e1 w3 ⟨rfl,hb⟩;have cH:=hid (bJ.out.trans ((Below.refl _ w2).drew.trans (hb.mono (Below.refl w2.heap.size w2).drew.size) |>.mono bJ.out.size));have t3:=(HX.out _ cH.out).YF;simp only at t3;clear hb))
 clear t2 t3;obtain⟨x0,x1,x2,x3,x4,y0,y1,y2,y3,y4,y5,y6,y7,y8⟩:=HX.out _ cH.out;simp only at x0 x1 x2 x3 x4;clear y0 y1 y2 y3 y4 y5 y6 y7 y8;rcases hc with h1 | ⟨h1,h2 | ⟨h2,h3 | ⟨h3,h4 | ⟨h4,h5 | ⟨h5,h6 | ⟨h6,h7⟩⟩⟩⟩⟩⟩
 all_goals (
  go_wp2_with (go_at_call 46;(with_reducible refine(HN.out _).mono ?_);rintro e1 w4 ⟨y,rfl,ht,hb⟩;have HT:=hid ht;have fp:=hid hb;clear ht hb HN)
  go_ret;exact⟨y,rfl,HT.out,HS.out _ (fD.out.trans ((cH.out.trans (fp.out.mono cH.out.size)).mono fD.out.size))⟩)
theorem vS (c:Cf)(e:Eg)(r:Rq)(now:Int):(r.bR=0/\bR c e r now=(e,no r.id 1))∨(r.bR≠0/\(Zu.put c.qu e.Q (aN r now)).2=0/\bR c e r now=(⟨e.L,(Zu.put c.qu e.Q (aN r now)).1,e.D⟩,[]))∨
 (r.bR≠0/\(Zu.put c.qu e.Q (aN r now)).2≠0/\(Zu.put c.qu e.Q (aN r now)).1=e.Q/\bR c e r now=(e,no r.id 2)):=by
 unfold bR;by_cases h:r.bR=0
 ·exact .inl ⟨h,by rw[if_pos h]⟩
 ·by_cases hp:(Zu.put c.qu e.Q (aN r now)).2=0
  ·exact .inr (.inl ⟨h,hp,by rw[if_neg h,if_pos hp]⟩)
  ·refine .inr (.inr ⟨h,hp,?_,by rw[if_neg h,if_neg hp]⟩)
   unfold Zu.put at hp ⊢;split
   ·rfl
   ·split
    ·rfl
    ·split
     ·rfl
     ·rename_i h1 h2 h3
      rw[if_neg h1,if_neg h2,if_neg h3] at hp;exact absurd rfl hp
theorem JX {c:Cf}{e:Eg}{r:Rq}{now:Int}(hb:¬E2 e.Q r):(now<0/\jF c e r now=(e,no r.id 1))∨¬now<0/\((4611686018427387904<=now/\jF c e r now=(e,no r.id 1))∨¬4611686018427387904<=now/\((c.fT r.key<0/\jF c e r now=(e,no r.id 6))∨¬c.fT r.key<0 /\
 ((c.b r.key<r.cost/\jF c e r now=(e,no r.id 5))∨¬c.b r.key<r.cost/\((Zu.of e.Q r.key=[]/\(bH e.L r.key r.cost now).2.2=true/\jF c e r now=(⟨(bH e.L r.key r.cost now).1,e.Q,e.D⟩,[⟨r.id,(bH e.L r.key r.cost now).2.1,0⟩]))∨
   (Zu.of e.Q r.key=[]/\(bH e.L r.key r.cost now).2.2=false/\(bH e.L r.key r.cost now).1=e.L/\jF c e r now=bR c e r now)∨(Zu.of e.Q r.key≠[]/\jF c e r now=bR c e r now))))):=by
 unfold jF;rw[if_neg hb];by_cases h1:now<0
 ·exact .inl ⟨h1,by rw[if_pos (.inl h1)]⟩
 refine .inr ⟨h1,?_⟩;by_cases h2:4611686018427387904<=now
 ·exact .inl ⟨h2,by rw[if_pos (.inr h2)]⟩
 rw[if_neg (by omega)]
 refine .inr ⟨h2,?_⟩;by_cases h3:c.fT r.key<0
 ·exact .inl ⟨h3,by rw[if_pos h3]⟩
 rw[if_neg h3];refine .inr ⟨h3,?_⟩;by_cases h4:c.b r.key<r.cost
 ·exact .inl ⟨h4,by rw[if_pos h4]⟩
 rw[if_neg h4];refine .inr ⟨h4,?_⟩;by_cases h5:Zu.of e.Q r.key=[]
 ·by_cases h6:(bH e.L r.key r.cost now).2.2=true
  ·exact .inl ⟨h5,h6,by rw[if_pos ⟨h5,h6⟩]⟩
  ·have We:(bH e.L r.key r.cost now).2.2=false:=by simpa using h6
   exact .inr (.inl ⟨h5,We,qT We,by rw[if_neg (fun hh=>h6 hh.2)]⟩)
 ·exact .inr (.inr ⟨h5,by rw[if_neg (fun hh=>h5 hh.1)]⟩)
theorem yz {c:Cf}{key:Int}(h:¬c.fT key<0){B:Nat}{w:World}{p:Option Addr}(hr:bD B w p c.zs):∃(j b o:Nat),c.fT key=(j:Int)/\(j:Int)<(c.zs.length:Int)/\p=some ⟨b,o,none⟩/\b<B/\w.cell? ⟨b,o+j*2+1,none⟩=some (.int .i64 (c.b key)):=by
 unfold Cf.fT at h;unfold Cf.b Cf.fT;by_cases hk:0<=key/\key<=524287/\key / 65536<c.zs.length
 ·rw [if_pos hk]
  obtain⟨j,hj⟩:∃j:Nat,key / 65536=(j:Int):=⟨(key / 65536).toNat,by omega⟩
  rw[hj];rcases hr with hr | ⟨b,o,rfl,hb,hc⟩
  ·rw [hr] at hk;simp at hk;omega
  ·have aC:j<c.zs.length:=by omega
   exact⟨j,b,o,rfl,by omega,rfl,hb,by rw[Int.toNat_natCast];exact(hc j aC).2⟩
 ·rw [if_neg hk] at h
  exact absurd (by decide) h
theorem bG {w w':World}{B v g i:Nat}{c:Cf}{e:Eg}{u:Value}(hs:aM B w v c e w')(hne:g≠v)(h:w.cell? ⟨g,i,none⟩=some u):w'.cell? ⟨g,i,none⟩=some u :=
 (World.cell?_of_block (hs.only g hne (World.block_lt_of_cell? _ _ h))).trans h
theorem Ny {w:World}{B v:Nat}{c:Cf}{e:Eg}(h:Ed B w v c e)(hB:B<=w.heap.size)(hf:e.Q.length<=1000)(x:It) :
 Calls prog 49 #[.pointer (some ⟨v,10,none⟩),Zu.val x] w fun e' w'=>e'=.returned (.int .i64 (Zu.put c.qu e.Q x).2)/\aM B w v c ⟨e.L,(Zu.put c.qu e.Q x).1,e.D⟩ w' :=
 (Zt.vE h.qu hB hf x).mono fun _ _ ⟨he,hs⟩=>⟨he,h.sy hs⟩
theorem JY {B v:Nat}{c:Cf}{e:Eg}{w:World}(h:Ed B w v c e)(hB:B<=w.heap.size)(hg:bu c e)(hf:e.L.length<=150/\e.Q.length<=150)(r:Rq)(now:Int)(Nz:¬E2 e.Q r) :
 Calls prog 14 #[.pointer (some ⟨v,0,none⟩),kY r,.int .i64 now] w fun e' w'=>∃y,e'=.returned y/\jt w' y (jF c e r now).2/\aM B w v c (jF c e r now).1 w':=by
 have b9:=JX (c:=c) (now:=now) Nz;have yA:=vS c e r now;obtain⟨b1,b2,b3,b4,b5,b6,b7⟩:=Qy Nz;obtain⟨p,k,hr,Nx⟩:=Cj h r;have fD:=hid (cQ w (.cells #[.int .i64 r.id,.int .i64 r.key,.int .i64 r.cost,.int .i64 r.bU,.int .i64 r.bR] 42));have eF:=hid hB;have mR:=hid h.lt;have HS:=hid (fun u (hu:Below w.heap.size w u)=>aM.same h hB hu)
 have Bi:=hid (fun u (hu:Below w.heap.size w u)=>h.below hB hu)
 have HW:=hid (fun u (hu:Below w.heap.size w u)=>vN (h.below hB hu) (by omega) r.id)
 have HR:=hid (fun u=>l7 r.key u)
 have HK:=hid (fun u=>sA c p k r.key u)
 have YG:=hid (fun u=>qQ r.id 1 u)
 have HN6:=hid (fun u=>qQ r.id 6 u)
 have HN5:=hid (fun u=>qQ r.id 5 u)
 have Ym:=hid (fun u=>qQ r.id 2 u)
 have HOF:=hid (fun u (hu:Below w.heap.size w u)=>Zt.oy (h.below hB hu).qu (by omega) r.key)
 have HSP:=hid (fun u (hu:Below w.heap.size w u)=>yx (h.below hB hu) (Nat.le_trans hB hu.size) hg (by omega) r.key r.cost now)
 have NC:=hid (fun u (hu:Ed B u v c e) (hb:B<=u.heap.size)=>Ny hu hb (by omega) (aN r now))
 have RQ:=hid (fun u=>Zr.eP now r.bR u)
 have YH:=hid (fun(hk:¬c.fT r.key<0)=>yz hk hr)
 have HX:=hid (fun u (hu:Below (w.alloc (.cells #[.int .i64 r.id,.int .i64 r.key,.int .i64 r.cost,.int .i64 r.bU,.int .i64 r.bR] 42)).heap.size (w.alloc (.cells #[.int .i64 r.id,.int .i64 r.key,.int .i64 r.cost,.int .i64 r.bU,.int .i64 r.bR] 42)) u)=>Nx.on hu)
 have hx:=HX.out _ (Below.refl _ _);rw[b6] at HR;rw[b7] at HW;simp only[aN,Zu.val] at NC yA;generalize jF c e r now=AS at *;generalize bR c e r now=WT at *;generalize no r.id 1=A1 at *;generalize no r.id 6=A6 at *;generalize no r.id 5=A5 at *;generalize no r.id 2=A2 at *;generalize bH e.L r.key r.cost now=SP at *;generalize Zu.of e.Q r.key=OF at *;generalize Zr.add [now,r.bR]=cJ at *;generalize Zu.put c.qu e.Q ⟨r.id,r.key,r.cost,r.bU,cJ⟩=PU at *;generalize c.b r.key=bb at *;generalize c.fT r.key=kk at *;obtain⟨ri,fU,rc,rs,sB⟩:=r;have HC:=hid (show c.qu=c.qu from rfl)
 obtain⟨SL,gen,ok⟩:=SP;obtain⟨PQ,pf⟩:=PU;simp only[kY,Cf.val] at *;obtain⟨x0,x1,x2,x3,x4,y0,y1,y2,y3,y4,y5,y6,y7,y8⟩:=hx;simp only at *;clear h Nz hf hB Nx hg;go_enter func14,ntmps14
 go_wp2_with (first
  |(go_at_call 43;(with_reducible refine(HR.out _).mono ?_);rintro e1 w1 ⟨rfl,rfl⟩)
  |(go_at_call 44;(with_reducible refine(HW.out _ fD.out).mono ?_);rintro e1 w2 ⟨rfl,hb⟩;have bJ:=hid hb;clear hb HW))
 clear x0 x1 x2 x3 x4 y0 y1 y2 y3 y4 y5 y6 y7 y8;have t2:=(HX.out _ bJ.out).YF;simp only at t2;go_region_held3 (fun u=>u.cell? ⟨v,0,none⟩=some (.int .i64 c.n)/\u.cell? ⟨v,1,none⟩=some (.int .i64 c.sk)/\u.cell? ⟨v,2,none⟩=some (.int .i64 c.tl)/\u.cell? ⟨v,3,none⟩=some (.int .i64 c.va)/\u.cell? ⟨v,4,none⟩=some (.int .i64 c.lo)/\u.cell? ⟨v,5,none⟩=some (.int .i64 c.he) /\
  u.cell? ⟨v,6,none⟩=some (.int .i64 c.ke)/\u.cell? ⟨v,7,none⟩=some (.int .i64 c.qu)/\u.cell? ⟨v,8,none⟩=some (.slice p c.zs.length k)/\u.cell? ⟨w.heap.size,1,none⟩=some (.int .i64 fU)) (first | assumption) (first
  |(go_at_call 45;(with_reducible refine(HK.out _).mono ?_);rintro e1 w3 ⟨rfl,hb⟩;have cH:=hid (bJ.out.trans ((Below.refl _ w2).drew.trans (hb.mono (Below.refl w2.heap.size w2).drew.size) |>.mono bJ.out.size));have t3:=(HX.out _ cH.out).YF;simp only at t3;clear hb))
 clear t2 t3;obtain⟨x0,x1,x2,x3,x4,y0,y1,y2,y3,y4,y5,y6,y7,y8⟩:=HX.out _ cH.out;simp only at x0 x1 x2 x3 x4;clear y0 y1 y2 y3 y4 y5 y6 y7;have cA:=hid (fD.out.trans (cH.out.mono fD.out.size));rcases b9 with ⟨h1,rfl⟩ | ⟨h1,⟨h2,rfl⟩ | ⟨h2,⟨h3,rfl⟩ | ⟨h3,⟨h4,rfl⟩ | ⟨h4,b9⟩⟩⟩⟩
 ·go_wp2_with (go_at_call 46;(with_reducible refine(YG.out _).mono ?_);rintro e1 w4 ⟨y,rfl,ht,hb⟩;have HT:=hid ht;have fp:=hid hb;clear ht hb)
  go_ret;exact⟨y,rfl,HT.out,HS.out _ (cA.out.trans (fp.out.mono cA.out.size))⟩
 ·go_wp2_with (go_at_call 46;(with_reducible refine(YG.out _).mono ?_);rintro e1 w4 ⟨y,rfl,ht,hb⟩;have HT:=hid ht;have fp:=hid hb;clear ht hb)
  go_ret;exact⟨y,rfl,HT.out,HS.out _ (cA.out.trans (fp.out.mono cA.out.size))⟩
 ·go_wp2_with (go_at_call 46;(with_reducible refine(HN6.out _).mono ?_);rintro e1 w4 ⟨y,rfl,ht,hb⟩;have HT:=hid ht;have fp:=hid hb;clear ht hb)
  go_ret;exact⟨y,rfl,HT.out,HS.out _ (cA.out.trans (fp.out.mono cA.out.size))⟩
 ·obtain ⟨j,b,o,rfl,hj,rfl,YI,hcell⟩:=YH.out h3
  have k0:=(cA.out.cell (p:=⟨b,o+j*2+1,none⟩) (Nat.lt_of_lt_of_le YI eF.out)).trans hcell;clear hcell;go_wp2;go_quiet (fail)
  have jy:=hid (cA.out.trans ((ag w3 nq).mono cA.out.size));have o9:=(HX.out _ (cH.out.trans ((ag w3 nq).mono cH.out.size))).r0;simp only at o9;clear x0 x1 x2 x3 x4 y8 k0;generalize w3.drewN nq=w5 at *;go_wp2_with (go_at_call 46;(with_reducible refine(HN5.out _).mono ?_);rintro e1 w4 ⟨y,rfl,ht,hb⟩;have HT:=hid ht;have fp:=hid hb;clear ht hb)
  go_ret;exact⟨y,rfl,HT.out,HS.out _ (jy.out.trans (fp.out.mono jy.out.size))⟩
 ·obtain ⟨j,b,o,rfl,hj,rfl,YI,hcell⟩:=YH.out h3
  have k0:=(cA.out.cell (p:=⟨b,o+j*2+1,none⟩) (Nat.lt_of_lt_of_le YI eF.out)).trans hcell;clear hcell;go_wp2;go_quiet (fail)
  have jy:=hid (cA.out.trans ((ag w3 nq).mono cA.out.size));have Ck:=hid (cH.out.trans ((ag w3 nq).mono cH.out.size));clear x0 x1 x2 x3 x4 y8 k0;generalize w3.drewN nq=w5 at *;obtain⟨x0,x1,x2,x3,x4,y0,y1,y2,y3,y4,y5,y6,y7,y8⟩:=HX.out _ Ck.out;simp only at x0 x1 x2 x3 x4;clear y0 y1 y2 y3 y4 y5 y6 y7 y8;have xF:=hid (fD.out.trans (Ck.out.mono fD.out.size));have aaZ:=hid (xF.out.trans ((Below.refl w5.heap.size w5).drew.mono xF.out.size));go_wp2;go_region_held3 (fun u=>u.cell? ⟨w.heap.size,1,none⟩=some (.int .i64 fU)) (first | assumption) (first
   |(go_at_call 47;(with_reducible refine(HOF.out _ aaZ.out).mono ?_);rintro e1 w6 ⟨po,co,rfl,-,hb⟩;have U8:=hid (Ck.out.trans (((Below.refl w5.heap.size w5).drew.trans (hb.mono (Below.refl w5.heap.size w5).drew.size)).mono Ck.out.size));have y1:=(HX.out _ U8.out).r1;simp only at y1;clear hb))
  clear x0 x1 x2 x3 x4;obtain⟨x0,x1,x2,x3,x4,y0,y1',y2,y3,y4,y5,y6,y7,y8⟩:=HX.out _ U8.out;simp only at x0 x1 x2 x3 x4;clear y0 y1' y2 y3 y4 y5 y6 y7 y8;have TF:=hid (fD.out.trans (U8.out.mono fD.out.size));have YJ:=hid (HS.out _ TF.out);have Qz:=hid (TF.out.trans ((Below.refl w6.heap.size w6).drew.mono TF.out.size));rcases b9 with ⟨Wf,o7,hE⟩ | ⟨Wf,o7,Nd,hE⟩ | ⟨Wf,hE⟩
  ·subst Wf o7 hE
   have hz:((([]:List It).length:Int)==0)=true:=rfl;go_wp2;go_region_held3 (fun u=>u.cell? ⟨w.heap.size,1,none⟩=some (.int .i64 fU)/\u.cell? ⟨w.heap.size,2,none⟩=some (.int .i64 rc)) (first | assumption | exact⟨x1,x2⟩) (first
    |(go_at_call 48;(with_reducible refine(HSP.out _ Qz.out).mono ?_);rintro e1 w7 ⟨rfl,hs⟩;have H7:=hid hs;have z7:_/\_:=⟨bG hs (by have:=mR.out;omega) (af x1 (Below.refl _ _).drew),bG hs (by have:=mR.out;omega) (af x2 (Below.refl _ _).drew)⟩;clear hs))
   have z0:=bG H7.out (by have:=mR.out;omega) (af x0 (Below.refl _ _).drew)
   have Wh:=hid (HS.out _ Qz.out);have RS:=hid (Nat.le_trans eF.out (Wh.out.trans H7.out).size);clear x0 x1 x2 x3 x4;go_wp2;go_ret;exact⟨_,rfl,⟨_,1,rfl,Zp.vt (E:=iH) (x:=⟨ri,gen,0⟩) (heap_alloc_new w7 _),fun h=>by cases h⟩,(Wh.out.trans H7.out).on RS.out (cQ w7 _)⟩
  ·subst Wf o7
   have hz:((([]:List It).length:Int)==0)=true:=rfl;subst Nd;go_wp2;go_region_held3 (fun u=>u.cell? ⟨w.heap.size,1,none⟩=some (.int .i64 fU)/\u.cell? ⟨w.heap.size,2,none⟩=some (.int .i64 rc)) (first | assumption | exact⟨x1,x2⟩) (first
    |(go_at_call 48;(with_reducible refine(HSP.out _ Qz.out).mono ?_);rintro e1 w7 ⟨rfl,hs⟩;have H7:=hid hs;have z7:_/\_:=⟨bG hs (by have:=mR.out;omega) (af x1 (Below.refl _ _).drew),bG hs (by have:=mR.out;omega) (af x2 (Below.refl _ _).drew)⟩;clear hs))
   have z0:=bG H7.out (by have:=mR.out;omega) (af x0 (Below.refl _ _).drew)
   have z3:=bG H7.out (by have:=mR.out;omega) (af x3 (Below.refl _ _).drew)
   have z4:=bG H7.out (by have:=mR.out;omega) (af x4 (Below.refl _ _).drew)
   have TG:=hid ((HS.out _ Qz.out).trans H7.out);clear x0 x1 x2 x3 x4;obtain⟨x1,x2⟩:=z7;have x0:=z0;have x3:=z3;have x4:=z4;clear z0 z3 z4;have TH:=hid (Nat.le_trans eF.out TG.out.size);subst hE;rcases yA with ⟨g1,g2⟩ | ⟨g1,g2,g3⟩ | ⟨g1,g2,g4,g3⟩
   ·subst g1 g2
    go_wp2_with (go_at_call 46;(with_reducible refine(YG.out _).mono ?_);rintro e1 w9 ⟨y,rfl,ht,hb⟩;have HT:=hid ht;have TI:=hid hb;clear ht hb)
    go_ret;exact⟨y,rfl,HT.out,TG.out.on TH.out TI.out⟩
   ·have g5:(sB==0)=false:=by simpa using g1
    subst g2 g3;clear g1;go_wp2;have Bi:=hid (TG.out.on TH.out (Below.refl _ w7).drew);go_region_held3 (fun u=>u.cell? ⟨w.heap.size,0,none⟩=some (.int .i64 ri)/\u.cell? ⟨w.heap.size,1,none⟩=some (.int .i64 fU)/\u.cell? ⟨w.heap.size,2,none⟩=some (.int .i64 rc)/\u.cell? ⟨w.heap.size,3,none⟩=some (.int .i64 rs)/\u.cell? ⟨w.heap.size,4,none⟩=some (.int .i64 sB)) (first | assumption | exact⟨x0,x1,x2,x3,x4⟩) (first
     |(go_at_call 50;(with_reducible refine(RQ.out _).mono ?_);rintro e1 w8 ⟨rfl,rfl⟩)
     |(go_at_call 49;(with_reducible refine(NC.out _ Bi.out.ed (Nat.le_trans eF.out Bi.out.size)).mono ?_);rintro e1 w8 ⟨rfl,hs⟩;have H8:=hid hs;have y8:_/\_/\_/\_/\_:=⟨bG hs (by have:=mR.out;omega) (af x0 (Below.refl _ _).drew),bG hs (by have:=mR.out;omega) (af x1 (Below.refl _ _).drew),bG hs (by have:=mR.out;omega) (af x2 (Below.refl _ _).drew),bG hs (by have:=mR.out;omega) (af x3 (Below.refl _ _).drew),bG hs (by have:=mR.out;omega) (af x4 (Below.refl _ _).drew)⟩;clear hs))
    go_wp2;go_ret;exact⟨_,rfl,oI _,Bi.out.trans H8.out⟩
   ·have g5:(sB==0)=false:=by simpa using g1
    have g6:(pf != 0)=true:=by simpa using g2
    subst g4 g3;clear g1 g2;go_wp2;have Bi:=hid (TG.out.on TH.out (Below.refl _ w7).drew);go_region_held3 (fun u=>u.cell? ⟨w.heap.size,0,none⟩=some (.int .i64 ri)/\u.cell? ⟨w.heap.size,1,none⟩=some (.int .i64 fU)/\u.cell? ⟨w.heap.size,2,none⟩=some (.int .i64 rc)/\u.cell? ⟨w.heap.size,3,none⟩=some (.int .i64 rs)/\u.cell? ⟨w.heap.size,4,none⟩=some (.int .i64 sB)) (first | assumption | exact⟨x0,x1,x2,x3,x4⟩) (first
     |(go_at_call 50;(with_reducible refine(RQ.out _).mono ?_);rintro e1 w8 ⟨rfl,rfl⟩)
     |(go_at_call 49;(with_reducible refine(NC.out _ Bi.out.ed (Nat.le_trans eF.out Bi.out.size)).mono ?_);rintro e1 w8 ⟨rfl,hs⟩;have H8:=hid hs;have y8:_/\_/\_/\_/\_:=⟨bG hs (by have:=mR.out;omega) (af x0 (Below.refl _ _).drew),bG hs (by have:=mR.out;omega) (af x1 (Below.refl _ _).drew),bG hs (by have:=mR.out;omega) (af x2 (Below.refl _ _).drew),bG hs (by have:=mR.out;omega) (af x3 (Below.refl _ _).drew),bG hs (by have:=mR.out;omega) (af x4 (Below.refl _ _).drew)⟩;clear hs))
    clear x0 x1 x2 x3 x4;obtain⟨x0,x1,x2,x3,x4⟩:=y8;have hb8:=hid (Nat.le_trans eF.out (Bi.out.trans H8.out).size);go_wp2_with (go_at_call 46;(with_reducible refine(Ym.out _).mono ?_);rintro e1 w9 ⟨y,rfl,ht,hb⟩;have HT:=hid ht;have TI:=hid hb;clear ht hb)
    go_ret;exact⟨y,rfl,HT.out,(Bi.out.trans H8.out).on hb8.out TI.out⟩
  ·have hz:((OF.length:Int)==0)=false:=by
    rw[beq_eq_false_iff_ne];intro h0;exact Wf (List.eq_nil_of_length_eq_zero (by omega))
   have TH:=hid (Nat.le_trans eF.out YJ.out.size);subst hE;rcases yA with ⟨g1,g2⟩ | ⟨g1,g2,g3⟩ | ⟨g1,g2,g4,g3⟩
   ·subst g1 g2
    go_wp2_with (go_at_call 46;(with_reducible refine(YG.out _).mono ?_);rintro e1 w9 ⟨y,rfl,ht,hb⟩;have HT:=hid ht;have TI:=hid hb;clear ht hb)
    go_ret;exact⟨y,rfl,HT.out,YJ.out.on TH.out TI.out⟩
   ·have g5:(sB==0)=false:=by simpa using g1
    subst g2 g3;clear g1;go_wp2;have Bi:=hid (YJ.out.on TH.out (Below.refl _ w6).drew);go_region_held3 (fun u=>u.cell? ⟨w.heap.size,0,none⟩=some (.int .i64 ri)/\u.cell? ⟨w.heap.size,1,none⟩=some (.int .i64 fU)/\u.cell? ⟨w.heap.size,2,none⟩=some (.int .i64 rc)/\u.cell? ⟨w.heap.size,3,none⟩=some (.int .i64 rs)/\u.cell? ⟨w.heap.size,4,none⟩=some (.int .i64 sB)) (first | assumption | exact⟨x0,x1,x2,x3,x4⟩) (first
     |(go_at_call 50;(with_reducible refine(RQ.out _).mono ?_);rintro e1 w8 ⟨rfl,rfl⟩)
     |(go_at_call 49;(with_reducible refine(NC.out _ Bi.out.ed (Nat.le_trans eF.out Bi.out.size)).mono ?_);rintro e1 w8 ⟨rfl,hs⟩;have H8:=hid hs;have y8:_/\_/\_/\_/\_:=⟨bG hs (by have:=mR.out;omega) (af x0 (Below.refl _ _).drew),bG hs (by have:=mR.out;omega) (af x1 (Below.refl _ _).drew),bG hs (by have:=mR.out;omega) (af x2 (Below.refl _ _).drew),bG hs (by have:=mR.out;omega) (af x3 (Below.refl _ _).drew),bG hs (by have:=mR.out;omega) (af x4 (Below.refl _ _).drew)⟩;clear hs))
    go_wp2;go_ret;exact⟨_,rfl,oI _,Bi.out.trans H8.out⟩
   ·have g5:(sB==0)=false:=by simpa using g1
    have g6:(pf != 0)=true:=by simpa using g2
    subst g4 g3;clear g1 g2;go_wp2;have Bi:=hid (YJ.out.on TH.out (Below.refl _ w6).drew);go_region_held3 (fun u=>u.cell? ⟨w.heap.size,0,none⟩=some (.int .i64 ri)/\u.cell? ⟨w.heap.size,1,none⟩=some (.int .i64 fU)/\u.cell? ⟨w.heap.size,2,none⟩=some (.int .i64 rc)/\u.cell? ⟨w.heap.size,3,none⟩=some (.int .i64 rs)/\u.cell? ⟨w.heap.size,4,none⟩=some (.int .i64 sB)) (first | assumption | exact⟨x0,x1,x2,x3,x4⟩) (first
     |(go_at_call 50;(with_reducible refine(RQ.out _).mono ?_);rintro e1 w8 ⟨rfl,rfl⟩)
     |(go_at_call 49;(with_reducible refine(NC.out _ Bi.out.ed (Nat.le_trans eF.out Bi.out.size)).mono ?_);rintro e1 w8 ⟨rfl,hs⟩;have H8:=hid hs;have y8:_/\_/\_/\_/\_:=⟨bG hs (by have:=mR.out;omega) (af x0 (Below.refl _ _).drew),bG hs (by have:=mR.out;omega) (af x1 (Below.refl _ _).drew),bG hs (by have:=mR.out;omega) (af x2 (Below.refl _ _).drew),bG hs (by have:=mR.out;omega) (af x3 (Below.refl _ _).drew),bG hs (by have:=mR.out;omega) (af x4 (Below.refl _ _).drew)⟩;clear hs))
    clear x0 x1 x2 x3 x4;obtain⟨x0,x1,x2,x3,x4⟩:=y8;have hb8:=hid (Nat.le_trans eF.out (Bi.out.trans H8.out).size);go_wp2_with (go_at_call 46;(with_reducible refine(Ym.out _).mono ?_);rintro e1 w9 ⟨y,rfl,ht,hb⟩;have HT:=hid ht;have TI:=hid hb;clear ht hb)
    go_ret;exact⟨y,rfl,HT.out,(Bi.out.trans H8.out).on hb8.out TI.out⟩
theorem ND {B v:Nat}{c:Cf}{e:Eg}{w:World}(h:Ed B w v c e)(hB:B<=w.heap.size)(hg:bu c e)(hf:e.L.length<=150/\e.Q.length<=150)(r:Rq)(now:Int) :
 Calls prog 14 #[.pointer (some ⟨v,0,none⟩),kY r,.int .i64 now] w fun e' w'=>∃y,e'=.returned y/\jt w' y (jF c e r now).2/\aM B w v c (jF c e r now).1 w':=by
 by_cases hb:E2 e.Q r
 ·have hE:jF c e r now=(e,no r.id 7):=by unfold jF;rw[if_pos hb]
  rw[hE];exact Nw h hB hf.2 r now hb
 ·exact JY h hB hg hf r now hb
theorem bD.aH {B:Nat}{w:World}{p:Option Addr}{zs:List (Int×Int)}(h:bD B w p zs):Zm.kH w p zs:=by
 rcases h with h | ⟨b,o,e,-,hc⟩
 ·exact .inl h
 ·exact .inr ⟨b,o,e,hc⟩
theorem Cl {B:Nat}{c:Cf}{w:World}{p:Option Addr}{k:Nat}(hB:B<=w.heap.size)(hr:bD B w p c.zs)(hl:c.zs.length<=100) :
 Calls prog 9 #[c.val p k] w fun e' w'=>Below w.heap.size w w'/\((c.bI≠0/\e'=.returned (.tuple #[.pointer none,.int .i64 c.bI]))∨(c.bI=0/\∃v,e'=.returned (.tuple #[.pointer (some ⟨v,0,none⟩),.int .i64 0])/\Ed B w' v c e0/\w.heap.size<=v)):=by
 have HC:=hid (fun u (hu:Below w.heap.size w u)=>Zm.qO c.n c.sk c.tl c.va c.lo c.he c.ke c.qu p c.zs k u hl (hr.on (hu.mono hB)).aH)
 have HR:=hid (fun u (hu:Below w.heap.size w u)=>hr.on (hu.mono hB))
 have vT:c.bI=Zm.bI c.n c.sk c.tl c.va c.lo c.he c.ke c.qu c.zs:=rfl;rw[<-vT] at HC;generalize c.bI=ck at *;clear vT;obtain⟨cn,Ty,ctl,Tz,TA,TB,TC,RP,zs⟩:=c;simp only[Cf.val] at *;have nt:=hid (cQ w (.cells #[.int .i64 cn,.int .i64 Ty,.int .i64 ctl,.int .i64 Tz,.int .i64 TA,.int .i64 TB,.int .i64 TC,.int .i64 RP,.slice p zs.length k] 24));have HK:=hid (heap_alloc_new w (.cells #[.int .i64 cn,.int .i64 Ty,.int .i64 ctl,.int .i64 Tz,.int .i64 TA,.int .i64 TB,.int .i64 TC,.int .i64 RP,.slice p zs.length k] 24));have aC:=w.heap.size.lt_succ_self;have h9:∀u:World,u.heap[w.heap.size]? =some (.cells #[.int .i64 cn,.int .i64 Ty,.int .i64 ctl,.int .i64 Tz,.int .i64 TA,.int .i64 TB,.int .i64 TC,.int .i64 RP,.slice p zs.length k] 24 (0,0)) ->
  u.cell? ⟨w.heap.size,0,none⟩=some (.int .i64 cn)/\u.cell? ⟨w.heap.size,1,none⟩=some (.int .i64 Ty)/\u.cell? ⟨w.heap.size,2,none⟩=some (.int .i64 ctl)/\u.cell? ⟨w.heap.size,3,none⟩=some (.int .i64 Tz)/\u.cell? ⟨w.heap.size,4,none⟩=some (.int .i64 TA)/\u.cell? ⟨w.heap.size,5,none⟩=some (.int .i64 TB) /\
  u.cell? ⟨w.heap.size,6,none⟩=some (.int .i64 TC)/\u.cell? ⟨w.heap.size,7,none⟩=some (.int .i64 RP)/\u.cell? ⟨w.heap.size,8,none⟩=some (.slice p zs.length k):=fun u hu =>
  ⟨by rw[cell_of_row u _ 0 _ _ (0,0) hu];rfl,by rw[cell_of_row u _ 1 _ _ (0,0) hu];rfl,by rw[cell_of_row u _ 2 _ _ (0,0) hu];rfl,by rw[cell_of_row u _ 3 _ _ (0,0) hu];rfl,by rw[cell_of_row u _ 4 _ _ (0,0) hu];rfl,by rw[cell_of_row u _ 5 _ _ (0,0) hu];rfl,by rw[cell_of_row u _ 6 _ _ (0,0) hu];rfl,by rw[cell_of_row u _ 7 _ _ (0,0) hu];rfl,by rw[cell_of_row u _ 8 _ _ (0,0) hu];rfl⟩
 have H9:=hid h9;clear hr h9;rcases Decidable.em (ck=0) with h0 | h0
 ·subst h0
  go_enter func9,ntmps9
  go_wp2_with (go_at_call 34;(with_reducible refine(HC.out _ nt.out).mono ?_);rintro e1 w1 ⟨rfl,hb⟩;have aO:=hid (nt.out.trans (hb.mono nt.out.size));have K1:=hid ((hb.block w.heap.size (ae HK.out)).trans HK.out);obtain⟨b0,b1,b2,b3,b4,b5,b6,b7,b8⟩:=H9.out _ K1.out;clear hb)
  refine bodyPost_ret (v:=.tuple #[.pointer (some ⟨w1.heap.size,0,none⟩),.int .i64 0]) (by simp[results,results9,go_sem]) rfl ?_
  have hz:=aO.out.size;have hba:Below w1.heap.size w1 (w1.alloc (.cells #[.int .i64 cn,.int .i64 Ty,.int .i64 ctl,.int .i64 Tz,.int .i64 TA,.int .i64 TB,.int .i64 TC,.int .i64 RP,.slice p zs.length k,.slice none 0 0,.int .i64 RP,.slice none 0 0,.slice none 0 0] 97)):=cQ w1 _;have hb2:=aO.out.trans (hba.mono hz);exact⟨hb2,.inr ⟨trivial,w1.heap.size,rfl,⟨Nat.le_trans hB hz,_,p,k,_,_,_,heap_alloc_new w1 _,⟨rfl,rfl,rfl,rfl,rfl,rfl,rfl,rfl,rfl⟩,HR.out _ hb2,rfl,World.ownsRow_nil _ _ _ _,rfl,rfl,Zp.Own.none _ _ _ _,rfl,Zp.Own.none _ _ _ _⟩,hz⟩⟩
 ·have h1:(ck != 0)=true:=by simpa using h0
  go_enter func9,ntmps9
  go_wp2_with (go_at_call 34;(with_reducible refine(HC.out _ nt.out).mono ?_);rintro e1 w1 ⟨rfl,hb⟩;have aO:=hid (nt.out.trans (hb.mono nt.out.size));clear hb)
  refine bodyPost_ret (v:=.tuple #[.pointer none,.int .i64 ck]) (by simp[results,results9,go_sem]) rfl ?_
  exact⟨aO.out,.inl ⟨h0,rfl⟩⟩
def Cm (a b:An):Bool:=a.id==b.id&&(a.gen==b.gen&&a.fX==b.fX)
theorem JZ {a b:An}:Cm a b=true↔a=b:=by
 obtain⟨a1,a2,a3⟩:=a;obtain⟨b1,b2,b3⟩:=b;simp[Cm]
def vU (x:An):Value:=.agg #[.int .i64 x.id,.int .i64 x.gen,.int .i64 x.fX]
theorem eq3 (a b:An)(w:World):(Op.equalIn 10000 60 (vU a) (vU b)).run prog w=.ok (Cm a b) w:=by
 obtain⟨a1,a2,a3⟩:=a;obtain⟨b1,b2,b3⟩:=b;unfold vU Cm;rw[run_equalIn_agg w 9999 _ _ _ (by kernel_rfl) (by kernel_rfl)]
 have e:∀(a b:Int) (w:World),(Op.equalIn 9999 3 (.int .i64 a) (.int .i64 b)).run prog w=.ok (a==b) w:=fun a b w=>run_equalIn_int w 9998 _ _ _ a b underlying3
 have e':∀(a b:Int) (w:World),(Op.equalIn 9999 58 (.int .i64 a) (.int .i64 b)).run prog w=.ok (a==b) w:=fun a b w=>run_equalIn_int w 9998 _ _ _ a b underlying58
 by_cases h1:a1=b1
 ·by_cases h2:a2=b2
  ·by_cases h3:a3=b3
   ·simp [Program.fieldsOf,underlying60,Op.eqFields,part,isAgg,run_underlying underlying3,run_underlying underlying58,e,e',h1,h2,h3]
   ·simp [Program.fieldsOf,underlying60,Op.eqFields,part,isAgg,run_underlying underlying3,run_underlying underlying58,e,e',h1,h2,h3]
  ·simp [Program.fieldsOf,underlying60,Op.eqFields,part,isAgg,run_underlying underlying3,run_underlying underlying58,e,h1,h2]
 ·simp [Program.fieldsOf,underlying60,Op.eqFields,part,isAgg,run_underlying underlying3,run_underlying underlying58,e,h1]
theorem aa2 (a b:An)(w:World):(binOp .neq 60 (vU a) (vU b)).run prog w=.ok (.bool (!Cm a b)) w:=by
 have:=eq3 a b w;unfold vU at this ⊢;rw[run_neq_struct,this];rfl
theorem iJ {l:List An}{p q:Option Addr}{c d:Nat}{w:World}(h:aL iH w p l)(h':aL iH w q l)(hl:l.length<=100000) :
 Calls prog 12 #[.slice p l.length c,.slice q l.length d] w fun e w'=>e=.returned (.bool true)/\Below w.heap.size w w':=by
 have HB:=hid (Below.refl w.heap.size w);have HL:=hid h;have HM:=hid h';clear h h';have hne:((l.length:Int) != (l.length:Int))=false:=by simp
 go_enter func12,ntmps12
 go_wp2;go_loopw [5] (fun i wr=>∃j:Nat,j<=l.length/\i=.int .i64 (j:Int)/\Hid (Below w.heap.size w wr)) (fun i _=>l.length-(intOf i).toNat)
 case atStart=>exact ⟨0,by omega,rfl,HB⟩
 case round =>
  obtain⟨j,hj,rfl,aW⟩:=hrel;by_cases aC:j<l.length
  ·obtain ⟨b,o,rfl,ha⟩:=Nl (HL.out.below aW.out) aC
   obtain⟨k0,k1,k2⟩:=at3 ha;obtain⟨b',o',rfl,ha'⟩:=Nl (HM.out.below aW.out) aC;obtain⟨x0,x1,x2⟩:=at3 ha';have bE:(j:Int)<(l.length:Int):=by omega
   have Pv:=fun i=>aa2 (l.getD j az) (l.getD j az) (wr.drewN i)
   rw[JZ.2 rfl] at Pv;clear HL HM ha ha';generalize l.getD j az=x at *;obtain⟨xi,xg,xw⟩:=x;simp only[vU,Bool.not_true] at Pv k0 k1 k2 x0 x1 x2;go_wp2;go_quiet (fail)
   go_wp2;go_roundw
   case rel=>exact ⟨j+1,by omega,by go_num,hid (aW.out.trans ((ag _ _).mono aW.out.size))⟩
   case measure=>simp only[intOf];omega
  ·have bE:¬(j:Int)<(l.length:Int):=by omega
   clear HL HM;go_wp2;go_ret;exact⟨rfl,aW.out⟩
end Zy
namespace Zn
open Zx (Rw Tb aq ak)
open Zv (dK ar)
open Zq (cX ae)
open Zy (Cf Eg Ed aM)
section
variable {w w':World}{B v:Nat}{c:Cf}{e e':Eg}
theorem pO {T:TypeId}{n k:Nat}{y:Value}{xs:List Value}(h:w.ownsRow B T k y n xs):∃p m d,y=.slice p m d:=by
 rcases h.2 with ⟨rfl,-⟩ | ⟨g,cap,cur,rfl,-⟩
 ·exact ⟨_,_,_,rfl⟩
 ·exact ⟨_,_,_,rfl⟩
theorem Fb (h:Ed B w v c e):∀i,i=8∨i=9∨i=11∨i=12->∃p m d,w.cell? ⟨v,i,none⟩=some (.slice p m d):=by
 obtain⟨h0,cs,p,k,yL,yQ,yD,h1,h2,h3,h4,h5,h6,h7,h8,h9,h10⟩:=h;have hc:∀i u,cs[i]? =some u->w.cell? ⟨v,i,none⟩=some u:=fun i u hu=>by rw[cell_of_row w v i _ _ (0,0) h1,hu]
 obtain⟨p1,m1,d1,e1⟩:=pO h5;obtain⟨p2,m2,d2,e2⟩:=pO h8;obtain⟨p3,m3,d3,e3⟩:=pO h10;rintro i (rfl | rfl | rfl | rfl)
 ·exact ⟨_,_,_,hc _ _ h2.c8⟩
 ·exact ⟨p1,m1,d1,by rw[hc _ _ h4,e1]⟩
 ·exact ⟨p2,m2,d2,by rw[hc _ _ h7,e2]⟩
 ·exact ⟨p3,m3,d3,by rw[hc _ _ h9,e3]⟩
theorem sD (h:Ed B w v c e){i:Nat}(hi:i=8∨i=9∨i=11∨i=12){k:IntKind}{x:Int}(hx:w.cell? ⟨v,i,none⟩=some (.int k x)):False:=by
 obtain⟨p,m,d,e1⟩:=Fb h i hi;rw[e1] at hx;cases hx
theorem cD (h:Ed B w v c e)(hs:aM B w v c e' w'){b o:Nat}{k:IntKind}{x:Int}(hx:w.cell? ⟨b,o,none⟩=some (.int k x)):w'.cell? ⟨b,o,none⟩=some (.int k x):=by
 by_cases hb:b=v
 ·subst hb
  rw[hs.cells o (fun e=>sD h (.inr (.inl e)) hx) (fun e=>sD h (.inr (.inr (.inl e))) hx) (fun e=>sD h (.inr (.inr (.inr e))) hx)]
  exact hx
 ·exact (World.cell?_of_block (a:=⟨b,o,none⟩) (hs.only b hb (World.block_lt_of_cell? _ _ hx))).trans hx
theorem tN (h:Ed B w v c e)(hs:aM B w v c e' w'){b o:Nat}{k k':IntKind}{x x':Int}{y:Value}(h1:w.cell? ⟨b,o+1,none⟩=some (.int k x))(h2:w.cell? ⟨b,o+2,none⟩=some (.int k' x'))(h3:w.cell? ⟨b,o+3,none⟩=some y):w'.cell? ⟨b,o+3,none⟩=some y:=by
 by_cases hb:b=v
 ·subst hb
  rw[hs.cells (o+3) (fun e=>sD h (.inl (show o+2=8 by omega)) h2) (fun e=>sD h (.inr (.inl (show o+1=9 by omega))) h1) (fun e=>sD h (.inr (.inr (.inl (show o+2=11 by omega)))) h2)]
  exact h3
 ·exact (World.cell?_of_block (a:=⟨b,o+3,none⟩) (hs.only b hb (World.block_lt_of_cell? _ _ h3))).trans h3
theorem yB (h:Ed B w v c e)(hs:aM B w v c e' w'){p:Option Addr}{l:List Int}(hl:cX w p l):cX w' p l:=by
 rcases hl with hl | ⟨b,o,e1,hc⟩
 ·exact .inl hl
 ·exact .inr ⟨b,o,e1,fun j hj=>cD h hs (hc j hj)⟩
theorem Cn (h:Ed B w v c e)(hs:aM B w v c e' w'){p:Option Addr}{l:List (Int×Int)}(hl:ak w p l):ak w' p l:=by
 rcases hl with hl | ⟨b,o,e1,hc⟩
 ·exact .inl hl
 ·exact .inr ⟨b,o,e1,fun j hj=>⟨cD h hs (hc j hj).1,cD h hs (hc j hj).2⟩⟩
theorem sF (h:Ed B w v c e)(hs:aM B w v c e' w'){p:Option Addr}{l:List Rw}(hl:ar w p l):ar w' p l:=by
 rcases hl with hl | ⟨b,o,e1,hc⟩
 ·exact .inl hl
 ·refine .inr ⟨b,o,e1,fun j hj=> ?_⟩
  obtain⟨k0,k1,k2,q,d,k3,k4⟩:=hc j hj;exact⟨cD h hs k0,cD h hs k1,cD h hs k2,q,d,tN h hs k1 k2 k3,Cn h hs k4⟩
end
section
variable {u u':World}{b m1 k1 m2 k2:Nat}{g hp st:Int}{q1 q2:Option Addr}{T:TypeId}{y1 y:Value}(hb:u.heap[b]? =some (.cells #[.int .i64 g,.int .i64 hp,.slice q1 m1 k1,.int .i64 st,.slice q2 m2 k2] T (0,0)))(hb':u'.heap[b]? =some (.cells #[.int .i64 g,.int .i64 hp,y1,.int .i64 st,y] T (0,0)))(hk:∀b',b'≠b->u'.heap[b']? =u.heap[b']?)
include hb hb' hk
theorem eK {b' o:Nat}{k:IntKind}{x:Int}(hx:u.cell? ⟨b',o,none⟩=some (.int k x)):u'.cell? ⟨b',o,none⟩=some (.int k x):=by
 by_cases hne:b'=b
 ·subst hne
  rw[cell_of_row _ b' _ _ _ (0,0) hb] at hx;rw[cell_of_row _ b' _ _ _ (0,0) hb']
  match o,hx with
  | 0,hx=>exact hx
  | 1,hx=>exact hx
  | 2,hx=>simp at hx
  | 3,hx=>exact hx
  | 4,hx=>simp at hx
  | n+5,hx=>simp at hx
 ·exact (World.cell?_of_block (a:=⟨b',o,none⟩) (hk b' hne)).trans hx
theorem yC {p:Option Addr}{l:List Rw}(hl:ar u p l):ar u' p l:=by
 rcases hl with hl | ⟨b',o,e1,hc⟩
 ·exact .inl hl
 ·refine .inr ⟨b',o,e1,fun j hj=> ?_⟩
  obtain⟨k0,k1,k2,q,d,k3,k4⟩:=hc j hj;have hne:b'≠b:=by
   rintro rfl;rw[cell_of_row _ b' _ _ _ (0,0) hb] at k0 k1 k2;generalize o+j*4=i at k0 k1 k2
   match i,k0,k1,k2 with
   | 0,k0,k1,k2=>simp at k2
   | 1,k0,k1,k2=>simp at k1
   | 2,k0,k1,k2=>simp at k0
   | 3,k0,k1,k2=>simp at k1
   | 4,k0,k1,k2=>simp at k0
   | n+5,k0,k1,k2=>simp at k0
  have hh:∀i v,u.cell? ⟨b',i,none⟩=some v->u'.cell? ⟨b',i,none⟩=some v:=fun i v hv=>(World.cell?_of_block (a:=⟨b',i,none⟩) (hk b' hne)).trans hv
  refine⟨hh _ _ k0,hh _ _ k1,hh _ _ k2,q,d,hh _ _ k3,?_⟩;rcases k4 with k4 | ⟨b2,o2,e2,h2⟩
  ·exact .inl k4
  ·exact .inr ⟨b2,o2,e2,fun i hi=>⟨eK hb hb' hk (h2 i hi).1,eK hb hb' hk (h2 i hi).2⟩⟩
theorem yE {p:Option Addr}{l:List Int}(hl:cX u p l):cX u' p l:=by
 rcases hl with hl | ⟨b',o,e1,hc⟩
 ·exact .inl hl
 ·exact .inr ⟨b',o,e1,fun j hj=>eK hb hb' hk (hc j hj)⟩
end
section
variable {u u':World}{b m1 k1 m2 k2:Nat}{g hp st:Int}{q1 q2:Option Addr}{T:TypeId}{y1 y:Value}(hb:u.heap[b]? =some (.cells #[.int .i64 g,.int .i64 hp,.slice q1 m1 k1,.int .i64 st,.slice q2 m2 k2] T (0,0)))(hb':u'.heap[b]? =some (.cells #[.int .i64 g,.int .i64 hp,y1,.int .i64 st,y] T (0,0)))(hk:∀b',b'≠b->u'.heap[b']? =u.heap[b']?)
include hb hb' hk
theorem vV {b' o:Nat}{k k':IntKind}{x x':Int}{z:Value}(h1:u.cell? ⟨b',o+1,none⟩=some (.int k x))(h2:u.cell? ⟨b',o+2,none⟩=some (.int k' x'))(h3:u.cell? ⟨b',o+3,none⟩=some z):u'.cell? ⟨b',o+3,none⟩=some z:=by
 by_cases hne:b'=b
 ·subst hne
  rw[cell_of_row _ b' _ _ _ (0,0) hb] at h1 h2
  match o,h1,h2 with
  | 0,h1,h2=>simp at h2
  | 1,h1,h2=>simp at h1
  | 2,h1,h2=>simp at h2
  | n+3,h1,h2=>simp at h2
 ·exact (World.cell?_of_block (a:=⟨b',o+3,none⟩) (hk b' hne)).trans h3
end
end Zn
end Go.Proofs.YtbgdlokegibkmaaGreat
