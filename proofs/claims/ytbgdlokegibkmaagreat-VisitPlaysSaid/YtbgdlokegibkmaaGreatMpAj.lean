/-
  A part of the proof of VisitPlays.
-/
import Derived.Deep.RegionHeld3
import Derived.Test.YtbgdlokegibkmaaGreatMpAi
set_option maxRecDepth 100000
set_option maxHeartbeats 8000000
namespace Go.Proofs.YtbgdlokegibkmaaGreat
open Go.RowKit
open Tryz
open Lib (hid)
namespace Zy
open Zq (ae aj ai)
open Zp (iE aL At bS eu fN af aD aA ag)
open Zw (Lz bH)
open Zu (It take)
open Zz (Nt)
theorem jR {c:Cf}{e:Eg}(h:bu c e)(k x now:Int):bu c ⟨(bH e.L k x now).1,e.Q,e.D⟩:=⟨Zw.jR h.l k x now,h.q,h.nB⟩
theorem Nq (Q:List It)(id:Int):∀x∈(take Q id).1,x∈Q:=by
 unfold take;split
 ·exact fun x hx=>hx
 ·exact fun x hx=>(List.eraseIdx_sublist _ _).subset hx
theorem oh {c:Cf}{e:Eg}(h:bu c e)(id:Int):bu c ⟨e.L,(take e.Q id).1,e.D⟩:=⟨h.l,Zu.oh h.q id,fun x hx=>h.nB x (Nq _ _ x hx)⟩
theorem kM {c:Cf}(key now:Int):∀(l:List It){e:Eg},bu c e->bu c (serves key now l e).1
 | [],_,h=>h
 | x :: l,e,h=>by
   simp only[serves];split
   ·exact kM key now l (oh (jR h key x.cost now) x.id)
   ·exact h
theorem l6 (key now:Int):∀(l:List It)(e:Eg),(serves key now l e).1.L.length=e.L.length/\(serves key now l e).1.Q.length<=e.Q.length/\(serves key now l e).1.D=e.D
 | [],e=>⟨rfl,Nat.le_refl _,rfl⟩
 | x :: l,e=>by
   simp only[serves];split
   ·obtain ⟨h1,h2,h3⟩:=l6 key now l ⟨(bH e.L key x.cost now).1,(take e.Q x.id).1,e.D⟩
    refine⟨h1.trans (Zw.xQ _ _ _ _),Nat.le_trans h2 ?_,h3⟩
    show(take e.Q x.id).1.length<=e.Q.length
    unfold take;split
    ·exact Nat.le_refl _
    ·exact (List.eraseIdx_sublist _ _).length_le
   ·exact ⟨rfl,Nat.le_refl _,rfl⟩
structure Few (e:Eg):Prop where
 l:e.L.length<=200
 q:e.Q.length<=200
 d:e.D.length<=900
theorem Ce {w w':World}{B v C:Nat}{c:Cf}{e e':Eg}{y:Value}{l:List It}(h:Zp.Own Zu.aN 113 C w y l)(hv:Ed B w v c e)(hs:aM B w v c e' w'):Zp.Own Zu.aN 113 C w' y l:=by
 obtain⟨_,cs,p,k,yL,yQ,yD,h1,_⟩:=hv;exact gU h h1 (by decide) hs.only
theorem nE {w w':World}{B v C:Nat}{c:Cf}{e e':Eg}{y:Value}{l:List An}(h:Zp.Own iH 60 C w y l)(hv:Ed B w v c e)(hs:aM B w v c e' w'):Zp.Own iH 60 C w' y l:=by
 obtain⟨_,cs,p,k,yL,yQ,yD,h1,_⟩:=hv;exact gU h h1 (by decide) hs.only
theorem Il {α:Type}{E:iE α}{T:TypeId}{B n c:Nat}{w:World}{p:Option Addr}{l:List α}(h:Zp.Own E T B w (.slice p n c) l)(hl:0<l.length) :
 ∃g cs,p=some ⟨g,0,none⟩/\w.heap[g]? =some (.cells cs T (0,0))/\∀j,j<l.length->At E w g (j*E.n) (l.getD j E.z):=by
 obtain⟨p',c',e,eM⟩:=h.gi;simp only[Value.slice.injEq] at e;obtain⟨rfl,-,-⟩:=e;rcases h.2 with ⟨e,h0⟩ | ⟨g,cap,cur,e,h1,h2,h3⟩
 ·omega
 ·simp only[Value.slice.injEq] at e
  obtain⟨rfl,-,-⟩:=e;refine⟨g,_,rfl,h2,fun j hj=> ?_⟩
  obtain⟨b,o,e,ha⟩:=Zp.bj eM hj;simp only[Option.some.injEq,Addr.mk.injEq,and_true] at e;obtain⟨rfl,rfl⟩:=e;rwa [Nat.zero_add] at ha
theorem Im {α:Type}{E:iE α}{T:TypeId}(hT:T≠97){w w':World}{B v g o:Nat}{c:Cf}{e e':Eg}{cs:Array Value}{x:α}(hb:w.heap[g]? =some (.cells cs T (0,0)))(ha:At E w g o x)(hv:Ed B w v c e)(hs:aM B w v c e' w'):At E w' g o x:=by
 obtain⟨_,cs0,p,k,yL,yQ,yD,h1,_⟩:=hv;refine fun k u hu=>(World.cell?_of_block (hs.only g ?_ (ae hb))).trans (ha k u hu)
 rintro rfl;rw[h1] at hb;simp only[Option.some.injEq,Obj.cells.injEq] at hb;exact hT hb.2.1.symm
theorem qT {L:List Lz}{k x now:Int}(h:(bH L k x now).2.2=false):(bH L k x now).1=L:=by
 unfold bH at h ⊢;split
 ·rfl
 ·rename_i hn
  rw[if_neg hn] at h;cases h
theorem yx {w:World}{B v:Nat}{c:Cf}{e:Eg}(h:Ed B w v c e)(hB:B<=w.heap.size)(hg:bu c e)(hf:e.L.length<=1000)(key cost now:Int) :
 Calls prog 48 #[.pointer (some ⟨v,9,none⟩),.int .i64 key,.int .i64 cost,.int .i64 now] w fun e' w'=>e'=.returned (.tuple #[.int .i64 (bH e.L key cost now).2.1,.bool (bH e.L key cost now).2.2])/\aM B w v c ⟨(bH e.L key cost now).1,e.Q,e.D⟩ w' :=
 (Zl.EB h.wl hB hg.l hf key cost now).mono fun _ _ ⟨he,hs⟩=>⟨he,h.zZ hs⟩
theorem Cg {w:World}{B v:Nat}{c:Cf}{e:Eg}(h:Ed B w v c e)(hB:B<=w.heap.size)(hf:e.Q.length<=1000)(id:Int) :
 Calls prog 123 #[.pointer (some ⟨v,10,none⟩),.int .i64 id] w fun e' w'=>e'=.returned (.tuple #[Zu.val (take e.Q id).2.1,.bool (take e.Q id).2.2])/\aM B w v c ⟨e.L,(take e.Q id).1,e.D⟩ w' :=
 (Zt.Jg h.qu hB hf id).mono fun _ _ ⟨he,hs⟩=>⟨he,h.sy hs⟩
theorem E5 {B v:Nat}{c:Cf}{e:Eg}{w:World}(h:Ed B w v c e)(hB:B<=w.heap.size)(hg:bu c e)(hf:Few e)(key now:Int) :
 Calls prog 126 #[.pointer (some ⟨v,0,none⟩),.int .i64 key,.int .i64 now] w fun e' w'=>∃y,e'=.returned y/\jt w' y (mI e key now).2/\aM B w v c (mI e key now).1 w':=by
 have eF:=hid hB;have HV:=hid h;have c0:=Zt.zL h.qu (by have:=hf.q;omega) key
 have aT:=Zu.lR e.Q key;have Tt:=hf.q;have SV:=hid (show mI e key now=serves key now (Zu.of e.Q key) e from rfl)
 generalize mI e key now=R at *;generalize Zu.of e.Q key=l at *;have S0:=hid (show serves key now (l.take 0) e=(e,[]) from rfl)
 have SS:=hid (fun(j:Nat) (hj:j<l.length)=>show serves key now (l.take (j+1)) e=_ from by rw[aA Zu.z hj,nC])
 have ST:=hid (fun(j:Nat) (hj:j<l.length) (hs:(serves key now (l.take (j+1)) e).2.length<(l.take (j+1)).length)=>show serves key now l e=serves key now (l.take (j+1)) e from by
  have:=nD key now (l.take (j+1)) (l.drop (j+1)) e hs;rwa [List.take_append_drop] at this)
 have SL:=hid (show serves key now l e=serves key now (l.take l.length) e by rw[List.take_length])
 have SG:=hid (fun j=>kM key now (l.take j) hg)
 have SF:=hid (fun j=>l6 key now (l.take j) e)
 have HF:=hid hf;generalize Qr:(fun j=>serves key now (l.take j) e)=SE
 have Nr:∀j,serves key now (l.take j) e=SE j:=fun j=>by rw[<-Qr]
 simp only[Nr] at S0 SS ST SL SG SF;clear h hg hf hB Qr Nr;go_enter func126,ntmps126
 go_wp2_with (go_at_call 47;(with_reducible refine c0.mono ?_);rintro e1 w1 ⟨p,d,rfl,ho,hb⟩;have HO:=hid ho;have aO:=hid hb;clear ho hb c0)
 have Qs:=hid (HV.out.below eF.out aO.out);have bJ:=hid (Nat.le_trans eF.out aO.out.size);have Eh:=hid (aM.same HV.out eF.out aO.out);go_loopw [7,9] (fun y i wr=>∃(j:Nat) (q:Option Addr) (d2:Nat),j<=l.length/\i=.int .i64 (j:Int)/\y=.slice q j d2/\Hid (Zp.Own iH 60 w1.heap.size wr y (SE j).2)/\Hid ((SE j).2.length=j)/\Hid (aM B w1 v c (SE j).1 wr)) (fun _ i _=>l.length-(intOf i).toNat)
 case atStart=>exact ⟨0,none,0,by omega,rfl,rfl,by rw[S0.out];exact hid (Zp.Own.none _ _ _ _),by rw[S0.out];exact hid rfl,by rw[S0.out];exact hid (aM.same Qs.out bJ.out (Below.refl _ _))⟩
 case round =>
  obtain⟨j,q,d2,hj,rfl,rfl,ax,hn,hst⟩:=hrel;by_cases aC:j<l.length
  ·have bE:(j:Int)<(l.length:Int):=by omega
   obtain⟨g,cs,rfl,hblk,Ns⟩:=Il HO.out (by omega)
   have uE:=hid (fun u e' (hu:aM B w1 v c e' u)=>Zu.xu (Im (by decide) hblk (Ns j aC) Qs.out hu))
   obtain⟨k0,k1,k2,k3,k4⟩:=uE.out _ _ hst.out;have Bh:=hid (SS.out j aC);have HST:=hid (ST.out j aC);have hgd:=SG.out j;obtain⟨f1,f2,f3⟩:=SF.out j;have Ee:(SE j).1.L.length<=1000:=by have:=HF.out.l;omega
   have Tu:(SE j).1.Q.length<=1000:=by have:=HF.out.q;omega
   have U7:=hid (Nat.le_trans bJ.out hst.out.size);have R1:=hid (yx (aM.on hst.out U7.out (Below.refl _ _).drew).ed (Nat.le_trans U7.out (Below.refl wr.heap.size wr).drew.size) hgd Ee key (l.getD j Zu.z).cost now);have Qt:=hid (aM.on hst.out U7.out (Below.refl _ wr).drew);have hod:=hid (nE ax.out hst.out.ed (aM.same hst.out.ed U7.out (Below.refl _ wr).drew));have R2:=hid (fun u (hu:Ed B u v c ⟨(bH (SE j).1.L key (l.getD j Zu.z).cost now).1,(SE j).1.Q,(SE j).1.D⟩) (hb:B<=u.heap.size)=>Cg hu hb Tu (l.getD j Zu.z).id)
   rw[if_pos (by rw[hn.out,List.length_take];omega)] at Bh
   simp only[show Zu.aN.n=5 from rfl,show Zu.aN.z=Zu.z from rfl] at k0 k1 k2 k3 k4 uE
   clear Ns hblk SS ST SG SF Ee Tu f1 f2 f3 hgd HF S0 SL;generalize l.getD j Zu.z=x at *;obtain⟨xi,xk,xc,xs,xt⟩:=x;simp only at *;have Tv:=fun h=>qT (L:=(SE j).1.L) (k:=key) (x:=xc) (now:=now) h
   have Tw:=hid (show(l.take (j+1)).length=j+1 by simp;omega)
   generalize Jz:SE j=S at *;obtain⟨⟨L,Q,D⟩,jf⟩:=S;simp only at *;generalize bH L key xc now=SP at *;obtain⟨L',gen,ok⟩:=SP;simp only at *;cases ok
   ·have HR:=hid (show R=(⟨L,Q,D⟩,jf) by
     have e1:=Bh.out;rw[if_neg (by simp)] at e1
     rw[SV.out,HST.out (by rw[e1,Tw.out];simp only;have:=hn.out;omega),e1])
    obtain rfl:=Tv rfl;clear Bh HST SV Tv Jz;go_wp2;go_region_held3 (fun u=>u.cell? ⟨g,j*5+2,none⟩=some (.int .i64 xc)) (first | assumption) (first
     |(go_at_call 48;(with_reducible refine R1.out.mono ?_);rintro e1 w3 ⟨rfl,h3⟩;have H3:=hid h3;have y3:=(uE.out _ _ (Qt.out.trans h3)).2.2.1;clear h3 R1))
    go_wp2;refine bodyPost_ret (v:=.slice q j d2) (by simp[results,results126,go_sem]) rfl ?_
    refine⟨_,rfl,?_,?_⟩
    ·rw [HR.out]
     have:=qP (nE hod.out Qt.out.ed H3.out);exact this
    ·rw [HR.out]
     exact Eh.out.trans (Qt.out.trans H3.out)
   ·have HE:=hid (show SE (j+1)=(⟨L',(take Q xi).1,D⟩,jf++[⟨xi,gen,0⟩]) by have e1:=Bh.out;rwa [if_pos (by simp)] at e1)
    clear Bh HST SV Tv Jz Tw;go_wp2;go_region_held3 (fun u=>u.cell? ⟨g,j*5+2,none⟩=some (.int .i64 xc)) (first | assumption) (first
     |(go_at_call 48;(with_reducible refine R1.out.mono ?_);rintro e1 w3 ⟨rfl,h3⟩;have H3:=hid h3;have T3:=hid (Qt.out.trans h3);have jK:=hid (nE hod.out Qt.out.ed h3);have y3:=(uE.out _ _ T3.out).2.2.1;clear h3 R1))
    clear k0 k1 k2 k3 k4;obtain⟨k0,k1,k2,k3,k4⟩:=uE.out _ _ T3.out;have Tx:=hid (Nat.le_trans bJ.out T3.out.size);go_wp2;have Wb:=hid (aM.same H3.out.ed Tx.out (Below.refl _ w3).drew);have aaX:=hid (nE jK.out H3.out.ed Wb.out);go_region_held3 (fun u=>u.cell? ⟨g,j*5,none⟩=some (.int .i64 xi)) (first | assumption) (first
     |(go_at_call 123;(with_reducible refine(R2.out _ Wb.out.ed (Nat.le_trans Tx.out Wb.out.size)).mono ?_);rintro e1 w4 ⟨rfl,h4⟩;have T4:=hid (T3.out.trans (Wb.out.trans h4));have xl:=hid (nE aaX.out Wb.out.ed h4);have y4:=(uE.out _ _ T4.out).1;clear h4 R2))
    clear k0 k1 k2 k3 k4;obtain⟨k0,k1,k2,k3,k4⟩:=uE.out _ _ T4.out;have hB4:=hid T4.out.size;go_wp2_with (at_builtin;refine Ik yq rfl _ _ rfl w1.heap.size w4 (.slice q j d2) rfl jf j hn.out xl.out hB4.out (cQ _ _) w4.heap.size ⟨xi,gen,0⟩ rfl (heap_alloc_new _ _) (by omega) ?_;intro p6 c6 w6 R6 K6 B6)
    go_roundw
    case rel=>exact ⟨j+1,p6,c6,by omega,by go_num,rfl,by rw[HE.out];exact R6,by rw[HE.out];exact hid (by simp[hn.out]),by rw[HE.out];exact hid (aM.kept (aM.on T4.out (Nat.le_trans bJ.out hB4.out) (cQ w4 _)) K6 B6 bJ.out)⟩
    case measure=>simp only[intOf];omega
  ·have bE:¬(j:Int)<(l.length:Int):=by omega
   obtain rfl:j=l.length:=by omega
   have HR:=hid (show R=SE l.length by rw[SV.out,SL.out])
   have HT:=hid (show jt wr (.slice q l.length d2) R.2 by rw[HR.out];exact qP ax.out)
   have HE:=hid (show aM B w v c R.1 wr by rw[HR.out];exact Eh.out.trans hst.out)
   clear SV SL SS ST SG SF S0 ax hn hst HR;go_wp2;refine bodyPost_ret (v:=.slice q l.length d2) (by simp[results,results126,go_sem]) rfl ?_
   exact⟨_,rfl,HT.out,HE.out⟩
open Zw (Lz bH bC)
open Zp (aA)
def kN (r:Rq):Prop:=bC r.id/\bC r.key/\bC r.cost/\bC r.bU/\bC r.bR
def zr:Rq:=⟨0,0,0,0,0⟩
theorem Ae (l:List Int):bC (Zr.add l):=by
 have:=Zr.jN l;have:=Zr.jm l;unfold bC;omega
theorem yy {r:Rq}(h:kN r)(now:Int):Zu.kV (aN r now):=⟨h.1,h.2.1,h.2.2.1,h.2.2.2.1,Ae _⟩
theorem Qv {aw:Int}{l:List It}{x y:It}(h:y∈(Zu.put aw l x).1):y∈l∨y=x:=by
 unfold Zu.put at h;split at h
 ·exact .inl h
 ·split at h
  ·exact .inl h
  ·split at h
   ·exact .inl h
   ·simpa using h
theorem JT {c:Cf}{e:Eg}(h:bu c e){r:Rq}(hr:kN r)(now:Int):bu c (bR c e r now).1:=by
 unfold bR;split
 ·exact h
 ·split
  ·exact ⟨h.l,Zu.jQ h.q (yy hr now),fun x hx=>(Qv hx).elim (h.nB x) (fun e=>by rw[e];exact Zr.jm _)⟩
  ·exact h
theorem Nu {c:Cf}{e:Eg}(h:bu c e){r:Rq}(hr:kN r)(now:Int):bu c (jF c e r now).1:=by
 unfold jF;split
 ·exact h
 ·split
  ·exact h
  ·split
   ·exact h
   ·split
    ·exact h
    ·split
     ·exact jR h _ _ _
     ·exact JT h hr now
theorem ll {c:Cf}{e:Eg}(h:bu c e){Q:List It}(s:List.Sublist Q e.Q):bu c ⟨e.L,Q,e.D⟩:=⟨h.l,Zu.ll h.q s,fun x hx=>h.nB x (s.subset hx)⟩
theorem Af (Q:List It)(id:Int):List.Sublist (take Q id).1 Q:=by
 unfold take;split
 ·exact List.Sublist.refl _
 ·exact List.eraseIdx_sublist _ _
theorem ju:∀(l Q:List It),List.Sublist (dt Q l) Q
 | [],_=>List.Sublist.refl _
 | x :: l,Q=>(ju l _).trans (Af Q x.id)
theorem uI {c:Cf}(h:0<=c.qu):bu c e0:=⟨Zw.vd,Zu.vd h,fun x hx=>by cases hx⟩
theorem E8 {c:Cf}{e:Eg}(h:bu c e){x:Lz}(hx:Zw.kV x)(now:Int):bu c (aQ e x now).1:=by
 unfold aQ;split
 ·exact kM _ _ _ ⟨Zw.jQ h.l hx,h.q,h.nB⟩
 ·exact h
theorem Io (c:Cf)(e:Eg)(r:Rq)(now:Int):(jF c e r now).1.L.length=e.L.length/\(jF c e r now).1.D=e.D:=by
 unfold jF bR;split
 ·exact ⟨rfl,rfl⟩
 ·split
  ·exact ⟨rfl,rfl⟩
  ·split
   ·exact ⟨rfl,rfl⟩
   ·split
    ·exact ⟨rfl,rfl⟩
    ·split
     ·exact ⟨Zw.xQ _ _ _ _,rfl⟩
     ·split
      ·exact ⟨rfl,rfl⟩
      ·split
       ·exact ⟨rfl,rfl⟩
       ·exact ⟨rfl,rfl⟩
def st (c:Cf)(l:List Ac)(j:Nat):Eg:=(l.take j).foldl (fun s a=>(RO c s a).1) e0
theorem vQ {c:Cf}(h:c.bI=0):0<=c.qu/\c.qu<=16:=by
 unfold Cf.bI Zm.bI at h;split at h
 ·exact absurd h (by decide)
 ·split at h
  ·exact absurd h (by decide)
  ·split at h
   ·exact absurd h (by decide)
   ·rename_i hr
    simp only[Zm.kJ,Zm.aB,Bool.not_eq_false,Bool.and_eq_true,decide_eq_true_eq] at hr;exact hr.2
end Zy
end Go.Proofs.YtbgdlokegibkmaaGreat
