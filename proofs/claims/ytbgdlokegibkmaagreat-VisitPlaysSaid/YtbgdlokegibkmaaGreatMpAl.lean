/-
  A part of the proof of VisitPlays.
-/
import Derived.Test.YtbgdlokegibkmaaGreatMpAi
import Derived.Test.YtbgdlokegibkmaaGreatMpAd
import Derived.Test.YtbgdlokegibkmaaGreatMpAh
set_option maxRecDepth 100000
set_option maxHeartbeats 4000000
namespace Go.Proofs.YtbgdlokegibkmaaGreat
open Go.RowKit
open Tryz
open Lib (hid)
namespace Zy
open Zq (ae aj ai)
open Zp (iE aL At bS eu fN af aD aA ag bX)
theorem J0 (w:World)(o:Obj):Below w.heap.size w (w.alloc o):=(Below.refl _ w).alloc (Nat.le_refl _) o
def Sl (w:World)(l:List Int)(v:Value):Prop:=∃p n c,v=.slice p n c/\l.length=n/\n<=c/\aL bX w p l
theorem Sl.on {w w':World}{l:List Int}{v:Value}(h:Sl w l v)(hb:Below w.heap.size w w'):Sl w' l v:=by
 obtain⟨p,n,c,e,h1,h2,h3⟩:=h;exact⟨p,n,c,e,h1,h2,h3.below hb⟩
theorem NF {w:World}{B:Nat}{v:Value}{l:List Int}(h:Zp.Own bX 3 B w v l):Sl w l v:=by
 obtain⟨p,c,rfl,hl⟩:=h.gi;refine⟨p,_,c,rfl,rfl,?_,hl⟩;rcases h.2 with ⟨e,h0⟩ | ⟨g,cap,cur,e,h1,h2,h3,h4,h5⟩
 ·omega
 ·simp only[Value.slice.injEq] at e
  omega
def lenOf:Value->Nat
 | .slice _ n _=>n
 | _=>0
theorem Sl.cut {w:World}{x:Int}{l:List Int}{v:Value}(h:Sl w (x :: l) v):∃b o c,v=.slice (some ⟨b,o,none⟩) (l.length+1) c/\w.cell? ⟨b,o,none⟩=some (.int .i64 x) /\
 ∃q d,(∀W:World,(Instr.slice 25 (.slice (some ⟨b,o,none⟩) (l.length+1) c) (some (.int .i64 1)) none none).run prog W=.ok (.slice q l.length d) W)/\Sl w l (.slice q l.length d):=by
 obtain⟨p,n,c,rfl,h1,h2,h3⟩:=h;rcases h3 with h3 | ⟨b,o,rfl,hc⟩
 ·cases h3
 ·subst h1
  have k0:=hc 0 (by simp) 0 _ rfl
  simp only[List.getD_cons_zero,Nat.zero_mul,Nat.add_zero] at k0;refine⟨b,o,c,rfl,k0,?_⟩;have hsz:∀W:World,(sizeOf 3).run prog W=.ok 1 W:=fun W=>by kernel_rfl
  rw[List.length_cons] at h2;by_cases h:c=1
  ·subst h
   have hl:l=[]:=List.eq_nil_of_length_eq_zero (by omega)
   subst hl;exact⟨some ⟨b,o,none⟩,0,fun W=>by simp[Instr.slice,Instr.sliceBounds,run_underlying underlying25,hsz,go_sem],some ⟨b,o,none⟩,0,0,rfl,rfl,Nat.le_refl _,.inl rfl⟩
  ·refine ⟨some ⟨b,o+1,none⟩,c-1,fun W=> ?_,some ⟨b,o+1,none⟩,l.length,c-1,rfl,rfl,by omega,.inr ⟨b,o+1,rfl,fun j hj k u hu=> ?_⟩⟩
   ·simp [Instr.slice,Instr.sliceBounds,run_underlying underlying25,hsz,go_sem,h,Addr.add]
    intro h3;omega
   ·have:=hc (j+1) (by simpa using hj) k u (by simpa[List.getD] using hu)
    rw[show bX.n=1 from rfl] at this ⊢
    rw[show o+1+j*1+k=o+(j+1)*1+k by omega]
    exact this
theorem Sl.TJ {w:World}{x:Int}{l:List Int}{v:Value}(h:Sl w (x :: l) v):∃n b o c,v=.slice (some ⟨b,o,none⟩) n c/\n=l.length+1/\w.cell? ⟨b,o,none⟩=some (.int .i64 x) /\
 ∃q r d,r=l.length/\(∀W:World,(Instr.slice 25 (.slice (some ⟨b,o,none⟩) n c) (some (.int .i64 1)) none none).run prog W=.ok (.slice q r d) W)/\Sl w l (.slice q r d):=by
 obtain⟨b,o,c,e,k0,q,d,hc,hs⟩:=h.cut;exact⟨_,b,o,c,e,rfl,k0,q,_,d,rfl,hc,hs⟩
theorem J1 (l:List Int):merge l []=l:=by cases l <;>simp [merge]
theorem NG {a b:Int}(l m:List Int)(h:a<b):merge (a :: l) (b :: m)=a :: merge l (b :: m):=by rw[merge,if_pos h]
theorem NH (a:Int)(l m:List Int):merge (a :: l) (a :: m)=a :: merge l m:=by rw[merge,if_neg (by omega),if_pos rfl]
theorem NI {a b:Int}(l m:List Int)(h:b<a):merge (a :: l) (b :: m)=b :: merge (a :: l) m:=by rw[merge,if_neg (by omega),if_neg (by omega)]
theorem J2 {B v:Nat}{c:Cf}{e:Eg}{w:World}(h:Ed B w v c e)(hB:B<=w.heap.size)(hf:e.Q.length<=150/\e.D.length<=800) :
 Calls prog 116 #[.pointer (some ⟨v,0,none⟩)] w fun e' w'=>∃y,e'=.returned y/\Zp.Own bX 3 w.heap.size w' y (aR e)/\Below w.heap.size w w':=by
 have c1:=Zt.se h.qu (by omega)
 have c2:=hid (fun u (hu:Below w.heap.size w u)=>Zk.se (h.below hB hu).dm (by omega))
 have hq:=Zu.fB e.Q;have hd:=Zz.fB e.D;have HK:=hid (show aR e=merge (Zu.aR e.Q) (Zz.aR e.D) from rfl)
 generalize aR e=R at *;generalize Zu.aR e.Q=A at *;generalize Zz.aR e.D=D at *;clear h hB;go_enter func116,ntmps116
 go_wp2_with (first
  |(go_at_call 169;(with_reducible refine c1.mono ?_);rintro e1 w1 ⟨p1,k1,rfl,ho,hb⟩;have tG:=hid ho;have aO:=hid hb;clear ho hb c1)
  |(go_at_call 170;(with_reducible refine(c2.out _ aO.out).mono ?_);rintro e1 w2 ⟨p2,k2,rfl,ho,hb⟩;have S1:=hid ((NF tG.out).on hb);have S2:=hid (NF ho);have bJ:=hid (aO.out.trans (hb.mono aO.out.size));clear ho hb c2))
 go_loopw [3,4,5] (fun va vb y wr=>∃(l m done:List Int),Hid (Sl w2 l va)/\Hid (Sl w2 m vb)/\Hid (Zp.Own bX 3 w2.heap.size wr y done)/\Hid (done++merge l m=R)/\(done.length+l.length+m.length<=1000)/\Hid (Below w2.heap.size w2 wr)) (fun va vb _ _=>lenOf va+lenOf vb)
 case atStart=>exact ⟨A,D,[],S1,S2,hid (Zp.Own.none _ _ _ _),hid (by rw[HK.out];rfl),by simp;omega,hid (Below.refl _ _)⟩
 case round =>
  obtain⟨l,m,done,hl,hm,ho,hR,hn,aW⟩:=hrel;clear S1 S2 HK tG aO;obtain⟨py,ky,rfl,-⟩:=ho.out.gi;obtain⟨nd,Wi⟩:∃nd,done.length=nd:=⟨_,rfl⟩;have zO:nd+l.length+m.length<=1000:=by omega
  rw[Wi] at ho;rw[Wi];have PA:=hid Wi;clear Wi hn;have fD:=aW;have NJ:=ho;clear aW ho;rcases l with- | ⟨x,l⟩
  ·obtain ⟨pa,na,ka,rfl,ha1,ha2,-⟩:=hl.out
   simp only[List.length_nil] at ha1;subst ha1;rcases m with- | ⟨z,m⟩
   ·obtain ⟨pb,nb,kb,rfl,hb1,hb2,-⟩:=hm.out
    simp only[List.length_nil] at hb1;subst hb1;have HE:=hid (show done=R by have:=hR.out;simpa[merge] using this)
    clear hR hl hm;go_wp2;go_ret;exact⟨_,rfl,by rw[<-HE.out];exact Zp.Own.lower NJ.out bJ.out.size,bJ.out.trans (fD.out.mono bJ.out.size)⟩
   ·obtain ⟨nb,bb,ob,kb,rfl,Wj,xb,qb,rb,db,RU,Wk,QA⟩:=hm.out.TJ
    have YK:=hid QA;have gb1:(0:Int)<(nb:Int):=by omega
    have gb2:((nb:Int)==0)=false:=by rw[beq_eq_false_iff_ne];omega
    have gb3:0<nb:=by omega
    have gb4:(nb==0)=false:=by rw[beq_eq_false_iff_ne];omega
    have gb5:¬nb=0:=by omega
    have YL:=hid Wj;have YM:=hid RU;have PB:=hid (fun u (hu:Below w2.heap.size w2 u)=>af xb hu)
    clear Wj RU QA xb;have HE:=hid (show(done++[z])++merge [] m=R by have:=hR.out;simpa[merge] using this)
    have yF:=hl;have aT:nd<=1000:=by omega
    clear hR hl hm;have xb:=PB.out _ fD.out;go_wp2;go_quiet (fail)
    have cH:=hid (fD.out.trans ((ag wr nq).mono fD.out.size));have jK:=hid (NJ.out.on (ag wr nq));clear fD NJ xb;generalize wr.drewN nq=w3 at *;have xb:=PB.out _ cH.out;go_wp2;go_quiet (fail)
    have fp:=hid (cH.out.trans ((ag w3 nq).mono cH.out.size));have xl:=hid (jK.out.on (ag w3 nq));clear cH jK xb;generalize w3.drewN nq=w4 at *;have xb:=PB.out _ fp.out;go_wp2_with (at_builtin;refine Zp.push Zt.iF rfl _ _ rfl w2 w4 (.slice py nd ky) rfl done nd PA.out xl.out fp.out (J0 _ _) w4.heap.size z rfl (heap_alloc_new _ _) (by omega) ?_;intro p6 c6 w6 R6 B6)
    go_roundw
    case rel=>exact ⟨[],m,done++[z],yF,YK,R6,HE,by have h1:=zO;simp only[List.length_cons,List.length_nil] at h1;simp;have:=PA.out;omega,hid B6⟩
    case measure=>simp only[lenOf];have h1:=YL.out;have h2:=YM.out;omega
  ·obtain ⟨na,ba,oa,ka,rfl,QB,xa,qa,ra,da,hra,ac5,TK⟩:=hl.out.TJ
   have HSa:=hid TK;have ga1:(0:Int)<(na:Int):=by omega
   have ga2:((na:Int)==0)=false:=by rw[beq_eq_false_iff_ne];omega
   have ga3:0<na:=by omega
   have ga4:(na==0)=false:=by rw[beq_eq_false_iff_ne];omega
   have ga5:¬na=0:=by omega
   have HNa:=hid QB;have HRa:=hid hra;have RY:=hid (fun u (hu:Below w2.heap.size w2 u)=>af xa hu)
   clear QB hra TK xa;rcases m with- | ⟨z,m⟩
   ·obtain ⟨pb,nb,kb,rfl,hb1,hb2,-⟩:=hm.out
    simp only[List.length_nil] at hb1;subst hb1;have HE:=hid (show(done++[x])++merge l []=R by have:=hR.out;simp[J1] at this ⊢;exact this)
    have YN:=hm;have aT:nd<=1000:=by omega
    clear hR hl hm;have xa:=RY.out _ fD.out;go_wp2;go_quiet (fail)
    have cH:=hid (fD.out.trans ((ag wr nq).mono fD.out.size));have jK:=hid (NJ.out.on (ag wr nq));clear fD NJ xa;generalize wr.drewN nq=w3 at *;have xa:=RY.out _ cH.out;go_wp2_with (at_builtin;refine Zp.push Zt.iF rfl _ _ rfl w2 w3 (.slice py nd ky) rfl done nd PA.out jK.out cH.out (J0 _ _) w3.heap.size x rfl (heap_alloc_new _ _) (by omega) ?_;intro p6 c6 w6 R6 B6)
    go_roundw
    case rel=>exact ⟨l,[],done++[x],HSa,YN,R6,HE,by have h1:=zO;simp only[List.length_cons,List.length_nil] at h1;simp;have:=PA.out;omega,hid B6⟩
    case measure=>simp only[lenOf];have h1:=HNa.out;have h2:=HRa.out;omega
   ·obtain ⟨nb,bb,ob,kb,rfl,Wj,xb,qb,rb,db,RU,Wk,QA⟩:=hm.out.TJ
    have YK:=hid QA;have gb1:(0:Int)<(nb:Int):=by omega
    have gb2:((nb:Int)==0)=false:=by rw[beq_eq_false_iff_ne];omega
    have gb3:0<nb:=by omega
    have gb4:(nb==0)=false:=by rw[beq_eq_false_iff_ne];omega
    have gb5:¬nb=0:=by omega
    have YL:=hid Wj;have YM:=hid RU;have PB:=hid (fun u (hu:Below w2.heap.size w2 u)=>af xb hu)
    clear Wj RU QA xb;have aT:nd<=1000:=by omega
    have sg:=hid zO;have TL:=hl;have TM:=hm;clear hl hm zO;have xa:=RY.out _ fD.out;have xb:=PB.out _ fD.out;rcases Int.lt_trichotomy x z with aC | Pv | hgt
    ·have HE:=hid (show(done++[x])++merge l (z :: m)=R by have:=hR.out;rw[NG _ _ aC] at this;simpa using this)
     have HSB:=hid (show Sl w2 (z :: m) (.slice (some ⟨bb,ob,none⟩) nb kb) from TM.out)
     clear hR;go_wp2;go_quiet (fail)
     have cH:=hid (fD.out.trans ((ag wr nq).mono fD.out.size));have jK:=hid (NJ.out.on (ag wr nq));clear fD NJ xa xb;generalize wr.drewN nq=w3 at *;have xa:=RY.out _ cH.out;have xb:=PB.out _ cH.out;go_wp2_with (at_builtin;refine Zp.push Zt.iF rfl _ _ rfl w2 w3 (.slice py nd ky) rfl done nd PA.out jK.out cH.out (J0 _ _) w3.heap.size x rfl (heap_alloc_new _ _) (by omega) ?_;intro p6 c6 w6 R6 B6)
     go_roundw
     case rel=>exact ⟨l,z :: m,done++[x],HSa,HSB,R6,HE,by simp;have h1:=sg.out;have h2:=PA.out;simp at h1;omega,hid B6⟩
     case measure=>simp only[lenOf];have h1:=HNa.out;have h2:=HRa.out;omega
    ·subst Pv
     have HE:=hid (show(done++[x])++merge l m=R by have:=hR.out;rw[NH] at this;simpa using this)
     have hxx:¬x<x:=Int.lt_irrefl x;have hxe:(x==x)=true:=by simp
     clear hR;go_wp2;go_quiet (fail)
     have cH:=hid (fD.out.trans ((ag wr nq).mono fD.out.size));have jK:=hid (NJ.out.on (ag wr nq));clear fD NJ xa xb;generalize wr.drewN nq=w3 at *;have xa:=RY.out _ cH.out;have xb:=PB.out _ cH.out;go_wp2;go_quiet (fail)
     have fp:=hid (cH.out.trans ((ag w3 nq).mono cH.out.size));have xl:=hid (jK.out.on (ag w3 nq));clear cH jK xa xb;generalize w3.drewN nq=w4 at *;have xa:=RY.out _ fp.out;have xb:=PB.out _ fp.out;go_wp2_with (at_builtin;refine Zp.push Zt.iF rfl _ _ rfl w2 w4 (.slice py nd ky) rfl done nd PA.out xl.out fp.out (J0 _ _) w4.heap.size x rfl (heap_alloc_new _ _) (by omega) ?_;intro p6 c6 w6 R6 B6)
     go_roundw
     case rel=>exact ⟨l,m,done++[x],HSa,YK,R6,HE,by simp;have h1:=sg.out;have h2:=PA.out;simp at h1;omega,hid B6⟩
     case measure=>simp only[lenOf];have h1:=HNa.out;have h2:=HRa.out;have h3:=YL.out;have h4:=YM.out;omega
    ·have HE:=hid (show(done++[z])++merge (x :: l) m=R by have:=hR.out;rw[NI _ _ hgt] at this;simpa using this)
     have RZ:=hid (show Sl w2 (x :: l) (.slice (some ⟨ba,oa,none⟩) na ka) from TL.out)
     have hxx:¬x<z:=by omega
     have hxe:(x==z)=false:=by rw[beq_eq_false_iff_ne];omega
     clear hR;go_wp2;go_quiet (fail)
     have cH:=hid (fD.out.trans ((ag wr nq).mono fD.out.size));have jK:=hid (NJ.out.on (ag wr nq));clear fD NJ xa xb;generalize wr.drewN nq=w3 at *;have xa:=RY.out _ cH.out;have xb:=PB.out _ cH.out;go_wp2;go_quiet (fail)
     have fp:=hid (cH.out.trans ((ag w3 nq).mono cH.out.size));have xl:=hid (jK.out.on (ag w3 nq));clear cH jK xa xb;generalize w3.drewN nq=w4 at *;have xa:=RY.out _ fp.out;have xb:=PB.out _ fp.out;go_wp2_with (at_builtin;refine Zp.push Zt.iF rfl _ _ rfl w2 w4 (.slice py nd ky) rfl done nd PA.out xl.out fp.out (J0 _ _) w4.heap.size z rfl (heap_alloc_new _ _) (by omega) ?_;intro p6 c6 w6 R6 B6)
     go_roundw
     case rel=>exact ⟨x :: l,m,done++[z],RZ,YK,R6,HE,by simp;have h1:=sg.out;have h2:=PA.out;simp at h1;omega,hid B6⟩
     case measure=>simp only[lenOf];have h1:=YL.out;have h2:=YM.out;omega
end Zy
end Go.Proofs.YtbgdlokegibkmaaGreat
