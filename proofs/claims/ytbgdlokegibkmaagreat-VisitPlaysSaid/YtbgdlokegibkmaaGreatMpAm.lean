/-
  A part of the proof of VisitPlays.
-/
import Derived.Test.YtbgdlokegibkmaaGreatMpAl
import Derived.Test.YtbgdlokegibkmaaGreatMpAk
import Derived.Test.YtbgdlokegibkmaaGreatMpAg
set_option maxRecDepth 100000
set_option maxHeartbeats 8000000
namespace Go.Proofs.YtbgdlokegibkmaaGreat
open Go.RowKit
open Tryz
open Lib (hid)
namespace Zy
open Zq (ae aj ai)
open Zp (iE aL At bS eu fN af aD aA ag bX)
def ib:iE (Int×Int):=⟨2,fun x=>[.int .i64 x.1,.int .i64 x.2],(0,0),by decide,fun _=>rfl,fun x u hu=>by simp at hu;rcases hu with rfl | rfl <;>rfl⟩
theorem Ip:eu prog ib 126 122:=⟨underlying122,.agg #[.int .i64 0,.int .i64 0],16,by kernel_rfl,rfl,by decide⟩
def dB (c:Cf)(e:Eg)(l:List Int):List (Int×Int):=(l.map fun k=>(k,aK c e k)).filter fun p=>decide (0<p.2)
theorem Co {c:Cf}{e:Eg}{l:List Int}{j:Nat}(h:j<l.length):dB c e (l.take (j+1))=if 0<aK c e (l.getD j 0) then dB c e (l.take j)++[(l.getD j 0,aK c e (l.getD j 0))] else dB c e (l.take j):=by
 unfold dB;rw[aA 0 h,List.map_append,List.filter_append];simp only[List.map_cons,List.map_nil,List.filter_cons,List.filter_nil,decide_eq_true_eq];split <;>simp
theorem sG (c:Cf)(e:Eg)(l:List Int):(dB c e l).length<=l.length:=by
 unfold dB;exact Nat.le_trans (List.length_filter_le _ _) (by simp)
theorem jL:∀(a b:List Int),(merge a b).length<=a.length+b.length
 | [],b=>by simp[merge]
 | a :: l,[]=>by simp[merge]
 | a :: l,b :: m=>by
   have h1:=jL l (b :: m);have h2:=jL l m;have h3:=jL (a :: l) m;rw[merge];simp only[List.length_cons] at *;split
   ·simp only[List.length_cons];omega
   ·split
    ·simp only[List.length_cons];omega
    ·simp only[List.length_cons];omega
def Cp (w:World) (v:Nat) (c:Cf) (p:Option Addr) (k:Nat):Prop:=w.cell? ⟨v,0,none⟩=some (.int .i64 c.n)/\w.cell? ⟨v,1,none⟩=some (.int .i64 c.sk)/\w.cell? ⟨v,2,none⟩=some (.int .i64 c.tl)/\w.cell? ⟨v,3,none⟩=some (.int .i64 c.va)/\w.cell? ⟨v,4,none⟩=some (.int .i64 c.lo)/\w.cell? ⟨v,5,none⟩=some (.int .i64 c.he) /\
    w.cell? ⟨v,6,none⟩=some (.int .i64 c.ke)/\w.cell? ⟨v,7,none⟩=some (.int .i64 c.qu)/\w.cell? ⟨v,8,none⟩=some (.slice p c.zs.length k)
theorem Cp.on {w w':World}{v:Nat}{c:Cf}{p:Option Addr}{k:Nat}(h:Cp w v c p k)(hb:Below w.heap.size w w'):Cp w' v c p k:=by
 obtain⟨h0,h1,h2,h3,h4,h5,h6,h7,h8⟩:=h;exact⟨af h0 hb,af h1 hb,af h2 hb,af h3 hb,af h4 hb,af h5 hb,af h6 hb,af h7 hb,af h8 hb⟩
theorem oD {w:World}{p:Option Addr}{l:List Int}(h:aL bX w p l){j:Nat}(hj:j<l.length):∃b o,p=some ⟨b,o,none⟩/\w.cell? ⟨b,o+j,none⟩=some (.int .i64 (l.getD j 0)):=by
 obtain⟨b,o,e,ha⟩:=Zp.bj h hj;refine⟨b,o,e,?_⟩;have:=ha 0 _ rfl;rwa [show bX.n=1 from rfl,Nat.mul_one] at this
theorem Fc {B v:Nat}{c:Cf}{e:Eg}{w:World}(h:Ed B w v c e)(hB:B<=w.heap.size)(hf:e.Q.length<=150/\e.D.length<=800) :
 Calls prog 61 #[.pointer (some ⟨v,0,none⟩)] w fun e' w'=>∃p k,e'=.returned (.slice p (dL c e).length k)/\aL ib w' p (dL c e)/\Below w.heap.size w w':=by
 have c1:=J2 h hB hf;obtain⟨p,k,hr,h9⟩:=h.dW;have H9:=hid (show Cp w v c p k from h9)
 have HR:=hid (fun key (hk:¬c.fT key<0)=>yz hk hr)
 have eF:=hid hB;have HK:=hid (fun u key=>sA c p k key u)
 have HS:=hid (fun u key (hu:Below w.heap.size w u)=>Zt.MP (h.below hB hu).qu (by omega) key)
 have HW:=hid (fun u key a b (hu:Below w.heap.size w u)=>Zk.JL (h.below hB hu).dm (by omega) key a b)
 have HD:=hid (show dL c e=dB c e ((aR e).take (aR e).length) by rw[List.take_length];rfl)
 have Tp:(aR e).length<=960:=Nat.le_trans (jL _ _) (by have:=Zu.fB e.Q;have:=Zz.fB e.D;omega)
 have Tj:=hid (fun key=>show aK c e key=if 0<=c.fT key then Zz.aF (Zz.of e.D key) (Zu.sum e.Q key) (c.b key) else 0 from rfl)
 generalize dL c e=R at *;generalize aR e=l at *;have WS:=hid (fun(j:Nat) (hj:j<l.length)=>Co (c:=c) (e:=e) hj)
 have WL:=hid (fun j=>sG c e (l.take j))
 have W0:=hid (show dB c e (l.take 0)=[] from rfl)
 simp only[Cf.val] at HK;clear h hr h9;go_enter func61,ntmps61
 go_wp2_with (go_at_call 116;(with_reducible refine c1.mono ?_);rintro e1 w1 ⟨y,rfl,ho,hb⟩;have aO:=hid hb;obtain⟨pl,kl,rfl,hl⟩:=Zp.Own.gi ho;have HL:=hid hl;clear ho hb hl c1)
 go_loopw [3,5] (fun y i wr=>∃(j:Nat) (q:Option Addr) (d n:Nat),j<=l.length/\i=.int .i64 (j:Int)/\y=.slice q n d/\Hid (Zp.Own ib 126 w1.heap.size wr y (dB c e (l.take j)))/\Hid ((dB c e (l.take j)).length=n)/\Hid (Below w1.heap.size w1 wr)) (fun _ i _=>l.length-(intOf i).toNat)
 case atStart=>exact ⟨0,none,0,0,by omega,rfl,rfl,by rw[W0.out];exact hid (Zp.Own.none _ _ _ _),by rw[W0.out];exact hid rfl,hid (Below.refl _ _)⟩
 case round =>
  obtain⟨j,q,d,n,hj,rfl,rfl,ax,hn,aW⟩:=hrel;by_cases aC:j<l.length
  ·have bE:(j:Int)<(l.length:Int):=by omega
   obtain⟨b,o,rfl,Ql⟩:=oD HL.out aC;have Yp:n<=1000:=by rw[<-hn.out];exact Nat.le_trans (WL.out j) (by simp;omega)
   have NK:=hid (WS.out j aC);have HX:=hid (fun u (hu:Below w1.heap.size w1 u)=>And.intro (af Ql hu) (H9.out.on (aO.out.trans (hu.mono aO.out.size))))
   have QC:=hid (Tj.out (l.getD j 0));generalize dB c e (l.take j)=WJ at *;generalize l.getD j 0=key at *;generalize aK c e key=am at *;clear Ql WS WL W0 HD Tj;have t0:=HX.out _ aW.out;simp only[Cp] at t0;obtain⟨k0,c0,Tc,c2,c3,c4,c5,c6,c7,c8⟩:=t0;go_wp2;go_region_held3 (fun u=>u.cell? ⟨v,0,none⟩=some (.int .i64 c.n)/\u.cell? ⟨v,1,none⟩=some (.int .i64 c.sk)/\u.cell? ⟨v,2,none⟩=some (.int .i64 c.tl)/\u.cell? ⟨v,3,none⟩=some (.int .i64 c.va)/\u.cell? ⟨v,4,none⟩=some (.int .i64 c.lo)/\u.cell? ⟨v,5,none⟩=some (.int .i64 c.he) /\
    u.cell? ⟨v,6,none⟩=some (.int .i64 c.ke)/\u.cell? ⟨v,7,none⟩=some (.int .i64 c.qu)/\u.cell? ⟨v,8,none⟩=some (.slice p c.zs.length k)/\u.cell? ⟨b,o+j,none⟩=some (.int .i64 key)) (first | assumption | exact⟨c0,Tc,c2,c3,c4,c5,c6,c7,c8,k0⟩) (first
    |(go_at_call 45;(with_reducible refine(HK.out _ _).mono ?_);rintro e1 w3 ⟨rfl,hb⟩;have cH:=hid ((Below.refl _ wr).drew.trans (hb.mono (Below.refl wr.heap.size wr).drew.size));have t3:_/\_/\_/\_/\_/\_/\_/\_/\_/\_:=(have t:=HX.out _ (aW.out.trans (cH.out.mono aW.out.size));⟨t.2.1,t.2.2.1,t.2.2.2.1,t.2.2.2.2.1,t.2.2.2.2.2.1,t.2.2.2.2.2.2.1,t.2.2.2.2.2.2.2.1,t.2.2.2.2.2.2.2.2.1,t.2.2.2.2.2.2.2.2.2,t.1⟩);clear hb))
   obtain⟨c0,Tc,c2,c3,c4,c5,c6,c7,c8,k0⟩:=t3;have cA:=hid (aW.out.trans (cH.out.mono aW.out.size));have nt:=hid (aO.out.trans (cA.out.mono aO.out.size));have jK:=hid (ax.out.on cH.out);have HRK:=hid (HR.out key);have Bj:=hid (fun u=>HS.out u key)
   have HWK:=hid (fun u a b=>HW.out u key a b)
   clear ax aW HR HS HW HK;generalize c.b key=bb at *;generalize c.fT key=kk at *;generalize Zu.sum e.Q key=qs at *;generalize Zz.of e.D key=dd at *;by_cases Pz:kk<0
   ·have aa6:¬0<=kk:=by omega
    have HE:=hid (show dB c e (l.take (j+1))=WJ by rw[NK.out,if_neg];have:=QC.out;rw[if_neg aa6] at this;omega)
    clear NK QC;go_wp2;go_roundw
    case rel=>exact ⟨j+1,q,d,n,by omega,by go_num,rfl,by rw[HE.out];exact jK,by rw[HE.out];exact hn,cA⟩
    case measure=>simp only[intOf];omega
   ·obtain ⟨j',b',o',rfl,mG,rfl,YI,hcell⟩:=HRK.out (by omega)
    have Iq:=hid (fun u (hu:Below w.heap.size w u)=>af hcell hu)
    have k1:=Iq.out _ nt.out;have HAE:=hid (show am=Zz.aF dd qs bb by rw[QC.out,if_pos (by omega)])
    clear QC HRK hcell Pz;go_wp2;go_region_held3 (fun u=>u.cell? ⟨v,8,none⟩=some (.slice (some ⟨b',o',none⟩) c.zs.length k)/\u.cell? ⟨b,o+j,none⟩=some (.int .i64 key)/\u.cell? ⟨b',o'+j'*2+1,none⟩=some (.int .i64 bb)) (first | assumption | exact⟨c8,k0,k1⟩) (first
     |(go_at_call 118;(with_reducible refine(Bj.out _ (nt.out.trans ((Below.refl _ w3).drew.mono nt.out.size))).mono ?_);rintro e1 w4 ⟨rfl,hb⟩;have fp:=hid ((Below.refl _ w3).drew.trans (hb.mono (Below.refl w3.heap.size w3).drew.size));have t4:_/\_/\_:=⟨af c8 fp.out,af k0 fp.out,af k1 fp.out⟩;clear hb)
     |(go_at_call 117;(with_reducible refine(HWK.out _ _ _ (nt.out.trans (fp.out.mono nt.out.size))).mono ?_);rintro e1 w5 ⟨rfl,hb⟩;have jy:=hid (fp.out.trans (hb.mono fp.out.size));have t5:_/\_/\_:=⟨af c8 jy.out,af k0 jy.out,af k1 jy.out⟩;clear hb))
    obtain⟨c8',U9,-⟩:=t5;have xF:=hid (cA.out.trans (jy.out.mono cA.out.size));have U3:=hid (jK.out.on jy.out);clear c0 Tc c2 c3 c4 c5 c6 c7 c8 k0 k1 jK Bj HWK Iq;obtain rfl:=HAE.out.symm;generalize Zz.aF dd qs bb=am at *;by_cases PD:0<am
    ·have HE:=hid (show dB c e (l.take (j+1))=WJ++[(key,am)] by rw[NK.out,if_pos PD])
     clear NK HAE;go_wp2_with (at_builtin;refine Zp.push Ip rfl _ _ rfl w1 w5 (.slice q n d) rfl WJ n hn.out U3.out xF.out (J0 _ _) w5.heap.size (key,am) rfl (heap_alloc_new _ _) (by omega) ?_;intro p6 c6 w6 R6 B6)
     go_roundw
     case rel=>exact ⟨j+1,p6,c6,n+1,by omega,by go_num,rfl,by rw[HE.out];exact R6,by rw[HE.out];exact hid (by rw[List.length_append,hn.out];rfl),hid B6⟩
     case measure=>simp only[intOf];omega
    ·have HE:=hid (show dB c e (l.take (j+1))=WJ by rw[NK.out,if_neg PD])
     clear NK HAE;go_wp2;go_roundw
     case rel=>exact ⟨j+1,q,d,n,by omega,by go_num,rfl,by rw[HE.out];exact U3,by rw[HE.out];exact hn,xF⟩
     case measure=>simp only[intOf];omega
  ·have bE:¬(j:Int)<(l.length:Int):=by omega
   have HE := hid (show R = dB c e (l.take j) by rw[HD.out];have e:j=l.length:=by omega
                                                 subst e;rfl)
   generalize dB c e (l.take j)=WJ at *;clear WS WL W0 HD Tj HR HK HS HW H9;go_wp2;obtain⟨q',d',e',Tt⟩:=Zp.Own.gi ax.out;refine bodyPost_ret (v:=.slice q n d) (by simp[results,results61,go_sem]) rfl ?_
   have e1:=hn.out;have e2:=HE.out;subst e2 e1;rw[Value.slice.injEq] at e';obtain⟨rfl,-,rfl⟩:=e';exact⟨_,⟨_,rfl⟩,Tt,aO.out.trans (aW.out.mono aO.out.size)⟩
open Zp (iE aL At bS eu fN af aD aA ag)
open Zw (Lz bC)
open Zu (It)
abbrev eV:List TypeId:=[97,131,113,244,60,174]
theorem J3 {T:TypeId}{ts:List TypeId}{B:Nat}{w w':World}{y:Value}{l:List Lz}(h:Zw.Own T B w y l)(ho:fN ts w w')(ht:T∈ts):Zw.Own T B w' y l:=by
 refine⟨h.1,?_⟩;rcases h.2 with h0 | ⟨g,cap,cur,rfl,h1,h2,h3⟩
 ·exact .inl h0
 ·exact .inr ⟨g,cap,cur,rfl,h1,ho.block g _ _ _ h2 ht,h3⟩
theorem Ed.off {w w':World}{B v:Nat}{c:Cf}{e:Eg}(h:Ed B w v c e)(ho:fN eV w w')(hb:Below B w w'):Ed B w' v c e:=by
 obtain⟨h0,cs,p,k,yL,yQ,yD,h1,h2,h3,h4,h5,h6,h7,h8,h9,h10⟩:=h;exact⟨h0,cs,p,k,yL,yQ,yD,ho.block v _ _ _ h1 (by simp[eV]),h2,h3.on hb,h4,J3 h5 ho (by simp[eV]),h6,h7,Zp.Own.off h8 ho (by simp[eV]),h9,Zp.Own.off h10 ho (by simp[eV])⟩
theorem aM.Wm {w w':World}{B v:Nat}{c:Cf}{e e':Eg}(h:Ed B w v c e)(hs:aM B w v c e' w'):bS [97,60] w w':=by
 obtain⟨_,cs,p,k,yL,yQ,yD,h1,_⟩:=h;refine⟨hs.size,fun g o e ht=>(hs.only g ?_ (aD e)).trans e⟩
 rintro rfl;rw[h1] at e;exact ht _ _ _ (Option.some.inj e).symm (by simp)
def eW (w:World)(p:Option Addr)(T:TypeId):Prop:=∀a,p=some a->∃cs z,w.heap[a.block]? =some (Obj.cells cs T z)
theorem eW.below {w w':World}{p:Option Addr}{T:TypeId}(h:eW w p T)(hb:Below w.heap.size w w'):eW w' p T:=fun a e=>by
 obtain⟨cs,z,k⟩:=h a e;exact⟨cs,z,(hb.block _ (ae k)).trans k⟩
theorem eW.off {w w':World}{p:Option Addr}{T:TypeId}{ts:List TypeId}(h:eW w p T)(ho:fN ts w w')(ht:T∈ts):eW w' p T:=fun a e=>by
 obtain⟨cs,z,k⟩:=h a e;exact⟨cs,z,ho.block _ _ _ _ k ht⟩
theorem Cq {w:World}{p:Option Addr}{T:TypeId}{B v:Nat}{c:Cf}{e:Eg}(h:eW w p T)(hv:Ed B w v c e)(hT:T≠97):∀a,p=some a->a.block≠v:=by
 rintro a ea rfl;obtain⟨cs,z,k⟩:=h a ea;obtain⟨_,cs',p,k',yL,yQ,yD,h1,_⟩:=hv;rw[k] at h1;simp only[Option.some.injEq,Obj.cells.injEq] at h1;exact hT h1.2.1
theorem eW.step {w w':World}{p:Option Addr}{T:TypeId}{B v:Nat}{c:Cf}{e e':Eg}(h:eW w p T)(hv:Ed B w v c e)(hT:T≠97)(hs:aM B w v c e' w'):eW w' p T:=fun a ea=>by
 obtain⟨cs,z,k⟩:=h a ea;exact⟨cs,z,(hs.only _ (Cq h hv hT a ea) (ae k)).trans k⟩
theorem Cr {α:Type}{E:iE α}{w w':World}{p:Option Addr}{l:List α}{T:TypeId}{ts:List TypeId}(h:aL E w p l)(ht:eW w p T)(ho:fN ts w w')(hT:T∈ts):aL E w' p l:=by
 rcases h with h | ⟨b,o,rfl,hc⟩
 ·exact .inl h
 ·obtain ⟨cs,z,k⟩:=ht _ rfl
  exact .inr ⟨b,o,rfl,fun j hj i u hu=>(World.cell?_of_block (a:=⟨b,o+j*E.n+i,none⟩) ((ho.block _ _ _ _ k hT).trans k.symm)).trans (hc j hj i u hu)⟩
theorem Fe {α:Type}{E:iE α}{w w':World}{p:Option Addr}{l:List α}{T:TypeId}{B v:Nat}{c:Cf}{e e':Eg}(h:aL E w p l)(ht:eW w p T)(hv:Ed B w v c e)(hT:T≠97)(hs:aM B w v c e' w'):aL E w' p l:=by
 rcases h with h | ⟨b,o,rfl,hc⟩
 ·exact .inl h
 ·obtain ⟨cs,z,k⟩:=ht _ rfl
  exact .inr ⟨b,o,rfl,fun j hj i u hu=>(World.cell?_of_block (a:=⟨b,o+j*E.n+i,none⟩) (hs.only b (Cq ht hv hT ⟨b,o,none⟩ rfl) (ae (o:=.cells cs T z) (by exact k)))).trans (hc j hj i u hu)⟩
theorem eW.kept {w w':World}{p:Option Addr}{T:TypeId}{ts:List TypeId}(h:eW w p T)(hk:bS ts w w')(hT:T∉ts):eW w' p T:=fun a e=>by
 obtain⟨cs,z,k⟩:=h a e;exact⟨cs,z,hk.block _ _ _ _ k hT⟩
theorem J4 {α:Type}{E:iE α}{w w':World}{p:Option Addr}{l:List α}{T:TypeId}{ts:List TypeId}(h:aL E w p l)(ht:eW w p T)(hk:bS ts w w')(hT:T∉ts):aL E w' p l:=by
 rcases h with h | ⟨b,o,rfl,hc⟩
 ·exact .inl h
 ·obtain ⟨cs,z,k⟩:=ht _ rfl
  exact .inr ⟨b,o,rfl,fun j hj i u hu=>(World.cell?_of_block (a:=⟨b,o+j*E.n+i,none⟩) ((hk.block _ _ _ _ k hT).trans k.symm)).trans (hc j hj i u hu)⟩
def eo (w:World)(v:Value)(l:List An):Prop:=∃p c,v=.slice p l.length c/\aL iH w p l/\eW w p 60/\(p=none->c=0)
theorem gB (w:World):eo w (.slice none 0 0) []:=⟨none,0,rfl,.inl rfl,fun a e=>by simp at e,fun _=>rfl⟩
theorem eo.off {w w':World}{v:Value}{l:List An}(h:eo w v l)(ho:fN eV w w'):eo w' v l:=by
 obtain⟨p,c,e,h1,h2,h3⟩:=h;exact⟨p,c,e,Cr h1 h2 ho (by simp[eV]),h2.off ho (by simp[eV]),h3⟩
theorem eo.below {w w':World}{v:Value}{l:List An}(h:eo w v l)(hb:Below w.heap.size w w'):eo w' v l:=by
 obtain⟨p,c,e,h1,h2,h3⟩:=h;exact⟨p,c,e,h1.below hb,h2.below hb,h3⟩
theorem eo.step {w w':World}{v:Value}{l:List An}{B b:Nat}{c:Cf}{e e':Eg}(h:eo w v l)(hv:Ed B w b c e)(hs:aM B w b c e' w'):eo w' v l:=by
 obtain⟨p,k,ev,h1,h2,h3⟩:=h;exact⟨p,k,ev,Fe h1 h2 hv (by decide) hs,h2.step hv (by decide) hs,h3⟩
def iK (w:World)(g:Nat):Prop:=∃o k x,w.cell? ⟨g,o,none⟩=some (.int k x)
theorem iK.on {w w':World}{g:Nat}(h:iK w g)(e:w'.heap[g]? =w.heap[g]?):iK w' g:=by
 obtain⟨o,k,x,hc⟩:=h;exact⟨o,k,x,(World.cell?_of_block (a:=⟨g,o,none⟩) e).trans hc⟩
abbrev Pw:=Nat->World->Nat->Cf->Eg->Prop
structure eA (PW:Pw)(B:Nat)(w:World)(q:Nat)(c:Cf)(e:Eg)(w':World):Prop where
 pw:PW B w' q c e
 off:fN eV w w'
 below:Below B w w'
def fh (c:Cf):Prop:=bC c.n/\bC c.sk/\bC c.tl/\bC c.va/\bC c.lo/\bC c.he/\bC c.ke/\bC c.qu
def iL (e:Eg):Prop:=e.L.length<=100/\e.Q.length<=16/\e.D.length<=700
end Zy
namespace Zn
open Zx (Rw Tb Tk aq cG pK)
open Zy (Cf)
open Zo (aS Mem size_alloc bz)
def sH (t:Tk)(c:Cf)(n:Nat):Bool:=pK t&&decide (c.zs.length<=40)&&decide (n<=40)
theorem J5 (t:Tk)(ps p:Option Addr)(cs k:Nat)(c:Cf)(pf:Option Addr)(kf:Nat)(pa:Option Addr)(n ka:Nat)(w:World)(hn:(t.stamps.length:Int)<=9223372036854775807)(hm:(t.table.rows.length:Int)<=9223372036854775807)(hl:Zx.ar w p t.table.rows) :
 Calls prog 6 #[aS t ps cs p k,c.val pf kf,.slice pa n ka] w (cG w (sH t c n)):=by
 have HF:=hid (fun u (hu:Below w.heap.size w u)=>Zx.EP t ps p cs k u hn hm (hl.below hu))
 have HR:=hid (show sH t c n=(pK t&&decide (c.zs.length<=40)&&decide (n<=40)) from rfl)
 generalize sH t c n=R at *;generalize pK t=fk at *;simp only[aS,Cf.val];have M0:=hid (((Mem.start w).box #[.int .i64 t.gen,.int .i64 t.bP,.slice ps t.stamps.length cs,.int .i64 t.table.start,.slice p t.table.rows.length k] 30).box #[.int .i64 c.n,.int .i64 c.sk,.int .i64 c.tl,.int .i64 c.va,.int .i64 c.lo,.int .i64 c.he,.int .i64 c.ke,.int .i64 c.qu,.slice pf c.zs.length kf] 24);simp only[size_alloc] at M0;obtain⟨t0,t1,t2,t3,t4,-⟩:=bz (M0.out.boxes 1 _ _ _ rfl);clear hl hn hm;have b9:fk=false∨(fk=true/\decide ((c.zs.length:Int)<=40)=false/\¬(c.zs.length<=40))∨(fk=true/\decide ((c.zs.length:Int)<=40)=true/\c.zs.length<=40):=by
  cases fk
  ·exact .inl rfl
  ·by_cases h1:c.zs.length<=40
   ·exact .inr (.inr ⟨rfl,by simp;omega,h1⟩)
   ·exact .inr (.inl ⟨rfl,by simp;omega,h1⟩)
 have jJ:decide ((n:Int)<=40)=decide (n<=40):=by
  by_cases h:n<=40
  ·rw [decide_eq_true h,decide_eq_true (by omega)]
  ·rw [decide_eq_false h,decide_eq_false (by omega)]
 rcases b9 with rfl | ⟨rfl,h1,h2⟩ | ⟨rfl,h1,h2⟩
 case' inl=>obtain rfl:R=false:=by rw[HR.out];simp
 case' inr.inl=>obtain rfl:R=false:=by rw[HR.out,decide_eq_false h2];simp
 case' inr.inr=>obtain rfl:R=decide (n<=40):=by rw[HR.out,decide_eq_true h2];simp
 all_goals
  go_enter func6,ntmps6
  go_wp2_with (go_at_call 29;(with_reducible refine(HF.out _ M0.out.below).mono ?_);rintro e u1 ⟨rfl,hb⟩;have M1:=hid (M0.out.on hb);obtain⟨c0,c1,c2,c3,c4,c5,c6,c7,c8⟩:=Zv.aG (M1.out.boxes 0 _ _ _ rfl);clear hb HF)
  go_ret;exact⟨by first | rfl | rw[<-jJ],M1.out.below⟩
theorem NL {t:Tk}{c:Cf}{n:Nat}(h:sH t c n=true):(t.stamps.length<=100/\t.table.rows.length<=100/\∀r∈t.table.rows,r.out.length<=100)/\c.zs.length<=40/\n<=40:=by
 simp only[sH,pK,Bool.and_eq_true,decide_eq_true_eq] at h;obtain⟨⟨⟨⟨h1,h2⟩,h3⟩,h4⟩,h5⟩:=h;refine⟨⟨h1,h2,fun r hr=> ?_⟩,h4,h5⟩
 obtain⟨j,hj,e⟩:=List.mem_iff_getElem.1 hr;rw[Zx.dC,List.all_eq_true] at h3;have h6:=of_decide_eq_true (h3 j (List.mem_range.2 hj));have e2:t.table.rows.getD j aq=r:=by simp[List.getD,hj,e]
 rw[e2] at h6;exact h6
end Zn
end Go.Proofs.YtbgdlokegibkmaaGreat
