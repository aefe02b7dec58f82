/-
  A part of the proof of VisitPlays.
-/
import Derived.Test.YtbgdlokegibkmaaGreatMpAz
import Derived.Test.YtbgdlokegibkmaaGreatMpBp
set_option maxRecDepth 100000
set_option maxHeartbeats 8000000
namespace Go.Proofs.YtbgdlokegibkmaaGreat
open Go.RowKit
open Tryz
open Lib (hid)
namespace Zu
open Go.RowKit Go.Shelf Go.Sort
open Zq (ae aj ai aI)
open Zp (iE aL Own At bS eu fN af aD aA ag bQ bX dQ jo cells)
theorem UJ {T:TypeId}{B:Nat}{w:World}{p:Option Addr}{n c:Nat}{l:List It}(h:Own aN T B w (.slice p n c) l):∀a,p=some a->B<=a.block:=by
 rintro a rfl;exact(World.ownsRow.lt h a.block rfl).1
theorem RG {F:Nat->Prop}{B q:Nat}{w:World}{aw:Int}{l:List It}(h:Pq F B w q aw l)(hg:bu aw l)(hl:l.length<=16)(key:Int) :
 Calls prog 138 #[.pointer (some ⟨q,0,none⟩),.int .i64 key] w fun e w'=>∃p c,e=.returned (.slice p (of l key).length c)/\aL aN w' p (of l key)/\(∀a,p=some a->w.heap.size<=a.block)/\Below w.heap.size w w':=by
 have hc:∀x∈l,0<=x.bU/\x.bU<=2:=fun x hx=>by have:=(hg.mO x hx).1;unfold cY at this;omega
 have hs:=zA key hc;have gH:=cQ w (.cells #[.int .i64 key] 3);obtain⟨y,hy⟩:=h;have ha:=iz (⟨y,hy.below gH⟩:Pq F B _ q aw l) hl;have hcell:=cell_of_row _ w.heap.size 0 _ _ (0,0) (heap_alloc_new w (.cells #[.int .i64 key] 3));have HB:=hid gH;have O8:=hid (fun(u:World) (p:Option Addr) (d:Nat) (hp:aL aN u p l) (hu:Below (w.alloc (.cells #[.int .i64 key] 3)).heap.size (w.alloc (.cells #[.int .i64 key] 3)) u)=>mq Gc (wB w.heap.size key) (d:=d) hp (by omega) (af hcell hu))
 rw[show l.filter (fI key)=l.filter (fun x=>x.key==key) from rfl] at O8
 have sg:(l.filter fun x=>x.key==key).length<=16:=Nat.le_trans (List.length_filter_le _ _) hl
 have aT:(of l key).length=(l.filter fun x=>x.key==key).length:=by
  rw[<-hs,Array.length_toList,(insertionSort_holds (lt:=Go.Proofs.ltOf iD) oT (l.filter fun x=>x.key==key).toArray 0 (l.filter fun x=>x.key==key).length (Nat.zero_le _) (by simp)).1.1]
  simp
 generalize(l.filter fun x=>x.key==key)=m at *
 have uR:=hid (fun(u:World) (y:Value) (ho:Own aN 136 w.heap.size u y m) (hu:w.heap.size<=u.heap.size)=>nS ho hu sg)
 rw[hs] at uR;rw[aT];generalize of l key=R at *;clear hy hcell gH hg hc hs;go_enter func138,ntmps138
 go_wp2_with (first
  |(go_at_call 36;(with_reducible refine ha.mono ?_);rintro e u1 ⟨y1,rfl,ho,hb⟩;obtain⟨p1,d1,rfl,iG,-⟩:=fG ho;have pz:=hid iG;have aO:=hid hb;clear ho hb iG ha)
  |(go_at_call 179;(with_reducible refine(O8.out _ _ _ pz.out aO.out).mono ?_);rintro e u2 ⟨y2,rfl,ho,hb⟩;have bJ:=hid (HB.out.trans ((aO.out.trans (hb.mono aO.out.size)).mono HB.out.size));have oY:=hid (Own.lower ho (Nat.le_trans HB.out.size aO.out.size));clear ho hb O8)
  |(go_at_call 181;(with_reducible refine(uR.out _ _ oY.out bJ.out.size).mono ?_);rintro e u3 ⟨rfl,⟨p3,d3,rfl,I0⟩,hb⟩;have xp:=hid (UJ oY.out);have cH:=hid (bJ.out.trans hb);have El:=hid I0;clear hb I0 uR))
 go_ret;exact⟨_,_,rfl,El.out,xp.out,cH.out⟩
end Zu
namespace Zy
open Zq (ae aj ai)
open Zp (iE aL At bS eu fN af aD aA ag dQ bQ)
open Zw (Lz bC bH)
open Zu (It take)
open Zz (Nt)
section
variable {R:Nat->Prop}{B q qw qq qd:Nat}{w w' u u':World}{y:Value}{c:Cf}{e e' e2:Eg}
theorem Bb {c:Cf}{e:Eg}(h:bu c e):∀l:List It,bu c ⟨e.L,dt e.Q l,e.D⟩:=fun l=>ll h (ju l e.Q)
theorem LQ {p:Option Addr}{l:List It}(h:aL Zu.aN w p l)(hp:∀a,p=some a->w'.heap[a.block]? =w.heap[a.block]?):aL Zu.aN w' p l:=by
 rcases h with h | ⟨b,o,rfl,hc⟩
 ·exact .inl h
 ·have e:w'.heap[b]? =w.heap[b]? :=hp ⟨b,o,none⟩ rfl
  exact .inr ⟨b,o,rfl,fun j hj k v hv=>(World.cell?_of_block (a:=⟨b,o+j*Zu.aN.n+k,none⟩) e).trans (hc j hj k v hv)⟩
theorem UK (P:Zu.jz Zu.Pq)(h:In R B w q y qw qq qd c e)(hB:B<=w.heap.size)(hg:Zu.bu c.qu e.Q)(hl:e.Q.length<=16)(id:Int)(hi:Zu.bC id) :
 Calls prog 162 #[.pointer (some ⟨qq,0,none⟩),.int .i64 id] w fun x' w'=>x'=.returned (.tuple #[Zu.val (Zu.take e.Q id).2.1,.bool (Zu.take e.Q id).2.2])/\bZ R B w q y qw qq qd c ⟨e.L,(Zu.take e.Q id).1,e.D⟩ w'/\∀g,R g->g<w.heap.size->w'.heap[g]? =w.heap[g]? :=
 (P.take (AJ h.qu) hB hg hl id hi).mono fun _ _ ⟨he,ht⟩=>⟨he,h.sy ht,fun g hr hg=>ht.rest g (.inr hr) hg⟩
theorem DY (P:Zu.jz Zu.Pq)(h:In R B w q y qw qq qd c e)(hB:B<=w.heap.size)(hg:bu c e)(hf:iL e){key:Int}(_:bC key)(fX:Int) :
 Calls prog 108 #[.pointer (some ⟨q,0,none⟩),.int .i64 key,.int .i64 fX] w fun x w'=>∃v,x=.returned v/\eo w' v (eC e key fX).2/\bZ R B w q y qw qq qd c (eC e key fX).1 w':=by
 have c0:=Zu.RG h.qu hg.q hf.2.1 key;have aT:=Zu.lR e.Q key;have Tt:=hf.2.1;have SV:=hid (show eC e key fX=(⟨e.L,dt e.Q (Zu.of e.Q key),e.D⟩,all (Zu.of e.Q key) fX) from rfl)
 have Vq:=hid (fun x (hx:x∈Zu.of e.Q key)=>(hg.q.mO x (Zu.Gj hx).1).2.1)
 generalize eC e key fX=RR at *;generalize Zu.of e.Q key=l at *;have c2:=hid (fun u p k (hl:aL Zu.aN u p l)=>ru (d:=k) hl (by omega) fX)
 have SS:=hid (fun(j:Nat) (hj:j<l.length)=>vR (Q:=e.Q) hj)
 have S0:=hid (show dt e.Q (l.take 0)=e.Q from rfl)
 have SL:=hid (show dt e.Q l=dt e.Q (l.take l.length) by rw[List.take_length])
 have SN:=hid (fun j=>Nat.le_trans (tM e.Q (l.take j)) Tt)
 have SG:=hid (fun j=>Bb hg (l.take j))
 have eF:=hid hB;have HFL:=hid (fun g (hg:R g)=>h.low g hg)
 have HV:=hid h;have zV:=h.jh.uj;generalize all l fX=A at *;clear h hB hg hf;go_enter func108,ntmps108
 go_wp2_with (go_at_call 138;(with_reducible refine c0.mono ?_);rintro e1 w1 ⟨p,d,rfl,hl,JO,hb⟩;have HL:=hid hl;have HGE:=hid JO;have aO:=hid hb;clear hl JO hb c0)
 have tV:=hid (HV.out.grow aO.out);have Vu:=hid (bZ.same HV.out eF.out aO.out);have bJ:=hid (Nat.le_trans eF.out aO.out.size);go_loopw [20] (fun i wr=>∃(j:Nat),j<=l.length/\i=.int .i64 (j:Int)/\Hid (bZ (fun g=>R g∨w.heap.size<=g/\g<w1.heap.size) B w1 q y qw qq qd c ⟨e.L,dt e.Q (l.take j),e.D⟩ wr)/\Hid (∀g,(R g∨w.heap.size<=g/\g<w1.heap.size)->wr.heap[g]? =w1.heap[g]?)) (fun i _=>l.length-(intOf i).toNat)
 case atStart=>exact ⟨0,by omega,rfl,by rw[S0.out];exact hid (bZ.same tV.out bJ.out (Below.refl _ _)),hid fun _ _=>rfl⟩
 case round =>
  obtain⟨j,hj,rfl,hst,gL⟩:=hrel;have RM:=hid (fun g (hg:R g)=>Nat.lt_of_lt_of_le (HFL.out g hg) (Nat.le_trans aO.out.size hst.out.off.size))
  by_cases aC:j<l.length
  ·have bE:(j:Int)<(l.length:Int):=by omega
   obtain⟨b,o,rfl,ha1⟩:=Zu.bj HL.out aC;have hRb:R b∨w.heap.size<=b/\b<w1.heap.size:=.inr ⟨HGE.out _ rfl,World.block_lt_of_cell? _ _ (ha1 0 _ rfl)⟩;have ha:At Zu.aN wr b (o+j*5) (l.getD j Zu.z):=fun k v hv=>(World.cell?_of_block (a:=⟨b,o+j*5+k,none⟩) (gL.out b hRb)).trans (ha1 k v hv)
   obtain⟨k0,k1,k2,k3,k4⟩:=Zu.xu ha;have Bh:=hid (SS.out j aC);have hI9:Zu.bC (l.getD j Zu.z).id:=by have:=Vq.out _ (List.getElem_mem aC);simpa[List.getD,aC] using this
   have Us:=hid (Nat.le_trans bJ.out hst.out.off.size);have AB:=hid (fun(R':Nat->Prop) u (hu:In R' B u q y qw qq qd c ⟨e.L,dt e.Q (l.take j),e.D⟩) (hb:B<=u.heap.size)=>UK P hu hb (SG.out j).q (SN.out j) (l.getD j Zu.z).id hI9)
   clear SS SN S0 SL SG Vq ha ha1 SV P;generalize l.getD j Zu.z=x at *;have Eo:=hid (cQ wr (.cells #[.int .i64 x.id,.int .i64 x.key,.int .i64 x.cost,.int .i64 x.bU,.int .i64 x.cJ] 136));have lX:=hid (heap_alloc_new wr (.cells #[.int .i64 x.id,.int .i64 x.key,.int .i64 x.cost,.int .i64 x.bU,.int .i64 x.cJ] 136));have XW:=(hst.out.kr.below Eo.out).jh.uj;obtain⟨xi,xk,xc,xs,xt⟩:=x;simp only at k0 k1 k2 k3 k4 AB Bh Eo lX XW;have t0:=(bQ lX.out).1;clear zV;go_wp2;generalize wr.alloc (.cells #[.int .i64 xi,.int .i64 xk,.int .i64 xc,.int .i64 xs,.int .i64 xt] 136)=w2 at *;have Em:=hid ((hst.out.kr.grow Eo.out).below (Below.refl _ w2).drew);have c3:=AB.out _ _ Em.out (Nat.le_trans Us.out (Eo.out.drew).size);have hRX:(R wr.heap.size∨w.heap.size<=wr.heap.size/\wr.heap.size<w1.heap.size)∨wr.heap.size<=wr.heap.size/\wr.heap.size<w2.heap.size:=.inr ⟨Nat.le_refl _,ae lX.out⟩;go_region_held3 (fun u=>u.cell? ⟨q,10,none⟩=some (.pointer (some ⟨qq,0,none⟩))/\u.cell? ⟨wr.heap.size,0,none⟩=some (.int .i64 xi)) (first | with_reducible assumption | exact⟨XW,t0⟩) (first
    |(go_at_call 162;(with_reducible refine c3.mono ?_);rintro e1 w4 ⟨rfl,h4,hk4⟩;have H4:=hid h4;have VL:=hid hk4;have y4:_/\_:=⟨h4.kr.jh.uj,(bQ ((hk4 _ hRX (ae lX.out)).trans lX.out)).1⟩;clear h4 hk4 c3))
   go_wp2;go_roundw
   case rel=>exact ⟨j+1,by omega,by go_num,by rw[Bh.out];exact hid ((hst.out.on bJ.out (Eo.out.trans ((Below.refl w2.heap.size w2).drew.mono Eo.out.size))).trans (H4.out.sub fun g hg=>.inl hg)),hid fun g hg=>(VL.out g (.inl hg) (by rcases hg with hg | hg;exact Nat.lt_of_lt_of_le (RM.out _ hg) Eo.out.size;exact Nat.lt_of_lt_of_le hg.2 (Nat.le_trans hst.out.off.size Eo.out.size))).trans ((Eo.out.block g (by rcases hg with hg | hg;exact RM.out _ hg;exact Nat.lt_of_lt_of_le hg.2 hst.out.off.size)).trans (gL.out g hg))⟩
   case measure=>simp only[intOf];omega
  ·have bE:¬(j:Int)<(l.length:Int):=by omega
   obtain rfl:j=l.length:=by omega
   have HR:=hid (show RR=(⟨e.L,dt e.Q (l.take l.length),e.D⟩,A) by rw[SV.out,SL.out])
   have HLI:Hid (aL Zu.aN wr p l):=by
    by_cases h0:0<l.length
    ·obtain ⟨b,o,rfl,ha1⟩:=Zu.bj HL.out h0
     have hRb:R b∨w.heap.size<=b/\b<w1.heap.size:=.inr ⟨HGE.out _ rfl,World.block_lt_of_cell? _ _ (ha1 0 _ rfl)⟩;exact hid (LQ HL.out fun a ea=>by cases ea;exact gL.out b hRb)
    ·exact hid (.inl (List.eq_nil_of_length_eq_zero (by omega)))
   clear SV SL SS SN S0;go_wp2_with (go_at_call 35;(with_reducible refine(c2.out _ _ _ HLI.out).mono ?_);rintro e1 w5 ⟨v,rfl,ht,hb⟩;have HT:=hid ht;have jy:=hid hb;clear ht hb c2)
   go_ret;exact⟨v,rfl,by rw[HR.out];exact HT.out,by rw[HR.out];exact Vu.out.trans ((hst.out.sub fun _ h=>.inl h).on bJ.out jy.out)⟩
end
end Zy
end Go.Proofs.YtbgdlokegibkmaaGreat
