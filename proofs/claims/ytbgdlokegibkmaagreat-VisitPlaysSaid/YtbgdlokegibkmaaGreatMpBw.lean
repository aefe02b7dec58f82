/-
  A part of the proof of VisitPlays.
-/
import Derived.Test.YtbgdlokegibkmaaGreatMpBo
import Derived.Test.YtbgdlokegibkmaaGreatMpBq
import Derived.Test.YtbgdlokegibkmaaGreatMpBv
set_option maxRecDepth 100000
set_option maxHeartbeats 8000000
namespace Go.Proofs.YtbgdlokegibkmaaGreat
open Go.RowKit
open Tryz
open Lib (hid)
namespace Zn
open Zx (Rw Tb Tk aq ak af)
open Zv (dK ar bq cI bV held bN gD)
open Zq (cX ae aj ai)
open Zp (aL bS fN)
open Zy (Cf Eg An Ed aM bD fh eo iK eW In bZ gX iL ib dL eC)
open Zo (aS)
open Zw (bC)
theorem Hj {c:Cf}{e:Eg}:∀x∈dL c e,0<=Zv.cB c.zs x.1:=by
 intro x hx;unfold dL at hx;obtain⟨h1,h2⟩:=List.mem_filter.1 hx;obtain⟨k,-,rfl⟩:=List.mem_map.1 h1;simp only[decide_eq_true_eq] at h2;unfold Zy.aK at h2;by_cases h:0<=c.fT k
 ·unfold Cf.fT at h
  unfold Zv.cB;split at h
  ·rename_i h3
   rw[if_pos (by omega)]
   exact h
  ·omega
 ·rw [if_neg h] at h2
  omega
theorem Ph {t:Tb}{key now:Int}{c:Cf}(h:0<=Zv.cB c.zs key):((bV t key now (gW c)).2=0)∨((bV t key now (gW c)).2=3/\(bV t key now (gW c)).1=t):=by
 unfold bV;rw[if_neg (show ¬Zv.cB (gW c).aH key<0 from by show ¬Zv.cB c.zs key<0;omega)]
 split
 ·exact .inl rfl
 ·split
  ·exact .inr ⟨rfl,rfl⟩
  ·exact .inl rfl
theorem Pj (c:Cf)(node gen now:Int)(s:Gs)(w:Int×Int)(h:(bV s.t w.1 now (gW c)).2=0):CM c node gen now s w=⟨(uD c node gen now (bV s.t w.1 now (gW c)).1 s.e w).1,(uD c node gen now (bV s.t w.1 now (gW c)).1 s.e w).2.1,s.out++(uD c node gen now (bV s.t w.1 now (gW c)).1 s.e w).2.2⟩:=by
 unfold CM uD;rw[if_neg (by simp[h])]
 split
 ·rfl
 ·rename_i hn
  rw[rG hn];simp
theorem D5 (c:Cf)(node gen now:Int)(s:Gs)(w:Int×Int)(h:(bV s.t w.1 now (gW c)).2=3):CM c node gen now s w=⟨s.t,(eC s.e w.1 4).1,s.out++(eC s.e w.1 4).2⟩:=by
 unfold CM;rw[if_pos (by simp[h])]
theorem Pk (c:Cf)(node gen now:Int)(t:Tb)(e:Eg)(w:Int×Int):(uD c node gen now t e w).2.2.length<=e.Q.length:=by
 unfold uD;split
 ·exact sS _ _ _
 ·exact Nat.zero_le _
def Wl (w:World)(pl:Option Addr)(l:List (Int×Int)):Prop:=aL ib w pl l/\eW w pl 174
theorem Wl.off {w w':World}{pl:Option Addr}{l:List (Int×Int)}(h:Wl w pl l)(ho:fN Zy.eV w w'):Wl w' pl l:=⟨Zy.Cr h.1 h.2 ho (by simp[Zy.eV]),h.2.off ho (by simp[Zy.eV])⟩
theorem Wl.kept {w w':World}{pl:Option Addr}{l:List (Int×Int)}(h:Wl w pl l)(hk:bS mr w w'):Wl w' pl l:=⟨Zy.J4 h.1 h.2 hk (by decide),h.2.kept hk (by decide)⟩
section
variable {B gb ga:Nat}{f:Gf}{y:Value}{qw qq qd:Nat}{R0 R:Nat->Prop}{w0:World}{p:Option Addr}{d:Nat}{t:Tb}{e:Eg}{u:World}
theorem Hk (P:Zu.jz Zu.Pq){m:Nat}{vo:Value}(h:Gr B gb ga f y qw qq qd R0 R w0 p d ⟨t,e,[]⟩ vo u)(gL:fE f.c f.node m t e)(hm:m<=676)(hD:∀x∈e.D,bC x.key)(hq:f.c.qu<=16)(hk:f.c.ke<=16)(hn:bC f.now)(Kw:bC f.gen) :
 Calls prog 56 #[.pointer (some ⟨gb,0,none⟩),.func (.func 57) #[] #[.pointer (some ⟨ga,0,none⟩)]] u fun x w'=>x=.returned (.tuple #[])/\∃R' p' d' Bl,Gr B gb ga f y qw qq qd R0 R' w0 p' d' (mK f.c f.node f.gen f.now (dL f.c e) ⟨t,e,[]⟩) Bl w':=by
 have D6:=gL.lens hq (by omega)
 have hWN:=sQ (c:=f.c) (e:=e);have hWF:=sR (c:=f.c) D6.2.1 D6.2.2;have hWR:=Hj (c:=f.c) (e:=e);have TZ:=hid (Zy.Hh h.gu.kr gL.ie ⟨Nat.le_trans D6.1 (by decide),D6.2.1,D6.2.2⟩ hD)
 generalize dL f.c e=l at *;have FH:=hid (fun(j:Nat) (hj:j<l.length)=>FC f.c f.node f.gen f.now l ⟨t,e,[]⟩ hj)
 have Bj:=hid (fun(j:Nat)=>lH (c:=f.c) (node:=f.node) hk Kw hn (l.take j) (s:=⟨t,e,[]⟩) (fun x hx=>hWN x (List.mem_of_mem_take hx)) gL)
 have uR:=hid (fun(j:Nat) (hj:j<=l.length)=>uP (c:=f.c) (node:=f.node) hk hq (by omega) Kw hn (s:=⟨t,e,[]⟩) hWN gL j hj)
 have FB:=hid (show mK f.c f.node f.gen f.now (l.take l.length) ⟨t,e,[]⟩=mK f.c f.node f.gen f.now l ⟨t,e,[]⟩ by rw[List.take_length])
 have Eh:=hid (show mK f.c f.node f.gen f.now (l.take 0) ⟨t,e,[]⟩=⟨t,e,[]⟩ from rfl)
 have Me:=hid hWN;have HWR:=hid hWR;have HP:=hid P;obtain⟨-,-,-,-,-,x5,-⟩:=h.gu.cells;have HG:=hid h;clear h gL hWN hWR hD P;go_enter func56,ntmps56
 go_wp2_with (go_at_call 107;(with_reducible refine TZ.out.mono ?_);rintro x u1 ⟨pl,kl,rfl,iG,ht1,hb1⟩;have pz:=hid (show Wl u1 pl l from⟨iG,ht1⟩);have aO:=hid hb1;clear iG ht1 hb1)
 have PF:=hid (show Gr B gb ga f y qw qq qd R0 R w0 p d (mK f.c f.node f.gen f.now (l.take 0) ⟨t,e,[]⟩) vo u1 from by rw[Eh.out];exact HG.out.on aO.out)
 clear x5 TZ HG aO Eh;go_loopw [12] (fun i wr=>∃(j:Nat) (R':Nat->Prop) (p':Option Addr) (d':Nat) (Bl:Value),j<=l.length/\i=.int .i64 (j:Int)/\Hid (Gr B gb ga f y qw qq qd R0 R' w0 p' d' (mK f.c f.node f.gen f.now (l.take j) ⟨t,e,[]⟩) Bl wr)/\Hid (Wl wr pl l)) (fun i _=>l.length-(intOf i).toNat)
 case atStart=>exact ⟨0,R,p,d,vo,by omega,rfl,PF,pz⟩
 case round =>
  obtain⟨j,R1,p1,d1,vo1,hj,rfl,hZ,hW⟩:=hrel;have hkj:=Bj.out j;have hoj:=uR.out j hj;simp only[List.length_nil,Nat.zero_add] at hoj;by_cases aC:j<l.length
  ·have bE:(j:Int)<(l.length:Int):=by omega
   have hst:=FH.out j aC;clear FH Bj FB PF uR pz;obtain⟨s1,hs1⟩:∃s1,s1=mK f.c f.node f.gen f.now (l.take (j+1)) ⟨t,e,[]⟩:=⟨_,rfl⟩;rw[<-hs1] at hst;have Ej:=hid hs1;clear hs1;generalize mK f.c f.node f.gen f.now (l.take j) ⟨t,e,[]⟩=s at *;obtain⟨bl,ol,rfl,hc0,hc1⟩:∃b o,pl=some ⟨b,o,none⟩/\wr.cell? ⟨b,o+j*2,none⟩=some (.int .i64 (l.getD j (0,0)).1)/\wr.cell? ⟨b,o+j*2+1,none⟩=some (.int .i64 (l.getD j (0,0)).2):=by
    rcases hW.out.1 with h0 | ⟨b,o,e1,hc⟩
    ·rw [h0] at aC;simp at aC
    ·exact ⟨b,o,e1,hc j aC 0 _ rfl,hc j aC 1 _ rfl⟩
   have vk:l.getD j (0,0)∈l:=by simp[List.getD,aC]
   have xL:bC (l.getD j (0,0)).1:=Me.out _ vk;have hrt:=HWR.out _ vk;clear vk;generalize l.getD j (0,0)=kw at *;obtain⟨key,aF⟩:=kw;simp only at xL hc0 hc1 hrt;have zC:=hkj.lens hq (by omega)
   have QK:=Zv.yK hkj.en (key:=key) (now:=f.now) xL hn (f:=gW f.c) hk;go_upto_region 3 with (fail)
   have yF:=cQ wr (.cells #[.int .i64 key,.int .i64 aF] 174);have X8:=hid (hZ.out.on yF);have HWA:=hid (hW.out.off (Zp.fN.cw yF));have nt:=hid (show(wr.alloc (.cells #[.int .i64 key,.int .i64 aF] 174)).heap[wr.heap.size]? =some (.cells #[.int .i64 key,.int .i64 aF] 174 (0,0)) from heap_alloc_new wr _)
   clear yF hc0 hc1 hZ hW;have b9:=Ph (t:=s.t) (now:=f.now) hrt;have UH:=hid (zy X8.out.gu X8.out.bg hkj.en key);rcases b9 with h0 | ⟨h0,kj⟩
   ·have hs2:=hst.trans (Pj f.c f.node f.gen f.now s (key,aF) h0)
    simp only at hs2;rw[h0] at UH;generalize(bV s.t key f.now (gW f.c)).1=T at *;have tJ:=hid (fun(v:World) R' p' d' (hv:Gu B gb f y qw qq qd R' p' d' T s.e v)=>LO HP.out hv X8.out.bg QK hkj.ie ⟨Nat.le_trans zC.1 (by decide),zC.2.1,zC.2.2⟩ xL aF Kw)
    have rM:=Pk f.c f.node f.gen f.now T s.e (key,aF);generalize uD f.c f.node f.gen f.now T s.e (key,aF)=LN at *;obtain⟨LT,LE,LA⟩:=LN;simp only at hs2 tJ rM;have b0:(wr.alloc (.cells #[.int .i64 key,.int .i64 aF] 174)).cell? ⟨wr.heap.size,0,none⟩=_:=cell_of_row _ _ 0 _ _ (0,0) nt.out;generalize wr.alloc (.cells #[.int .i64 key,.int .i64 aF] 174)=wa at *;generalize wr.heap.size=gw at *;go_wp2_with (first
     |(go_at_call 103;(with_reducible refine UH.out.mono ?_);rintro x u2 ⟨rfl,R2,p2,d2,hg2,hf2⟩;have CZ:=hid (X8.out.step hg2 hf2);have Eo:=hid (HWA.out.off hf2.off);have hb2:u2.heap[gw]? =some (.cells #[.int .i64 key,.int .i64 aF] 174 (0,0)):=hf2.off.block gw _ _ _ nt.out (by simp[Zy.eV]);have b2:u2.cell? ⟨gw,0,none⟩=some (.int .i64 key):=(by rw[cell_of_row _ gw 0 _ _ (0,0) hb2];rfl);have b3:u2.cell? ⟨gw,1,none⟩=some (.int .i64 aF):=(by rw[cell_of_row _ gw 1 _ _ (0,0) hb2];rfl);clear hg2 hf2 hb2)
     |(go_at_call 109;(with_reducible refine(tJ.out _ _ _ _ CZ.out.gu).mono ?_);rintro x u3 ⟨v3,rfl,hs3,R3,p3,d3,hg3,hf3⟩;have Vz:=hid hs3;have qZ:=hid (CZ.out.step hg3 hf3);have Vy:=hid (Eo.out.off hf3.off);clear hg3 hf3 hs3)
     |(go_at_call 57;(with_reducible refine(zn qZ.out.var qZ.out.ic (zl Vz.out) (by simp only;omega)).mono ?_);rintro x u4 ⟨rfl,YV,X9,Ya,SK,Yb,Yc,Yd⟩;have Vj:=hid (qZ.out.Xz X9 Ya SK Yb Yc Yd);have Mm:=hid (Vy.out.kept SK);clear X9 Ya SK Yb Yc Yd))
    refine⟨⟨j+1,R3,p3,d3,YV,by omega,by simp,?_,Mm⟩,by simp only[intOf];omega⟩
    rw[<-Ej.out,hs2];exact Vj
   ·have hs2:=hst.trans (D5 f.c f.node f.gen f.now s (key,aF) h0)
    simp only at hs2;rw[h0,kj] at UH;have YU:=hid (fun(v:World) R' p' d' (hv:Gu B gb f y qw qq qd R' p' d' s.t s.e v)=>Zy.DY HP.out hv.kr hv.size hkj.ie ⟨Nat.le_trans zC.1 (by decide),zC.2.1,zC.2.2⟩ xL 4)
    have rM:=pT s.e key 4;generalize eC s.e key 4=RF at *;obtain⟨RE,RA⟩:=RF;simp only at hs2 YU rM;have b0:(wr.alloc (.cells #[.int .i64 key,.int .i64 aF] 174)).cell? ⟨wr.heap.size,0,none⟩=_:=cell_of_row _ _ 0 _ _ (0,0) nt.out;generalize wr.alloc (.cells #[.int .i64 key,.int .i64 aF] 174)=wa at *;generalize wr.heap.size=gw at *;go_upto_region 4 with (go_at_call 103;(with_reducible refine UH.out.mono ?_);rintro x u2 ⟨rfl,R2,p2,d2,hg2,hf2⟩;have CZ:=hid ((X8.out.step hg2 hf2).on (Below.refl _ _).drew);have Eo:=hid ((HWA.out.off hf2.off).off (Zp.fN.cw (Below.refl u2.heap.size u2).drew));have bJ:=hid (show u2.drew.heap[gw]? =some (.cells #[.int .i64 key,.int .i64 aF] 174 (0,0)) from hf2.off.block gw _ _ _ nt.out (by simp[Zy.eV]));clear hg2 hf2)
    obtain⟨-,-,-,-,-,x5,-⟩:=CZ.out.gu.cells;have b2:u2.drew.cell? ⟨gw,0,none⟩=some (.int .i64 key):=by rw[cell_of_row _ gw 0 _ _ (0,0) bJ.out];rfl
    have z0:=And.intro x5 b2;clear x5 b2 b0;go_region_held3 (fun v=>v.cell? ⟨gb,5,none⟩=some (.pointer (some ⟨f.q,0,none⟩))/\v.cell? ⟨gw,0,none⟩=some (.int .i64 key)) (first | with_reducible assumption) (first
     |(go_at_call 108;(with_reducible refine(YU.out _ _ _ _ CZ.out.gu).mono ?_);rintro x u3 ⟨v3,rfl,hs3,mN⟩;have Vz:=hid hs3;have qZ:=hid (CZ.out.step (CZ.out.gu.kS mN) (fH.lL mN));have Vy:=hid (Eo.out.off mN.off);have cH:=hid (mN.off.block gw _ _ _ bJ.out (by simp[Zy.eV]));have z1:_/\_:=⟨qZ.out.gu.cells.2.2.2.2.2.1,(show u3.cell? ⟨gw,0,none⟩=some (.int .i64 key) from(by rw[cell_of_row _ gw 0 _ _ (0,0) cH.out];rfl))⟩;clear hs3 mN)
     |(go_at_call 57;(with_reducible refine(zn qZ.out.var qZ.out.ic (zl Vz.out) (by simp only;omega)).mono ?_);rintro x u4 ⟨rfl,YV,X9,Ya,SK,Yb,Yc,Yd⟩;have Vj:=hid (qZ.out.Xz X9 Ya SK Yb Yc Yd);have Mm:=hid (Vy.out.kept SK);have z2:_/\_:=⟨Vj.out.gu.cells.2.2.2.2.2.1,(show u4.cell? ⟨gw,0,none⟩=some (.int .i64 key) from(by rw[cell_of_row _ gw 0 _ _ (0,0) (SK.block gw _ _ _ cH.out (by decide))];rfl))⟩;clear X9 Ya SK Yb Yc Yd))
    all_goals (go_wp2_with (fail))
    all_goals (refine⟨⟨j+1,R2,p2,d2,YV,by omega,by simp,?_,Mm⟩,by simp only[intOf];omega⟩)
    all_goals (rw[<-Ej.out,hs2])
    all_goals exact Vj
  ·have bE:¬(j:Int)<(l.length:Int):=by omega
   have Qd:j=l.length:=by omega
   subst Qd;rw[FB.out] at hZ;clear FH Bj FB PF uR pz;go_wp2_with (fail)
   go_end0
   exact⟨rfl,R1,p1,d1,vo1,hZ.out⟩
end
end Zn
end Go.Proofs.YtbgdlokegibkmaaGreat
