/-
  A part of the proof of VisitPlays.
-/
import Derived.Deep.DeepCutAuto
import Derived.Test.YtbgdlokegibkmaaGreatMpAo
import Derived.Test.YtbgdlokegibkmaaGreatMpAm
set_option maxRecDepth 100000
set_option maxHeartbeats 4000000
namespace Go.Proofs.YtbgdlokegibkmaaGreat
open Go.RowKit
open Tryz
open Lib (hid)
namespace Zn
open Zx (Rw Tb Tk aq eh bn)
open Zv (cI Up bV held has)
open Zy (Cf Eg An bB drop dL eC)
open Zw (Lz bC)
open Zu (It)
def gW (c:Cf):Zv.Cf:=⟨c.n,c.sk,c.tl,c.va,c.lo,c.he,c.ke,c.qu,c.zs⟩
def Sb (c:Cf)(node gen now:Int)(s:Tb×Eg)(key:Int):Tb×Eg :=
 ((Zv.settle (bV s.1 key now (gW c)).1 key node (bB s.2 key gen).2).1,(bB s.2 key gen).1)
def mJ (c:Cf)(node gen now:Int)(l:List Int)(s:Tb×Eg):Tb×Eg:=l.foldl (Sb c node gen now) s
def aP (c:Cf)(node gen now:Int)(t:Tb)(e:Eg):Tb×Eg :=
 ((mJ c node gen now (held t node) (t,e)).1,drop (mJ c node gen now (held t node) (t,e)).2 gen)
structure Gs where
 t:Tb
 e:Eg
 out:List An
def lz (c:Cf)(key gen n now:Int):Lz:=⟨key,gen,n,0,Zr.add [now,c.tl]⟩
def CM (c:Cf)(node gen now:Int)(s:Gs)(w:Int×Int):Gs :=
 if (bV s.t w.1 now (gW c)).2≠0 then ⟨s.t,(eC s.e w.1 4).1,s.out++(eC s.e w.1 4).2⟩
 else if 0<(Zv.aQ (bV s.t w.1 now (gW c)).1 w.1 node w.2).2 then
  ⟨(Zv.aQ (bV s.t w.1 now (gW c)).1 w.1 node w.2).1,
    (Zy.aQ s.e (lz c w.1 gen (Zv.aQ (bV s.t w.1 now (gW c)).1 w.1 node w.2).2 now) now).1,
    s.out++(Zy.aQ s.e (lz c w.1 gen (Zv.aQ (bV s.t w.1 now (gW c)).1 w.1 node w.2).2 now) now).2⟩
 else ⟨(Zv.aQ (bV s.t w.1 now (gW c)).1 w.1 node w.2).1,s.e,s.out⟩
def mK (c:Cf)(node gen now:Int)(l:List (Int×Int))(s:Gs):Gs:=l.foldl (CM c node gen now) s
def right (c:Cf)(t:Tk)(node now:Int):Bool :=
 bn t&&decide (c.bI=0)&&decide ((t.stamps.length:Int)=c.n)&&decide (0<=node)&&decide (node<c.n)&&decide (0<=now)&&decide (now<4611686018427387904)
def visit (c:Cf)(node now:Int)(t:Tk)(e:Eg):Tk×Eg×List An :=
 if Zo.fW (Zo.cK t node now).1.stamps now c.va=true then
  (⟨t.gen,t.bP,(Zo.cK t node now).1.stamps,(mK c node t.gen now (dL c (aP c node t.gen now t.table e).2) ⟨(aP c node t.gen now t.table e).1,(aP c node t.gen now t.table e).2,[]⟩).t⟩,
    (mK c node t.gen now (dL c (aP c node t.gen now t.table e).2) ⟨(aP c node t.gen now t.table e).1,(aP c node t.gen now t.table e).2,[]⟩).e,
    (mK c node t.gen now (dL c (aP c node t.gen now t.table e).2) ⟨(aP c node t.gen now t.table e).1,(aP c node t.gen now t.table e).2,[]⟩).out)
 else ((Zo.cK t node now).1,e,[])
theorem jG (t:Tk)(node now:Int):(Zo.cK t node now).1.gen=t.gen/\(Zo.cK t node now).1.bP=t.bP/\(Zo.cK t node now).1.table=t.table/\(Zo.cK t node now).1.stamps.length=t.stamps.length:=by
 unfold Zo.cK;split
 ·exact ⟨rfl,rfl,rfl,rfl⟩
 ·exact ⟨rfl,rfl,rfl,by simp⟩
def eJ (L:List Lz):List Int:=L.map (·.key)
theorem vZ (L:List Lz)(k x now:Int):eJ (Zw.bH L k x now).1=eJ L:=by
 unfold Zw.bH;split
 ·rfl
 ·rename_i h
  obtain⟨h1,-⟩:=Zw.od h;obtain⟨h2,h3,-⟩:=Zw.cM h1;unfold eJ;rw[List.map_set];refine List.ext_getElem (by simp) fun i h4 h5=> ?_
  rw[List.getElem_set];split
  ·rename_i e
   subst e;simp only[List.getElem_map,Zw.more];unfold Zw.jl;simp[List.getD,h2]
  ·rfl
theorem tR (key now:Int):∀(l:List It)(e:Eg),eJ (Zy.serves key now l e).1.L=eJ e.L
 | [],e=>rfl
 | x :: l,e=>by
   unfold Zy.serves;split
   ·rw [tR key now l]
    exact vZ _ _ _ _
   ·rfl
theorem NS (x:Lz):∀(l:List Lz)(k:Int),k∈eJ (Zw.ins x l)↔k=x.key∨k∈eJ l:=by
 intro l
 induction l with
 | nil=>intro k;simp[Zw.ins,eJ]
 | cons y l ih =>
   intro k;unfold Zw.ins;split
   ·simp [eJ]
   ·have:=ih k
    simp only[eJ,List.map_cons,List.mem_cons] at this ⊢;rw[this]
    constructor
    ·rintro (h | h | h)
     ·exact .inr (.inl h)
     ·exact .inl h
     ·exact .inr (.inr h)
    ·rintro (h | h | h)
     ·exact .inr (.inl h)
     ·exact .inl h
     ·exact .inr (.inr h)
theorem Fp (e:Eg)(x:Lz)(now:Int):∀k∈eJ (Zy.aQ e x now).1.L,k=x.key∨k∈eJ e.L:=by
 intro k hk;unfold Zy.aQ at hk;split at hk
 ·unfold Zy.mI at hk
  rw[tR] at hk;simp only[Zw.put] at hk;split at hk
  ·exact .inr hk
  ·split at hk
   ·exact .inr hk
   ·exact (NS x e.L k).1 hk
 ·exact .inr hk
theorem CO (c:Cf)(e:Eg)(r:Zy.Rq)(now:Int):eJ (Zy.jF c e r now).1.L=eJ e.L:=by
 unfold Zy.jF Zy.bR
 repeat' split
 all_goals first | rfl | exact vZ _ _ _ _
theorem Fq {e:Eg}(h:Zw.bu e.L)(key gen:Int):∀k∈eJ (bB e key gen).1.L,k∈eJ e.L/\k≠key:=by
 intro k hk;unfold bB Zw.bB at hk;simp only at hk;by_cases h0:Zw.au e.L key<0
 ·rw [if_pos h0] at hk
  refine⟨hk,fun ek=> ?_⟩
  obtain⟨x,hx,rfl⟩:=List.mem_map.1 hk;exact Zw.fJ h0 x hx ek
 ·rw [if_neg h0] at hk
  obtain⟨h2,h3,-⟩:=Zw.cM (show 0<=Zw.au e.L key by omega)
  obtain⟨x,hx,rfl⟩:=List.mem_map.1 hk;refine⟨List.mem_map.2 ⟨x,List.mem_of_mem_eraseIdx hx,rfl⟩,fun ek=> ?_⟩
  obtain⟨i,hi,e1⟩:=List.mem_iff_getElem.1 hx;rw[List.getElem_eraseIdx] at e1;have abe:Zw.jl e.L key=e.L[(Zw.au e.L key).toNat]:=by unfold Zw.jl;simp[List.getD,h2]
  rw[abe] at h3;split at e1
  ·rename_i aC
   have:=List.pairwise_iff_getElem.1 h.en i _ (by omega) h2 aC
   rw[e1] at this;omega
  ·rename_i aC
   rw[List.length_eraseIdx] at hi;have TP:i+1<e.L.length:=by
    split at hi <;>omega
   have:=List.pairwise_iff_getElem.1 h.en _ (i+1) h2 TP (by omega)
   rw[e1] at this;omega
theorem Kd (e:Eg)(gen:Int):∀k∈eJ (drop e gen).L,k∈eJ e.L:=by
 intro k hk;obtain⟨x,hx,rfl⟩:=List.mem_map.1 hk;exact List.mem_map.2 ⟨x,(List.mem_filter.1 hx).1,rfl⟩
def TQ (node:Int)(t:Tb)(L:List Lz):Prop:=∀k∈eJ L,has t k node=true
theorem TQ.Bk {node:Int}{t:Tb}{L:List Lz}(h:TQ node t L)(ht:cI 0 t)(hg:Zw.bu L):L.length<=16:=by
 have h1:(eJ L).Pairwise (·<·):=List.pairwise_map.2 hg.en
 have h2:∀k∈eJ L,k∈t.rows.map (·.key):=fun k hk=>by
  obtain⟨x,hx,rfl,-⟩:=(Zv.kP ht.up).1 (h k hk);exact List.mem_map.2 ⟨x,hx,rfl⟩
 have h3:=Zv.CI _ _ h1 h2;have:=Zv.iu ht;simp only[eJ,List.length_map] at h3;omega
structure fE (c:Cf)(node:Int)(m:Nat)(t:Tb)(e:Eg):Prop where
 en:cI 0 t
 ie:Zy.bu c e
 sr:TQ node t e.L
 jC:e.D.length<=m
theorem fE.lens {c:Cf}{node:Int}{m:Nat}{t:Tb}{e:Eg}(h:fE c node m t e)(hq:c.qu<=16)(hm:m<=700):e.L.length<=16/\e.Q.length<=16/\e.D.length<=700:=by
 have h1:=h.sr.Bk h.en h.ie.l;have h2:=h.ie.q.aw;have h3:=h.jC;omega
theorem pG {c:Cf}{e:Eg}(h:Zy.bu c e)(key gen:Int):Zy.bu c (bB e key gen).1:=⟨Zw.pG h.l _ _,h.q,h.nB⟩
theorem rS {c:Cf}{e:Eg}(h:Zy.bu c e)(gen:Int):Zy.bu c (drop e gen):=⟨Zw.rS h.l _,h.q,h.nB⟩
theorem CP {c:Cf}{e:Eg}(h:Zy.bu c e)(key fX:Int):Zy.bu c (eC e key fX).1:=Zy.ll h (Zy.ju _ _)
theorem Ke {c:Cf}{node:Int}{m:Nat}{s:Tb×Eg}(h:fE c node m s.1 s.2)(hc:c.ke<=16){key gen now:Int}(hk:bC key)(hn:bC now):fE c node (m+1) (Sb c node gen now s key).1 (Sb c node gen now s key).2:=by
 have hr:=Zv.yK h.en (key:=key) (now:=now) hk hn (f:=gW c) hc;refine⟨Zv.QG hr hk node _,pG h.ie key gen,fun k Pz=> ?_,?_⟩
 ·obtain ⟨h1,h2⟩:=Fq h.ie.l key gen k Pz
  show has (Zv.settle _ key node _).1 k node=true
  rw[Zv.Fo hr.up h2];exact Zv.vX h.en.up (h.sr k h1)
 ·have:=h.jC
  show(bB s.2 key gen).1.D.length<=m+1
  unfold bB;simp only;split
  ·simp;omega
  ·omega
theorem oK {c:Cf}{node:Int}(hc:c.ke<=16){gen now:Int}(hn:bC now):∀(l:List Int){m:Nat}{s:Tb×Eg},(∀k∈l,bC k)->fE c node m s.1 s.2->fE c node (m+l.length) (mJ c node gen now l s).1 (mJ c node gen now l s).2
 | [],m,s,_,h=>h
 | k :: l,m,s,hk,h=>by
   have:=oK hc (gen:=gen) hn l (fun x hx=>hk x (List.mem_cons_of_mem _ hx)) (Ke h hc (gen:=gen) (hk k List.mem_cons_self) hn)
   rw[show m+(k :: l).length=m+1+l.length by simp;omega]
   exact this
theorem qX {t:Tb}(h:cI 0 t)(node:Int):∀k∈held t node,bC k:=by
 intro k hk;unfold held Zv.bY at hk;obtain⟨r,hr,rfl⟩:=List.mem_map.1 hk;exact(h.dJ.rows r ((List.mem_filter.1 hr).1)).key
theorem iV {c:Cf}{node:Int}{m:Nat}{t:Tb}{e:Eg}(h:fE c node m t e)(hc:c.ke<=16){gen now:Int}(hn:bC now):fE c node (m+16) (aP c node gen now t e).1 (aP c node gen now t e).2:=by
 have h1:=oK (c:=c) (node:=node) hc (gen:=gen) hn (held t node) (s:=(t,e)) (qX h.en node) h;have h2:=Zv.vY h.en node;exact⟨h1.en,rS h1.ie gen,fun k hk=>h1.sr k (Kd _ gen k hk),Nat.le_trans h1.jC (by omega)⟩
theorem Iv (e:Eg)(x:Lz)(now:Int):(Zy.aQ e x now).1.D=e.D:=by
 unfold Zy.aQ;split
 ·exact (Zy.l6 x.key now _ _).2.2
 ·rfl
theorem sM {t:Tb}(_:cI 0 t){key:Int}(_:bC key)(node aF:Int):bC (Zv.aQ t key node aF).2:=by
 unfold Zv.aQ;split
 ·rename_i hm
  have h1:=Zv.Fg hm;have h2:Zv.bT (Zv.ah t key) aF<=2147483648:=by unfold Zv.bT;omega
  simp only[bC];omega
 ·simp [bC]
theorem NU {c:Cf}{key gen n now:Int}(hk:bC key)(hg:bC gen)(hn:bC n):Zw.kV (lz c key gen n now):=⟨hk,hg,hn,by simp[lz,bC],Zy.Ae _⟩
theorem Kf {c:Cf}{node:Int}{m:Nat}{s:Gs}(h:fE c node m s.t s.e)(hc:c.ke<=16){gen now:Int}(hg:bC gen)(hn:bC now){w:Int×Int}(hw:bC w.1):fE c node m (CM c node gen now s w).t (CM c node gen now s w).e:=by
 have hr:=Zv.yK h.en (key:=w.1) (now:=now) hw hn (f:=gW c) hc;unfold CM;split
 ·exact ⟨h.en,CP h.ie w.1 4,h.sr,h.jC⟩
 ·split
  ·rename_i h1 h2
   refine⟨Zv.Fm hr hw node _,Zy.E8 h.ie (NU hw hg (sM hr hw node w.2)) now,fun k hk=> ?_,by rw[Iv];exact h.jC⟩
   rcases Fp _ _ _ k hk with e | hk2
   ·rw [e]
    exact Zv.CK hr.up h2
   ·exact Zv.yN hr.up (Zv.vX h.en.up (h.sr k hk2))
  ·exact ⟨Zv.Fm hr hw node _,h.ie,fun k hk=>Zv.yN hr.up (Zv.vX h.en.up (h.sr k hk)),h.jC⟩
theorem lH {c:Cf}{node:Int}{m:Nat}(hc:c.ke<=16){gen now:Int}(hg:bC gen)(hn:bC now):∀(l:List (Int×Int)){s:Gs},(∀w∈l,bC w.1)->fE c node m s.t s.e->fE c node m (mK c node gen now l s).t (mK c node gen now l s).e
 | [],_,_,h=>h
 | w :: l,_,hw,h=>lH hc hg hn l (fun x hx=>hw x (List.mem_cons_of_mem _ hx)) (Kf h hc hg hn (hw w List.mem_cons_self))
open Zx (Rw Tb Tk aq eh bn cy)
open Zv (cI)
open Zy (Cf Eg An Rq kN e0)
open Zw (bC)
structure Av where
 visit:Bool
 eI:Bool
 r:Rq
 now:Int
def zv:Av:=⟨false,false,Zy.zr,0⟩
def tS (a:Av):Prop:=kN a.r/\bC a.now
structure Vs where
 t:Tk
 e:Eg
def fy (e:Eg)(a:Av):Eg:=if a.eI then (Zy.eI e).1 else e
def dw (c:Cf)(s:Vs)(now:Int):Vs×List An:=if right c s.t 0 now=true then (⟨(visit c 0 now s.t s.e).1,(visit c 0 now s.t s.e).2.1⟩,(visit c 0 now s.t s.e).2.2) else (s,[])
def Ap (c:Cf)(s:Vs)(a:Av):Vs×List An :=
 if a.visit then dw c ⟨s.t,fy s.e a⟩ a.now else (⟨s.t,(Zy.jF c (fy s.e a) a.r a.now).1⟩,(Zy.jF c (fy s.e a) a.r a.now).2)
def Kg (c:Cf)(s:Vs)(l:List Av)(j:Nat):Vs:=(l.take j).foldl (fun s a=>(Ap c s a).1) s
theorem yO (c:Cf)(s:Vs)(l:List Av):Kg c s l 0=s:=rfl
theorem yP (c:Cf)(s:Vs)(l:List Av){j:Nat}(h:j<l.length):Kg c s l (j+1)=(Ap c (Kg c s l j) (l.getD j zv)).1:=by
 unfold Kg;rw[List.take_succ_eq_append_getElem h,List.foldl_append];simp[List.getD,h]
structure tT (t:Tk):Prop where
 stamps:t.stamps.length<=100
 rows:t.table.rows.length<=100
 QH:∀r∈t.table.rows,r.out.length<=100
structure uJ (c:Cf)(m:Nat)(s:Vs):Prop where
 Bk:tT s.t
 ie:Zy.bu c s.e
 jC:s.e.D.length<=m
 xI:fE c 0 m s.t.table s.e∨(bn s.t=false/\s.e.L=[])
theorem uJ.lens {c:Cf}{m:Nat}{s:Vs}(h:uJ c m s)(hq:c.qu<=16)(hm:m<=700):s.e.L.length<=16/\s.e.Q.length<=16/\s.e.D.length<=700:=by
 rcases h.xI with hk | ⟨-,h0⟩
 ·exact hk.lens hq hm
 ·have h2:=h.ie.q.aw
  have h3:=h.jC;rw[h0];simp only[List.length_nil];omega
theorem uM {t:Tk}(h:bn t=true):bC t.gen:=by
 simp only[bn,Zx.lj,cy,Bool.and_eq_true,decide_eq_true_eq] at h;simp only[bC];omega
theorem pR {t:Tk}(h:bn t=true):cI 0 t.table:=by
 simp only[bn,Bool.and_eq_true] at h;exact Zv.pR h.2
theorem nH {c:Cf}{t:Tk}{node now:Int}(h:right c t node now=true):bn t=true/\c.bI=0/\(t.stamps.length:Int)=c.n/\0<=node/\node<c.n/\0<=now/\now<4611686018427387904:=by
 simp only[right,Bool.and_eq_true,decide_eq_true_eq] at h;obtain⟨⟨⟨⟨⟨⟨h1,h2⟩,h3⟩,h4⟩,h5⟩,h6⟩,h7⟩:=h;exact⟨h1,h2,h3,h4,h5,h6,h7⟩
theorem CQ {c:Cf}{m:Nat}{t:Tb}{e:Eg}(h:fE c 0 m t e)(hq:0<=c.qu):fE c 0 m t (Zy.eI e).1:=⟨h.en,Zy.uI hq,fun k hk=>by simp[Zy.eI,e0,eJ] at hk,by simp[Zy.eI,e0]⟩
theorem NV {t:Tk}(hs:t.stamps.length<=100)(h:cI 0 t.table):tT t:=⟨hs,Nat.le_trans (Zv.iu h) (by decide),fun r hr=>by have:=(h.dJ.rows r hr).len;omega⟩
theorem yR {c:Cf}(hq:0<=c.qu){t:Tk}(h:tT t)(m:Nat):uJ c m ⟨t,e0⟩:=by
 refine⟨h,Zy.uI hq,by simp[e0],?_⟩
 cases hk:bn t
 ·exact .inr ⟨rfl,rfl⟩
 ·exact .inl ⟨pR hk,Zy.uI hq,fun k hk=>by simp[e0,eJ] at hk,by simp[e0]⟩
theorem nI {c:Cf}(hq:0<=c.qu){m:Nat}{s:Vs}(h:uJ c m s)(a:Av):uJ c m ⟨s.t,fy s.e a⟩:=by
 unfold fy;split
 ·refine ⟨h.Bk,Zy.uI hq,by simp[Zy.eI,e0],?_⟩
  rcases h.xI with hk | ⟨h1,-⟩
  ·exact .inl (CQ hk hq)
  ·exact .inr ⟨h1,rfl⟩
 ·exact h
theorem Sc (c:Cf)(e:Eg)(r:Rq)(now:Int):(Zy.jF c e r now).1.D=e.D:=(Zy.Io c e r now).2
theorem Iw {c:Cf}{m:Nat}{s:Vs}(h:uJ c m s){r:Rq}(hr:kN r)(now:Int):uJ c m ⟨s.t,(Zy.jF c s.e r now).1⟩:=by
 have hg:=Zy.Nu h.ie hr now;refine⟨h.Bk,hg,by rw[Sc];exact h.jC,?_⟩
 rcases h.xI with hk | ⟨h1,h0⟩
 ·exact .inl ⟨hk.en,hg,fun k hk2=>hk.sr k (by rwa [CO] at hk2),by rw[Sc];exact hk.jC⟩
 ·refine .inr ⟨h1,?_⟩
  have:=CO c s.e r now;rw[h0] at this;simpa[eJ] using this
theorem Kh {c:Cf}{e:Eg}:∀x∈Zy.dL c e,bC x.1:=by
 intro x hx;unfold Zy.dL at hx;obtain⟨h1,h2⟩:=List.mem_filter.1 hx;obtain⟨k,-,rfl⟩:=List.mem_map.1 h1;simp only[decide_eq_true_eq] at h2;unfold Zy.aK at h2;by_cases h:0<=c.fT k
 ·unfold Cf.fT at h
  split at h
  ·rename_i h3
   simp only[bC];omega
  ·omega
 ·rw [if_neg h] at h2
  omega
theorem CR {c:Cf}(hk:c.ke<=16){m:Nat}{t:Tk}{e:Eg}{now:Int}(hg:bC t.gen)(hn:bC now)(h:fE c 0 m t.table e):fE c 0 (m+16) (visit c 0 now t e).1.table (visit c 0 now t e).2.1:=by
 unfold visit;split
 ·exact lH hk hg hn _ Kh (iV h hk hn)
 ·rw [(jG t 0 now).2.2.1]
  exact⟨h.en,h.ie,h.sr,Nat.le_trans h.jC (by omega)⟩
theorem Fs (c:Cf)(now:Int)(t:Tk)(e:Eg):(visit c 0 now t e).1.stamps.length=t.stamps.length:=by
 unfold visit;split
 ·exact (jG t 0 now).2.2.2
 ·exact (jG t 0 now).2.2.2
theorem nJ {c:Cf}(hk:c.ke<=16){m:Nat}{s:Vs}(h:uJ c m s){now:Int}(hn:bC now):uJ c (m+16) (dw c s now).1:=by
 unfold dw;split
 ·rename_i hr
  obtain⟨h1,-⟩:=nH hr;rcases h.xI with gL | ⟨h2,-⟩
  ·have h3:=CR hk (uM h1) hn gL
   exact⟨NV (by rw[Fs];exact h.Bk.stamps) h3.en,h3.ie,h3.jC,.inl h3⟩
  ·rw [h2] at h1
   simp at h1
 ·refine ⟨h.Bk,h.ie,Nat.le_trans h.jC (by omega),?_⟩
  rcases h.xI with gL | h2
  ·exact .inl ⟨gL.en,gL.ie,gL.sr,Nat.le_trans gL.jC (by omega)⟩
  ·exact .inr h2
theorem uJ.more {c:Cf}{m:Nat}{s:Vs}(h:uJ c m s):uJ c (m+16) s:=⟨h.Bk,h.ie,Nat.le_trans h.jC (by omega),by
 rcases h.xI with gL | h2
 ·exact .inl ⟨gL.en,gL.ie,gL.sr,Nat.le_trans gL.jC (by omega)⟩
 ·exact .inr h2⟩
theorem NW {c:Cf}(hq:0<=c.qu)(hk:c.ke<=16){m:Nat}{s:Vs}(h:uJ c m s){a:Av}(ha:tS a):uJ c (m+16) (Ap c s a).1:=by
 unfold Ap;split
 ·exact nJ hk (nI hq h a) ha.2
 ·exact (Iw (nI hq h a) ha.1 a.now).more
theorem NY {c:Cf}(hq:0<=c.qu)(hk:c.ke<=16){t:Tk}(ht:tT t)(l:List Av)(hn:∀a∈l,tS a):∀j,j<=l.length->uJ c (16*j) (Kg c ⟨t,e0⟩ l j)
 | 0,_=>by rw[yO];exact yR hq ht 0
 | j+1,h=>by
   have ih:=NY hq hk ht l hn j (by omega)
   have hm:l.getD j zv∈l:=by simp[List.getD,show j<l.length by omega]
   rw[yP c _ l (by omega),Nat.mul_succ]
   exact NW hq hk ih (hn _ hm)
open Zx (Rw Tb Tk aq ak af)
open Zv (dK ar cz bq cI)
open Zq (cX ae)
open Zp (aL bS fN)
open Zy (Cf Eg Ed aM bD fh eo iK eW An Rq kN kY iL e0 ib)
open Zo (aS)
abbrev yS:=(Nat->Prop)->Nat->World->Nat->Cf->Eg->Prop
structure gP (PW:yS)(R:Nat->Prop)(B:Nat)(w:World)(q:Nat)(c:Cf)(e:Eg)(w':World):Prop where
 pw:PW R B w' q c e
 off:fN Zy.eV w w'
 below:Below B w w'
 bM:∀g,R g->iK w g->g<w.heap.size->w'.heap[g]? =w.heap[g]?
def dz (w:World)(g:Nat):Prop:=g<w.heap.size/\∃cs T z,w.heap[g]? =some (.cells cs T z)/\(T=3∨T=80∨T=141)
structure jv (PW:yS):Prop where
 below:∀{R B w q c e w'},PW R B w q c e->Below w.heap.size w w'->PW R B w' q c e
 kept:∀{R B w q c e w'},PW R B w q c e->bS [97,60,30] w w'->Below B w w'->PW R B w' q c e
 low:∀{R B w q c e},PW R B w q c e->∀g,R g->g<w.heap.size
 sub:∀{R G:Nat->Prop} {B w q c e},PW R B w q c e->(∀g,G g->R g)->PW G B w q c e
 grow:∀{R B w q c e w'},PW R B w q c e->Below w.heap.size w w'->PW (fun g=>R g∨w.heap.size<=g/\g<w'.heap.size) B w' q c e
 Sd:∀{R B w q c e},PW R B w q c e->PW (fun g=>R g∨dz w g) B w q c e
def iv (S:Nat->Prop)(w:World)(p:Option Addr)(l:List Int):Prop:=l=[]∨∃b o,p=some ⟨b,o,none⟩/\S b/\∀j,j<l.length->w.cell? ⟨b,o+j,none⟩=some (.int .i64 (l.getD j 0))
section
variable {S S':Nat->Prop}{w w':World}{p:Option Addr}
theorem iv.rest {l:List Int}(h:iv S w p l):cX w p l:=by
 rcases h with h | ⟨b,o,e,-,hc⟩
 ·exact .inl h
 ·exact .inr ⟨b,o,e,hc⟩
theorem iv.on {l:List Int}(h:iv S w p l)(hS:∀b,S b->b<w.heap.size->S' b)(hk:∀b,S b->iK w b->b<w.heap.size->w'.heap[b]? =w.heap[b]?):iv S' w' p l:=by
 rcases h with h | ⟨b,o,e,hb,hc⟩
 ·exact .inl h
 ·by_cases hl:l=[]
  ·exact .inl hl
  ·have h0:=hc 0 (List.length_pos_iff.2 hl)
   have aC:b<w.heap.size:=World.block_lt_of_cell? _ _ h0;exact .inr ⟨b,o,e,hS _ hb aC,fun j hj=>(World.cell?_of_block (a:=⟨b,o+j,none⟩) (hk b hb ⟨_,_,_,h0⟩ aC)).trans (hc j hj)⟩
theorem CS {l:List (Int×Int)}(h:bq S w p l)(hS:∀b,S b->b<w.heap.size->S' b)(hk:∀b,S b->iK w b->b<w.heap.size->w'.heap[b]? =w.heap[b]?):bq S' w' p l:=by
 rcases h with h | ⟨b,o,e,hb,hc⟩
 ·exact .inl h
 ·by_cases hl:l=[]
  ·exact .inl hl
  ·have h0:=(hc 0 (List.length_pos_iff.2 hl)).1
   have aC:b<w.heap.size:=World.block_lt_of_cell? _ _ h0;have he:=hk b hb ⟨_,_,_,h0⟩ aC;exact .inr ⟨b,o,e,hS _ hb aC,fun j hj=>⟨(World.cell?_of_block (a:=⟨b,_,none⟩) he).trans (hc j hj).1,(World.cell?_of_block (a:=⟨b,_,none⟩) he).trans (hc j hj).2⟩⟩
theorem sN {l:List Rw}(h:Zv.cz S w p l)(hS:∀b,S b->b<w.heap.size->S' b)(hk:∀b,S b->iK w b->b<w.heap.size->w'.heap[b]? =w.heap[b]?):Zv.cz S' w' p l:=by
 rcases h with h | ⟨b,o,e,hb,hc⟩
 ·exact .inl h
 ·by_cases hl:l=[]
  ·exact .inl hl
  ·have h0:=(hc 0 (List.length_pos_iff.2 hl)).1
   have aC:b<w.heap.size:=World.block_lt_of_cell? _ _ h0;have he:=hk b hb ⟨_,_,_,h0⟩ aC;refine .inr ⟨b,o,e,hS _ hb aC,fun j hj=> ?_⟩
   obtain⟨k0,k1,k2,q,d,k3,k4⟩:=hc j hj;exact⟨(World.cell?_of_block (a:=⟨b,_,none⟩) he).trans k0,(World.cell?_of_block (a:=⟨b,_,none⟩) he).trans k1,(World.cell?_of_block (a:=⟨b,_,none⟩) he).trans k2,q,d,(World.cell?_of_block (a:=⟨b,_,none⟩) he).trans k3,CS k4 hS hk⟩
end
structure dZ (S:Nat->Prop)(w:World)(t:Tk)(ps p:Option Addr):Prop where
 stamps:iv S w ps t.stamps
 rows:Zv.cz S w p t.table.rows
theorem dZ.on {S S':Nat->Prop}{w w':World}{t:Tk}{ps p:Option Addr}(h:dZ S w t ps p)(hS:∀b,S b->b<w.heap.size->S' b)(hk:∀b,S b->iK w b->b<w.heap.size->w'.heap[b]? =w.heap[b]?):dZ S' w' t ps p :=
 ⟨h.stamps.on hS hk,sN h.rows hS hk⟩
theorem dZ.below {S:Nat->Prop}{w w':World}{t:Tk}{ps p:Option Addr}(h:dZ S w t ps p)(hb:Below w.heap.size w w'):dZ S w' t ps p:=h.on (fun _ h _=>h) fun b _ _ hl=>hb.block b hl
theorem dZ.iw {PW:yS}{S:Nat->Prop}{B q:Nat}{c:Cf}{e:Eg}{w w':World}{t:Tk}{ps p:Option Addr}(h:dZ S w t ps p)(hm:gP PW S B w q c e w'):dZ S w' t ps p:=h.on (fun _ h _=>h) hm.bM
structure tU (PW:yS):Prop where
 fr:jv PW
 new:∀B c p k w,B<=w.heap.size->bD B w p c.zs->c.zs.length<=100->fh c->c.bI=0->Calls prog 8 #[c.val p k] w fun x w'=>∃q,x=.returned (.tuple #[.pointer (some ⟨q,0,none⟩),.int .i64 0])/\PW (fun g=>g<w.heap.size) B w' q c e0/\Below w.heap.size w w'
 Ii:∀c p k w,bD w.heap.size w p c.zs->fh c->c.bI≠0->Calls prog 8 #[c.val p k] w fun x w'=>x=.returned (.tuple #[.pointer none,.int .i64 c.bI])/\Below w.heap.size w w'
 jF:∀{R B w q c e},PW R B w q c e->B<=w.heap.size->Zy.bu c e->iL e->∀r,kN r->∀now,bC now->Calls prog 13 #[.pointer (some ⟨q,0,none⟩),kY r,.int .i64 now] w fun x w'=>∃y,x=.returned y/\eo w' y (Zy.jF c e r now).2/\gP PW R B w q c (Zy.jF c e r now).1 w'
 eI:∀{R B w q c e},PW R B w q c e->B<=w.heap.size->Zy.bu c e->iL e->Calls prog 10 #[.pointer (some ⟨q,0,none⟩)] w fun x w'=>∃y,x=.returned y/\eo w' y (Zy.eI e).2/\gP PW R B w q c (Zy.eI e).1 w'
 waiting:∀{R B w q c e},PW R B w q c e->Zy.bu c e->iL e->Calls prog 24 #[.pointer (some ⟨q,0,none⟩)] w fun x w'=>∃p k,x=.returned (.slice p e.Q.length k)/\aL Zu.aN w' p e.Q/\eW w' p 136/\Below w.heap.size w w'
 dS:∀{R B w q c e},PW R B w q c e->Zy.bu c e->iL e->Calls prog 22 #[.pointer (some ⟨q,0,none⟩)] w fun x w'=>∃p k,x=.returned (.slice p e.L.length k)/\Zw.aL w' p e.L/\Below w.heap.size w w'
 visit:∀{R B w q c e} (node now:Int) (t:Tk) (m:Nat) (ps:Option Addr) (cs:Nat) (p:Option Addr) (d:Nat) (pf:Option Addr) (cf:Nat),PW R B w q c e->B<=w.heap.size->fE c node m t.table e->m<=660->right c t node now=true->bC node->bC now->fh c->c.zs.length<=60->dZ R w t ps p->bD B w pf c.zs ->
  Calls prog 15 #[aS t ps cs p (d+t.table.rows.length),.pointer (some ⟨q,0,none⟩),.int .i64 node,.int .i64 now,c.val pf cf] w fun x w'=>∃ix cs' p' d' y R',x=.returned (.tuple #[aS (visit c node now t e).1 ix cs' p' (d'+(visit c node now t e).1.table.rows.length),y,.int .i64 0])/\eo w' y (visit c node now t e).2.2/\dZ R' w' (visit c node now t e).1 ix p'/\(∀g,R g->R' g)/\PW R' B w' q c (visit c node now t e).2.1/\gP PW R B w q c (visit c node now t e).2.1 w'
 uN:∀(node now:Int) (t:Tk) (q:Option Addr) (ps:Option Addr) (cs:Nat) (p:Option Addr) (d:Nat) (c:Cf) (pf:Option Addr) (cf:Nat) (w:World),(q=none∨right c t node now=false)->tT t->fh c->c.zs.length<=60->cX w ps t.stamps->ar w p t.table.rows->bD w.heap.size w pf c.zs ->
  Calls prog 15 #[aS t ps cs p (d+t.table.rows.length),.pointer q,.int .i64 node,.int .i64 now,c.val pf cf] w fun x w'=>∃ix cs' p' d' y,x=.returned (.tuple #[aS t ix cs' p' (d'+t.table.rows.length),y,.int .i64 1])/\eo w' y []/\dZ (dz w') w' t ix p'/\Below w.heap.size w w'
open Zx (Rw Tb Tk aq bn)
open Zy (Cf Eg An Rq kN fh e0)
def lc:Cf:=⟨1,0,5,9,1,1,1,2,[(2,9)]⟩
def lr:Rq:=⟨5,3,4,0,30⟩
def Ki:Tk:=⟨7,0,[-1],⟨10,[]⟩⟩
def QI:Eg:=⟨[],[⟨5,3,4,0,50⟩],[]⟩
def EK:Tk:=⟨7,0,[20],⟨10,[⟨3,5,20,[(0,4)]⟩]⟩⟩
def Va:Eg:=⟨[⟨3,7,4,4,25⟩],[],[]⟩
def Wq:Tk:=⟨7,0,[22],⟨10,[⟨3,1,22,[(0,4)]⟩]⟩⟩
def le3:Eg:=⟨[⟨3,7,4,0,27⟩],[],[⟨3,4⟩]⟩
theorem lv0:lc.bI=0:=rfl
theorem lv1:Zy.jF lc e0 lr 20=(QI,[]):=rfl
theorem lw1:Zy.dL lc QI=[(3,4)]:=by
 have e:Zy.aR QI=[3]:=by
  show Zy.merge [3] []=[3]
  simp[Zy.merge]
 unfold Zy.dL;rw[e];rfl
theorem lw2:Zy.dL lc ⟨[],[],[⟨3,4⟩]⟩=[(3,4)]:=by
 have e:Zy.aR ⟨[],[],[⟨3,4⟩]⟩=[3]:=by
  show Zy.merge [] [3]=[3]
  simp[Zy.merge]
 unfold Zy.dL;rw[e];rfl
theorem ls1:aP lc 0 7 20 Ki.table QI=(Ki.table,QI):=rfl
theorem ls2:aP lc 0 7 22 EK.table Va=(⟨10,[⟨3,5,22,[]⟩]⟩,⟨[],[],[⟨3,4⟩]⟩):=rfl
theorem lg1:mK lc 0 7 20 [(3,4)] ⟨Ki.table,QI,[]⟩=⟨EK.table,Va,[⟨5,7,0⟩]⟩:=rfl
theorem lg2:mK lc 0 7 22 [(3,4)] ⟨⟨10,[⟨3,5,22,[]⟩]⟩,⟨[],[],[⟨3,4⟩]⟩,[]⟩=⟨Wq.table,le3,[]⟩:=rfl
theorem lv2:visit lc 0 20 Ki QI=(EK,Va,[⟨5,7,0⟩]):=by
 have h:Zo.cK Ki 0 20=(⟨7,0,[20],⟨10,[]⟩⟩,0):=rfl;have hv:Zo.fW [20] 20 lc.va=true:=by decide +kernel
 unfold visit;rw[h,show Ki.gen=7 from rfl,ls1]
 simp only;rw[if_pos hv,lw1,lg1];rfl
theorem lv3:visit lc 0 22 EK Va=(Wq,le3,[]):=by
 have h:Zo.cK EK 0 22=(⟨7,0,[22],EK.table⟩,0):=rfl;have hv:Zo.fW [22] 22 lc.va=true:=by decide +kernel
 unfold visit;rw[h,show EK.gen=7 from rfl,ls2]
 simp only;rw[if_pos hv,lw2,lg2];rfl
theorem lr1:right lc Ki 0 20=true:=by decide
theorem lr2:right lc EK 0 22=true:=by decide
theorem mg {x:Int}(h: -100<=x/\x<=100):bC x:=by unfold bC;omega
theorem Fu:fh lc:=⟨mg (by decide),mg (by decide),mg (by decide),mg (by decide),mg (by decide),mg (by decide),mg (by decide),mg (by decide)⟩
theorem NZ:kN lr:=⟨mg (by decide),mg (by decide),mg (by decide),mg (by decide),mg (by decide)⟩
theorem Se:uJ lc 0 ⟨Ki,e0⟩:=yR (by decide) ⟨by decide,by decide,fun r hr=>by simp[Ki] at hr⟩ 0
theorem Sf:uJ lc 16 ⟨Ki,QI⟩:=by
 have h:=(Iw Se NZ 20).more;rw[lv1] at h;exact h
theorem Wr:uJ lc 32 ⟨EK,Va⟩:=by
 have h:=nJ (c:=lc) (by decide) Sf (now:=20) (mg (by decide))
 unfold dw at h;rw[if_pos lr1,lv2] at h;exact h
theorem Sg {m:Nat}{t:Tk}{e:Eg}(h:uJ lc m ⟨t,e⟩)(ht:bn t=true):fE lc 0 m t.table e:=by
 rcases h.xI with h | ⟨h,-⟩
 ·exact h
 ·rw [ht] at h;simp at h
open Zv (dK ar bq cI)
open Zy (Cf Eg Ed aM bD fh eo iL)
section
variable {B v:Nat}{w w':World}{c:Cf}{e e':Eg}{S:Nat->Prop}
theorem CT (h:Ed B w v c e)(hs:aM B w v c e' w'){p:Option Addr}{l:List Int}(hl:iv S w p l):iv S w' p l:=by
 rcases hl with hl | ⟨b,o,e1,hb,hc⟩
 ·exact .inl hl
 ·exact .inr ⟨b,o,e1,hb,fun j hj=>cD h hs (hc j hj)⟩
theorem xJ (h:Ed B w v c e)(hs:aM B w v c e' w'){p:Option Addr}{l:List (Int×Int)}(hl:bq S w p l):bq S w' p l:=by
 rcases hl with hl | ⟨b,o,e1,hb,hc⟩
 ·exact .inl hl
 ·exact .inr ⟨b,o,e1,hb,fun j hj=>⟨cD h hs (hc j hj).1,cD h hs (hc j hj).2⟩⟩
theorem CU (h:Ed B w v c e)(hs:aM B w v c e' w'){p:Option Addr}{l:List Rw}(hl:Zv.cz S w p l):Zv.cz S w' p l:=by
 rcases hl with hl | ⟨b,o,e1,hb,hc⟩
 ·exact .inl hl
 ·refine .inr ⟨b,o,e1,hb,fun j hj=> ?_⟩
  obtain⟨k0,k1,k2,q,d,k3,k4⟩:=hc j hj;exact⟨cD h hs k0,cD h hs k1,cD h hs k2,q,d,tN h hs k1 k2 k3,xJ h hs k4⟩
theorem dZ.Ws {t:Tk}{ps p:Option Addr}(h:dZ S w t ps p)(he:Ed B w v c e)(hs:aM B w v c e' w'):dZ S w' t ps p:=⟨CT he hs h.stamps,CU he hs h.rows⟩
end
theorem Kj {w w':World}(h:bS [97,60] w w'):bS [97,60,30] w w':=⟨h.size,fun g o e ht=>h.tD g o e fun cs T z k hm=>ht cs T z k (by simp only[List.mem_cons,List.not_mem_nil,or_false] at hm ⊢;rcases hm with hm | hm <;>simp [hm])⟩
structure eR (PW:yS)(W:World)(R:Nat->Prop)(q v:Nat)(c:Cf)(s e:Eg)(t:Tk)(ps p:Option Addr)(u:World):Prop where
 pw:PW R W.heap.size u q c s
 ed:Ed W.heap.size u v c e
 mV:dZ R u t ps p
 below:Below W.heap.size W u
section
variable {PW:yS}{W u u':World}{R R':Nat->Prop}{q v:Nat}{c:Cf}{s s' e e':Eg}{t t':Tk}{ps p ix p':Option Addr}
theorem eR.on (F:jv PW)(h:eR PW W R q v c s e t ps p u)(hb:Below u.heap.size u u'):eR PW W R q v c s e t ps p u' :=
 ⟨F.below h.pw hb,h.ed.below h.below.size hb,h.mV.below hb,h.below.trans (hb.mono h.below.size)⟩
theorem eR.ic (h:eR PW W R q v c s e t ps p u)(hm:gP PW R W.heap.size u q c s' u'):eR PW W R q v c s' e t ps p u' :=
 ⟨hm.pw,h.ed.off hm.off hm.below,h.mV.iw hm,h.below.trans hm.below⟩
theorem eR.TR (F:jv PW)(h:eR PW W R q v c s e t ps p u)(hs:aM W.heap.size u v c e' u'):eR PW W R q v c s e' t ps p u' :=
 ⟨F.kept h.pw (Kj (hs.Wm h.ed)) hs.below,hs.ed,h.mV.Ws h.ed hs,h.below.trans hs.below⟩
theorem eR.grow (F:jv PW)(h:eR PW W R q v c s e t ps p u)(hb:Below u.heap.size u u'):eR PW W (fun g=>R g∨u.heap.size<=g/\g<u'.heap.size) q v c s e t ps p u' :=
 ⟨F.grow h.pw hb,h.ed.below h.below.size hb,(h.mV.below hb).on (fun _ hR _=>.inl hR) fun _ _ _ _=>rfl,h.below.trans (hb.mono h.below.size)⟩
theorem eR.swap {b m1 k1 m2 k2:Nat}{g hp st:Int}{q1 q2:Option Addr}{y1 y:Value}(F:jv PW)(h:eR PW W R q v c s e t ps p u)(hb:u.heap[b]? =some (.cells #[.int .i64 g,.int .i64 hp,.slice q1 m1 k1,.int .i64 st,.slice q2 m2 k2] 30 (0,0)))(hb':u'.heap[b]? =some (.cells #[.int .i64 g,.int .i64 hp,y1,.int .i64 st,y] 30 (0,0)))(hk:∀b',b'≠b->u'.heap[b']? =u.heap[b']?)(hB:Below W.heap.size u u'):eR PW W R q v c s e t ps p u':=by
 have hne:∀{T:TypeId} {k:Nat} {cs:Array Value} {z:Nat×Nat},u.heap[k]? =some (.cells cs T z)->T≠30->k≠b:=by
  rintro T k cs z h1 h2 rfl;rw[hb] at h1;simp only[Option.some.injEq,Obj.cells.injEq] at h1;exact h2 h1.2.1.symm
 refine⟨F.kept h.pw ⟨hB.size,fun k ob e ht=>(hk k ?_).trans e⟩ hB,h.ed.off ⟨hB.size,fun k cs T z e ht=>(hk k (hne e ?_)).trans e⟩ hB,⟨?_,?_⟩,h.below.trans hB⟩
 ·rintro rfl
  rw[hb] at e;exact ht _ _ _ (Option.some.inj e).symm (by simp)
 ·rintro rfl
  simp[Zy.eV] at ht
 ·rcases h.mV.stamps with hl | ⟨b',o,e1,hS,hc⟩
  ·exact .inl hl
  ·exact .inr ⟨b',o,e1,hS,fun j hj=>eK hb hb' hk (hc j hj)⟩
 ·rcases h.mV.rows with hl | ⟨b',o,e1,hS,hc⟩
  ·exact .inl hl
  ·refine .inr ⟨b',o,e1,hS,fun j hj=> ?_⟩
   obtain⟨k0,k1,k2,q',d,k3,k4⟩:=hc j hj;refine⟨eK hb hb' hk k0,eK hb hb' hk k1,eK hb hb' hk k2,q',d,vV hb hb' hk k1 k2 k3,?_⟩;rcases k4 with k4 | ⟨b2,o2,e2,Mf,h2⟩
   ·exact .inl k4
   ·exact .inr ⟨b2,o2,e2,Mf,fun i hi=>⟨eK hb hb' hk (h2 i hi).1,eK hb hb' hk (h2 i hi).2⟩⟩
theorem eR.visit (h:eR PW W R q v c s e t ps p u)(hp:PW R' W.heap.size u' q c s')(hm:gP PW R W.heap.size u q c s' u')(ht:dZ R' u' t' ix p'):eR PW W R' q v c s' e t' ix p' u' :=
 ⟨hp,h.ed.off hm.off hm.below,ht,h.below.trans hm.below⟩
end
theorem yT {PW:yS}(P:tU PW){W u:World}{R:Nat->Prop}{q v:Nat}{c:Cf}{e:Eg}{t:Tk}{ps p:Option Addr}(h:eR PW W R q v c e e t ps p u)(hg:Zy.bu c e)(hl:iL e) :
 Calls prog 19 #[.pointer (some ⟨q,0,none⟩),.pointer (some ⟨v,0,none⟩)] u fun x w'=>x=.returned (.bool true)/\Below u.heap.size u w':=by
 have hQ:=hl.2.1;have hL:=hl.1;have F:=P.fr;have R4:=hid (fun u' (hu:eR PW W R q v c e e t ps p u')=>P.waiting hu.pw hg hl)
 have R7:=hid (fun u' (hu:eR PW W R q v c e e t ps p u')=>P.dS hu.pw hg hl)
 have R5:=hid (fun u' p' k' (hu:aL Zu.aN u' p' e.Q)=>Zu.EC (c:=k') hu (by omega))
 have R6:=hid (fun u' p' k' p2 k2 (hu:aL Zu.aN u' p' e.Q) (hv:aL Zu.aN u' p2 e.Q)=>Zu.iJ (c:=k') (d:=k2) hu hv (by omega))
 have R8:=hid (fun u' p' k' (hu:Zw.aL u' p' e.L)=>Zw.EC (c:=k') hu (by omega))
 have R9:=hid (fun u' p' k' p2 k2 (hu:Zw.aL u' p' e.L) (hv:Zw.aL u' p2 e.L)=>Zw.iJ (c:=k') (d:=k2) hu hv rfl (by omega))
 have H0:=hid h;have HF:=hid F;clear P hg hl F h;go_enter func19,ntmps19
 go_upto_region 1 with (fail)
 have D4:=hid (H0.out.on HF.out (Below.refl _ _).drew);have B4:=hid (show Below u.heap.size u u.drew from(Below.refl _ _).drew)
 obtain⟨pm,cm,g4,hm,-,-⟩:=D4.out.ed.qu.cell;have M4:=hid hm;have g4:u.drew.cell? ⟨v,11,none⟩=some (.slice pm e.Q.length cm):=g4;clear hm;go_region_held3 (fun u=>u.cell? ⟨v,11,none⟩=some (.slice pm e.Q.length cm)) (first | assumption) (first
  |(go_at_call 24;(with_reducible refine(R4.out _ D4.out).mono ?_);rintro x u5 ⟨p5,c5,rfl,hp,-,hb⟩;have g5:=af g4 hb;have P5:=hid hp;have M5:=hid (M4.out.below hb);have L5:=hid (D4.out.on HF.out hb);have B5:=hid (B4.out.trans (hb.mono B4.out.size));clear hb hp R4)
  |(go_at_call 23;(with_reducible refine(R5.out _ _ _ P5.out).mono ?_);rintro x u6 ⟨p6,c6,rfl,hp,hb⟩;have g6:=af g5 hb;have P6:=hid hp;have M6:=hid (M5.out.below hb);have L6:=hid (L5.out.on HF.out hb);have B6:=hid (B5.out.trans (hb.mono B5.out.size));clear hb hp R5)
  |(go_at_call 28;(with_reducible refine(R6.out _ _ _ _ _ P6.out M6.out).mono ?_);rintro x u7 ⟨rfl,hb⟩;have g7:=af g6 hb;have L7:=hid (L6.out.on HF.out hb);have B7:=hid (B6.out.trans (hb.mono B6.out.size));clear hb R6))
 clear g4 g5 g6 g7 P5 P6 M4 M5 M6 L5 L6 D4 B4 B5 B6 H0;go_upto_region 2 with (fail)
 have D7:=hid (L7.out.on HF.out (Below.refl _ _).drew);have B8:=hid (B7.out.trans ((show Below u7.heap.size u7 u7.drew from(Below.refl _ _).drew).mono B7.out.size))
 obtain⟨pm,cm,g4,hm⟩:=D7.out.ed.wl.cell;have M4:=hid hm;clear hm;go_region_held3 (fun u=>u.cell? ⟨v,9,none⟩=some (.slice pm e.L.length cm)) (first | assumption) (first
  |(go_at_call 22;(with_reducible refine(R7.out _ D7.out).mono ?_);rintro x u8 ⟨p8,c8,rfl,hp,hb⟩;have g5:=af g4 hb;have P5:=hid hp;have M5:=hid (M4.out.below hb);have B9:=hid (B8.out.trans (hb.mono B8.out.size));clear hb hp R7)
  |(go_at_call 21;(with_reducible refine(R8.out _ _ _ P5.out).mono ?_);rintro x u9 ⟨p9,c9,rfl,hp,hb⟩;have g6:=af g5 hb;have P6:=hid hp;have M6:=hid (M5.out.below hb);have B10:=hid (B9.out.trans (hb.mono B9.out.size));clear hb hp R8)
  |(go_at_call 27;(with_reducible refine(R9.out _ _ _ _ _ P6.out M6.out).mono ?_);rintro x u10 ⟨rfl,hb⟩;have g7:=af g6 hb;have B11:=hid (B10.out.trans (hb.mono B10.out.size));clear hb R9))
 go_wp2_with (fail)
 go_ret;exact⟨rfl,B11.out⟩
end Zn
end Go.Proofs.YtbgdlokegibkmaaGreat
