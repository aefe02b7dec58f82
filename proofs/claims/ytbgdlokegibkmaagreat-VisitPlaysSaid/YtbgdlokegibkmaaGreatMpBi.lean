/-
  A part of the proof of VisitPlays.
-/
import Derived.Test.YtbgdlokegibkmaaGreatMpBb
import Derived.Test.YtbgdlokegibkmaaGreatMpBf
import Derived.Test.YtbgdlokegibkmaaGreatMpBh
set_option maxRecDepth 100000
set_option maxHeartbeats 8000000
namespace Go.Proofs.YtbgdlokegibkmaaGreat
open Go.RowKit
open Tryz
open Lib (hid)
namespace Zn
open Zx (Rw Tb Tk aq ak af cG bn lg jB my fc kG lZ kU)
open Zv (dK ar bq cI bV held bN gD)
open Zq (cX ae aj ai)
open Zp (aL bS fN)
open Zy (Cf Eg An Ed aM bD fh eo iK eW gB)
open Zo (aS bz cK mA rz)
open Zw (bC)
section
variable {u u':World}
theorem wR {g:Nat}{cs:Array Value}{T:TypeId}{z:Nat×Nat}(h:u.heap[g]? =some (.cells cs T z))(hT:T=3∨T=80∨T=141):dz u g:=⟨ae h,cs,T,z,h,hT⟩
theorem wS {B:Nat}{q:Option Addr}{l:List Int}(h:lg B u q l):iv (dz u) u q l:=by
 rcases h with h | ⟨g,cs,e,-,hh,hc⟩
 ·exact .inl h
 ·exact .inr ⟨g,0,e,wR hh (.inl rfl),fun j hj=>by rw[Nat.zero_add];exact hc j hj⟩
theorem wT {r:Option Addr}{l:List Rw}(h:jB 0 u r l)(hk:my u r l):Zv.cz (dz u) u r l:=by
 rcases h with h | ⟨b,o,e,hl,hc⟩
 ·exact .inl h
 ·have hP:∀{g:Nat} {T:TypeId},(T=3∨T=80∨T=141)->kG 0 T u g->dz u g:=fun hT hL=>by
   rcases hL with hL | ⟨cs,z,hL⟩
   ·omega
   ·exact wR hL hT
  refine .inr ⟨b,o,e,hP (.inr (.inl rfl)) hl,fun j hj=> ?_⟩
  obtain⟨k0,k1,k2,p,c,k3,k4⟩:=hc j hj;obtain⟨q',c',h3⟩:=hk b o e j hj;have e3:=k3.symm.trans h3;simp only[Option.some.injEq,Value.slice.injEq,true_and] at e3;obtain⟨rfl,rfl⟩:=e3;refine⟨k0,k1,k2,p,c',k3,?_⟩;rcases k4 with k4 | ⟨b2,o2,e2,hl2,h2⟩
  ·exact .inl k4
  ·exact .inr ⟨b2,o2,e2,hP (.inr (.inr rfl)) hl2,h2⟩
theorem OJ {S:Nat->Prop}{t:Tk}{ps p:Option Addr}{g:Nat}{cs:Array Value}{T:TypeId}{z:Nat×Nat}(h:dZ (dz u) u t ps p)(hg:u.heap[g]? =some (.cells cs T z))(hT:¬(T=3∨T=80∨T=141))(hk:∀b,b≠g->u'.heap[b]? =u.heap[b]?)(hS:∀b,dz u' b->S b):dZ S u' t ps p:=by
 have hne:∀b,dz u b->b≠g:=fun b hb e=>jM hg hT (e ▸ hb)
 refine h.on (fun b hb _=>hS b ?_) fun b hb _ _=>hk b (hne b hb)
 obtain⟨-,cs',T',z',h1,h2⟩:=hb;exact wR ((hk b (hne b ⟨ae h1,cs',T',z',h1,h2⟩)).trans h1) h2
end
theorem uq (t:Tk)(node now:Int):(cK t node now=(t,1)/\¬(0<=node/\node<t.stamps.length/\0<=now/\now<4611686018427387904))∨(cK t node now=(⟨t.gen,t.bP,t.stamps.set node.toNat now,t.table⟩,0)/\0<=node/\node<t.stamps.length/\0<=now/\now<4611686018427387904):=by
 unfold cK;by_cases h:node<0∨(t.stamps.length:Int)<=node∨now<0∨4611686018427387903<now
 ·rw [if_pos h]
  exact .inl ⟨rfl,by omega⟩
 ·rw [if_neg h]
  exact .inr ⟨rfl,by omega,by omega,by omega,by omega⟩
theorem Lt {c:Cf}{t:Tk}{node now:Int}(h:right c t node now=false)(hs:0<=node/\node<t.stamps.length/\0<=now/\now<4611686018427387904):bn t=false∨(bn t=true/\(((t.stamps.length:Int) != c.n)=true∨(((t.stamps.length:Int) != c.n)=false/\(c.bI != 0)=true))):=by
 cases ht:bn t with
 | false=>exact .inl rfl
 | true =>
   refine .inr ⟨rfl,?_⟩;by_cases hn:(t.stamps.length:Int)=c.n
   ·by_cases hc:c.bI=0
    ·exfalso
     have:right c t node now=true:=by
      simp only[right,Bool.and_eq_true,decide_eq_true_eq];exact⟨⟨⟨⟨⟨⟨ht,hc⟩,hn⟩,hs.1⟩,by omega⟩,hs.2.2.1⟩,hs.2.2.2⟩
     rw[this] at h;simp at h
    ·exact .inr ⟨by simp[hn],by simp[hc]⟩
   ·exact .inl (by simp[hn])
theorem Rm (node now:Int)(t:Tk)(q:Option Addr)(ps:Option Addr)(cs:Nat)(p:Option Addr)(d:Nat)(c:Cf)(pf:Option Addr)(cf:Nat)(w:World)(hq:q=none∨right c t node now=false)(hf:tT t)(hz:c.zs.length<=60)(hst:cX w ps t.stamps)(hl:ar w p t.table.rows)(hr:bD w.heap.size w pf c.zs) :
 Calls prog 15 #[aS t ps cs p (d+t.table.rows.length),.pointer q,.int .i64 node,.int .i64 now,c.val pf cf] w fun x w'=>∃ix cs' p' d' y,x=.returned (.tuple #[aS t ix cs' p' (d'+t.table.rows.length),y,.int .i64 1])/\eo w' y []/\dZ (dz w') w' t ix p'/\Below w.heap.size w w':=by
 have hnil:ps=none->t.stamps=[]:=fun e=>by
  rcases hst with h | ⟨b,o,h,_⟩
  ·exact h
  ·rw [e] at h;cases h
 have h1:=hf.stamps;have h2:=hf.rows;have h3:∀r∈t.table.rows,r.out.length<=1000:=fun r hr=>Nat.le_trans (hf.QH r hr) (by decide)
 have HST:=hid (fun(u:World) (hu:Below w.heap.size w u)=>mA t ps cs p (d+t.table.rows.length) node now u (by omega) (by omega) h3 (hst.below hu) (hl.below hu).frame)
 have AB:=hid (fun(u:World) (hu:Below w.heap.size w u)=>lZ t ps p cs (d+t.table.rows.length) u (by omega) (hst.below hu) (hl.below hu).frame (fun r hr=>by have:=h3 r hr;omega))
 have Vv:=hid (fun(u:World) (hu:Below w.heap.size w u)=>Zm.sx c.n c.sk c.tl c.va c.lo c.he c.ke c.qu pf c.zs cf u (by omega) (hr.on hu).aH)
 have Jj:=hid (fun(u:World) (hu:Below w.heap.size w u)=>kU t ps p cs (d+t.table.rows.length) u (by omega) (by omega) h3 (hst.below hu) hnil (hl.below hu).frame)
 have b9:q=none∨(∃a,q=some a)/\(((cK t node now).2 != 0)=true∨(((cK t node now).2 != 0)=false/\(bn t=false∨(bn t=true/\(((t.stamps.length:Int) != c.n)=true∨(((t.stamps.length:Int) != c.n)=false/\(c.bI != 0)=true)))))):=by
  rcases q with _ | a
  ·exact .inl rfl
  ·refine .inr ⟨⟨a,rfl⟩,?_⟩
   have hR:right c t node now=false:=hq.elim (fun h=>by cases h) id
   rcases uq t node now with ⟨e,-⟩ | ⟨e,hs⟩
   ·rw [e];exact .inl rfl
   ·rw [e];exact .inr ⟨rfl,Lt hR hs⟩
 have EG:Zm.bI c.n c.sk c.tl c.va c.lo c.he c.ke c.qu c.zs=c.bI:=rfl;rw[EG] at Vv;generalize c.bI=ck at *;generalize cK t node now=SN at *;obtain⟨T,er⟩:=SN;simp only[aS,Cf.val] at *;have M0:=hid (((((Zo.Mem.start w).box #[.int .i64 t.gen,.int .i64 t.bP,.slice ps t.stamps.length cs,.int .i64 t.table.start,.slice p t.table.rows.length (d+t.table.rows.length)] 30).box #[.int .i64 c.n,.int .i64 c.sk,.int .i64 c.tl,.int .i64 c.va,.int .i64 c.lo,.int .i64 c.he,.int .i64 c.ke,.int .i64 c.qu,.slice pf c.zs.length cf] 24).box #[.int .i64 0,.int .i64 0,.slice none 0 0,.int .i64 0,.slice none 0 0] 30));simp only[Zo.size_alloc] at M0;obtain⟨x0,x1,x2,x3,x4,-⟩:=bz (M0.out.boxes 2 _ _ _ rfl);clear hq hf hst hl hr hnil EG h3;go_enter func15,ntmps15
 go_upto_region 2 with (go_at_call 51;(with_reducible refine(HST.out _ M0.out.below).mono ?_);rintro x u1 ⟨gF,cs1,p1,c1,rfl,-,-,-,hb⟩;have aO:=hid hb;clear hb HST x0 x1 x2 x3 x4)
 have M1:=hid ((M0.out.on aO.out).on (cQ u1 (.cells #[.int .i64 T.gen,.int .i64 T.bP,.slice gF T.stamps.length cs1,.int .i64 T.table.start,.slice p1 T.table.rows.length c1] 30)));clear M0 aO;generalize u1.alloc (.cells #[.int .i64 T.gen,.int .i64 T.bP,.slice gF T.stamps.length cs1,.int .i64 T.table.start,.slice p1 T.table.rows.length c1] 30)=u2 at *;have FJ:=hid (show w.heap.size<=w.heap.size+1+1 by omega)
 generalize w.heap.size+1+1=gr at *;generalize w.heap.size+1=gc at *;obtain⟨x0,x1,x2,x3,x4,-⟩:=bz (M1.out.boxes 2 _ _ _ rfl);obtain⟨c0,c1,c2,c3,c4,c5,c6,c7,c8⟩:=Zv.aG (M1.out.boxes 1 _ _ _ rfl);have HC:=hid (fun(W:World) (hW:Below w.heap.size w W) (M:W.heap[gr]? =some (.cells #[.int .i64 0,.int .i64 0,.slice none 0 0,.int .i64 0,.slice none 0 0] 30 (0,0)))=>(Jj.out W hW).mono fun x u' (h:Zx.IW W t x u')=>show ∃q1 k1 q2 k2,x=.returned (.agg #[.int .i64 t.gen,.int .i64 t.bP,.slice q1 t.stamps.length k1,.int .i64 t.table.start,.slice q2 t.table.rows.length (k2+t.table.rows.length)])/\Hid (dZ (dz u') u' t q1 q2)/\Hid (Below w.heap.size w u')/\u'.heap[gr]? =some (.cells #[.int .i64 0,.int .i64 0,.slice none 0 0,.int .i64 0,.slice none 0 0] 30 (0,0)) from by
  obtain⟨q1,k1,q2,k2,rfl,h1,⟨h2,h3,k3,rfl⟩,h4⟩:=h;exact⟨q1,k1,q2,k3,rfl,hid ⟨wS h1,wT h2 h3⟩,hid (hW.trans (h4.mono hW.size)),(h4.block _ (ae M)).trans M⟩)
 clear Jj;rcases b9 with rfl | ⟨⟨a,rfl⟩,h | ⟨h,h' | ⟨h',h'' | ⟨h'',h3⟩⟩⟩⟩
 case' inr.inr.inl=>rw [h'] at AB
 case' inr.inr.inr.inl=>rw [h'] at AB
 case' inr.inr.inr.inr=>rw [h'] at AB
 all_goals
  go_wp2_with (first
   |(go_at_call 52;(with_reducible refine(AB.out _ M1.out.below).mono ?_);rintro x u3 ⟨rfl,hb⟩;have M2:=hid (M1.out.on hb);clear hb x0 x1 x2 x3 x4 c0 c1 c2 c3 c4 c5 c6 c7 c8;obtain⟨x0,x1,x2,x3,x4,-⟩:=bz (M2.out.boxes 2 _ _ _ rfl);obtain⟨c0,c1,c2,c3,c4,c5,c6,c7,c8⟩:=Zv.aG (M2.out.boxes 1 _ _ _ rfl))
   |(go_at_call 31;(with_reducible refine(Vv.out _ M2.out.below).mono ?_);rintro x u4 ⟨rfl,hb⟩;have M3:=hid (M2.out.on hb);clear hb x0 x1 x2 x3 x4 c0 c1 c2 c3 c4 c5 c6 c7 c8;obtain⟨x0,x1,x2,x3,x4,-⟩:=bz (M3.out.boxes 2 _ _ _ rfl))
   |(go_at_call 53;(with_reducible refine(HC.out _ M3.out.below (M3.out.boxes 0 _ _ _ rfl)).mono ?_);rintro x u5 ⟨q1,k1,q2,k2,rfl,Kr,jy,qh⟩;have Rn:=hid qh;obtain⟨y0,y1,y2,y3,y4,gg⟩:=bz qh;have f0:=gg 0;have f1:=gg 1;have f2:=gg 2;have f3:=gg 3;have f4:=gg 4;clear gg qh)
   |(go_at_call 53;(with_reducible refine(HC.out _ M2.out.below (M2.out.boxes 0 _ _ _ rfl)).mono ?_);rintro x u5 ⟨q1,k1,q2,k2,rfl,Kr,jy,qh⟩;have Rn:=hid qh;obtain⟨y0,y1,y2,y3,y4,gg⟩:=bz qh;have f0:=gg 0;have f1:=gg 1;have f2:=gg 2;have f3:=gg 3;have f4:=gg 4;clear gg qh)
   |(go_at_call 53;(with_reducible refine(HC.out _ M1.out.below (M1.out.boxes 0 _ _ _ rfl)).mono ?_);rintro x u5 ⟨q1,k1,q2,k2,rfl,Kr,jy,qh⟩;have Rn:=hid qh;obtain⟨y0,y1,y2,y3,y4,gg⟩:=bz qh;have f0:=gg 0;have f1:=gg 1;have f2:=gg 2;have f3:=gg 3;have f4:=gg 4;clear gg qh))
  refine bodyPost_ret (v:=.tuple #[.agg #[.int .i64 t.gen,.int .i64 t.bP,.slice q1 t.stamps.length k1,.int .i64 t.table.start,.slice q2 t.table.rows.length (k2+t.table.rows.length)],.slice none 0 0,.int .i64 1]) (by simp[results,results15,go_sem,y0,y1,y2,y3,y4]) rfl ⟨q1,k1,q2,k2,_,rfl,gB _,?_,?_⟩
  ·exact OJ Kr.out Rn.out (by decide) (fun b hb=>dH hb _ _ _ _ _) fun b hb=>hb
  ·exact jy.out.trans (gm FJ.out _ _ _ _ _)
end Zn
end Go.Proofs.YtbgdlokegibkmaaGreat
