/-
  A part of the proof of VisitPlays.
-/
import Derived.Deep.RegionLaw
import Derived.Test.YtbgdlokegibkmaaGreatMpAy
set_option maxRecDepth 100000
set_option maxHeartbeats 4000000
namespace Go.Proofs.YtbgdlokegibkmaaGreat
open Go.RowKit
open Tryz
open Lib (hid)
namespace Zu
open Zq (ae aj ai aI)
open Zp (iE aL Own At bS eu fN af aD aA ag bQ bX dQ jo cells)
open Zv (spot eL cP bA)
theorem XX:(prog.info? 136).map (fun i=>(i.zero,i.size,i.bytes))=some (some (.agg #[.int .i64 0,.int .i64 0,.int .i64 0,.int .i64 0,.int .i64 0]),5,40):=by kernel_rfl
theorem rp.UL {F:Nat->Prop}{B q g cap:Nat}{u w5:World}{aw:Int}{l:List It}{y:Value}(h:rp F B u q aw l y)(hB:B<=u.heap.size)(x:It)
 (hg:((u.alloc (.cells #[.int .i64 x.id,.int .i64 x.key,.int .i64 x.cost,.int .i64 x.bU,.int .i64 x.cJ] 136)).drew).grownBy w5 y.ownBlock) (ho:w5.ownsRow B 136 5 (.slice (some ⟨g,0,none⟩) (l.length+1) cap) (l.length+1) (cells aN l++[.int .i64 x.id,.int .i64 x.key,.int .i64 x.cost,.int .i64 x.bU,.int .i64 x.cJ]))
 (hat:y.ownBlock=some g∨g=(u.alloc (.cells #[.int .i64 x.id,.int .i64 x.key,.int .i64 x.cost,.int .i64 x.bU,.int .i64 x.cJ] 136)).drew.heap.size) :
 w5.frozen? ⟨q,1,none⟩=false/\w5.cell? ⟨q,1,none⟩=some y/\Hid (eA Pq F B u q aw (l++[x]) (w5.setCell ⟨q,1,none⟩ (.slice (some ⟨g,0,none⟩) (l.length+1) cap))):=by
 have hb:=(cQ u (.cells #[.int .i64 x.id,.int .i64 x.key,.int .i64 x.cost,.int .i64 x.bU,.int .i64 x.cJ] 136)).drew;have R:Own aN 136 B w5 (.slice (some ⟨g,0,none⟩) (l.length+1) cap) (l++[x]):=by
  unfold Own;rw[Zp.lT,List.length_append];exact ho
 obtain⟨f,c,D⟩:=(h.below hb).CW (Nat.le_trans hB hb.size) hg R (fun k e=>by
  simp only[Value.ownBlock,Option.some.injEq] at e;subst e;rcases hat with hat | hat
  ·exact .inl hat
  ·exact .inr (Nat.le_of_eq hat.symm))
 exact⟨f,c,hid (D.out.Ga hB hb)⟩
theorem O9 (x:It)(w:World):Calls prog 89 #[.pointer none,val x] w fun e w'=>e=.returned (.int .i64 1)/\Below w.heap.size w w':=by
 simp only[val];go_enter func89,ntmps89
 go_wp2;go_ret;exact⟨rfl,cQ _ _⟩
theorem LR {F:Nat->Prop}{B q:Nat}{w:World}{aw:Int}{l:List It}(h:Pq F B w q aw l)(hB:B<=w.heap.size)(x:It)(hx:cY x) :
 Calls prog 89 #[.pointer (some ⟨q,0,none⟩),val x] w fun e w'=>e=.returned (.int .i64 1)/\eA Pq F B w q aw l w':=by
 obtain⟨y,hy⟩:=h;have HS:=hid (fun u (hu:Below w.heap.size w u)=>hy.same hB hu)
 have HB:=hid (cQ w (.cells #[.int .i64 x.id,.int .i64 x.key,.int .i64 x.cost,.int .i64 x.bU,.int .i64 x.cJ] 136));obtain⟨b0,b1,b2,b3,b4⟩:=bQ (heap_alloc_new w (.cells #[.int .i64 x.id,.int .i64 x.key,.int .i64 x.cost,.int .i64 x.bU,.int .i64 x.cJ] 136));have hr:=fC x (w.alloc (.cells #[.int .i64 x.id,.int .i64 x.key,.int .i64 x.cost,.int .i64 x.bU,.int .i64 x.cJ] 136));rw[show decide (¬cY x)=false by simpa using hx] at hr
 clear hy hx;obtain⟨xi,xk,xc,xs,xt⟩:=x;simp only[val] at *;go_enter func89,ntmps89
 go_wp2_with (go_at_call 140;(with_reducible refine hr.mono ?_);rintro e u1 ⟨rfl,hb⟩;have aO:=hid (HB.out.trans (hb.mono HB.out.size));clear hb hr)
 go_ret;exact⟨rfl,HS.out _ aO.out⟩
theorem LS {F:Nat->Prop}{B q:Nat}{w:World}{aw:Int}{l:List It}(h:Pq F B w q aw l)(hB:B<=w.heap.size)(hl:l.length<=16)(x:It)(hx:¬cY x) :
 Calls prog 89 #[.pointer (some ⟨q,0,none⟩),val x] w fun e w'=>e=.returned (.int .i64 (put aw l x).2)/\eA Pq F B w q aw (put aw l x).1 w':=by
 obtain⟨y,hy⟩:=h;have hput:put aw l x=if 0<=au l x.id then (l,5) else if aw<=l.length then (l,3) else (l++[x],0):=by unfold put;rw[if_neg hx]
 rw[hput];have HY:=hid hy;have hb1:=cQ w (.cells #[.int .i64 x.id,.int .i64 x.key,.int .i64 x.cost,.int .i64 x.bU,.int .i64 x.cJ] 136);have HB:=hid hb1;have K:=hid (heap_alloc_new w (.cells #[.int .i64 x.id,.int .i64 x.key,.int .i64 x.cost,.int .i64 x.bU,.int .i64 x.cJ] 136));obtain⟨b0,b1,b2,b3,b4⟩:=bQ K.out;have hr:=fC x (w.alloc (.cells #[.int .i64 x.id,.int .i64 x.key,.int .i64 x.cost,.int .i64 x.bU,.int .i64 x.cJ] 136));rw[show decide (¬cY x)=true by simpa using hx] at hr
 have hn:=hid (fun u=>td x.id u)
 have HC:=hid (fun(u:World) (c:Nat) (p:Option Addr) (d:Nat) (hp:aL aN u p l) (hc:u.cell? ⟨c,0,none⟩=some (.int .i64 x.id))=>rr zf (tW c x.id) (d:=d) hp (by omega) hc)
 rw[show spot (iP x.id) l=au l x.id from rfl] at HC
 have HS:=hid (fun u (hu:Below w.heap.size w u)=>hy.same hB hu)
 clear hy hx hput hb1;generalize hP:au l x.id=P at *;clear hP;obtain⟨xi,xk,xc,xs,xt⟩:=x;simp only[val] at *;by_cases hp:0<=P
 ·rw [if_pos hp]
  go_enter func89,ntmps89
  go_wp2_with (go_at_call 140;(with_reducible refine hr.mono ?_);rintro e u0 ⟨rfl,hb⟩;have aO:=hid (HB.out.trans (hb.mono HB.out.size));have K1:=hid ((hb.block _ (aD K.out)).trans K.out);clear b0 b1 b2 b3 b4 hb hr)
  have Le:=hid (aO.out.drew);obtain⟨p,d,-,c1,iG,-,-⟩:=(HY.out.below Le.out).cell;have pz:=hid iG;have KD:=hid (show u0.drew.heap[w.heap.size]? =_ from K1.out)
  obtain⟨b0,-⟩:=bQ KD.out;clear iG;go_region_held3 (fun u=>u.cell? ⟨q,1,none⟩=some (.slice p l.length d)/\u.cell? ⟨w.heap.size,0,none⟩=some (.int .i64 xi)) (first | assumption | exact⟨c1,b0⟩) (first
   |(go_at_call 141;(with_reducible refine(hn.out _).mono ?_);rintro e u2 ⟨rfl,hc,hb⟩;have bJ:=hid (Le.out.trans (hb.mono Le.out.size));have Ek:=hid (pz.out.below hb);have FI:=hid (show u2.cell? ⟨u0.heap.size,0,none⟩=some (.int .i64 xi) from hc);have K2:=hid ((hb.block _ (aD KD.out)).trans KD.out);have s2:=And.intro (af c1 hb) (af b0 hb);clear hb hc)
   |(go_at_call 135;(with_reducible refine(HC.out _ _ _ _ Ek.out FI.out).mono ?_);rintro e u3 ⟨rfl,hb⟩;have cH:=hid (bJ.out.trans (hb.mono bJ.out.size));have K3:=hid ((hb.block _ (aD K2.out)).trans K2.out);have s3:=And.intro (af s2.1 hb) (af s2.2 hb);clear hb HC))
  go_wp2;go_ret;exact⟨rfl,HS.out _ cH.out⟩
 ·rw [if_neg hp]
  have hp':P<0:=by omega
  by_cases hroom:aw<=l.length
  ·rw [if_pos hroom]
   go_enter func89,ntmps89
   go_wp2_with (go_at_call 140;(with_reducible refine hr.mono ?_);rintro e u0 ⟨rfl,hb⟩;have aO:=hid (HB.out.trans (hb.mono HB.out.size));have K1:=hid ((hb.block _ (aD K.out)).trans K.out);clear b0 b1 b2 b3 b4 hb hr)
   have Le:=hid (aO.out.drew);obtain⟨p,d,-,c1,iG,-,-⟩:=(HY.out.below Le.out).cell;have pz:=hid iG;have KD:=hid (show u0.drew.heap[w.heap.size]? =_ from K1.out)
   obtain⟨b0,-⟩:=bQ KD.out;clear iG;go_region_held3 (fun u=>u.cell? ⟨q,1,none⟩=some (.slice p l.length d)/\u.cell? ⟨w.heap.size,0,none⟩=some (.int .i64 xi)) (first | assumption | exact⟨c1,b0⟩) (first
    |(go_at_call 141;(with_reducible refine(hn.out _).mono ?_);rintro e u2 ⟨rfl,hc,hb⟩;have bJ:=hid (Le.out.trans (hb.mono Le.out.size));have Ek:=hid (pz.out.below hb);have FI:=hid (show u2.cell? ⟨u0.heap.size,0,none⟩=some (.int .i64 xi) from hc);have K2:=hid ((hb.block _ (aD KD.out)).trans KD.out);have s2:=And.intro (af c1 hb) (af b0 hb);clear hb hc)
    |(go_at_call 135;(with_reducible refine(HC.out _ _ _ _ Ek.out FI.out).mono ?_);rintro e u3 ⟨rfl,hb⟩;have cH:=hid (bJ.out.trans (hb.mono bJ.out.size));have K3:=hid ((hb.block _ (aD K2.out)).trans K2.out);have s3:=And.intro (af s2.1 hb) (af s2.2 hb);clear hb HC))
   obtain⟨p4,d4,-,c4,-,-,c0⟩:=(HY.out.below cH.out).cell;go_wp2;go_quiet (fail)
   go_wp2;go_ret;exact⟨rfl,HS.out _ (cH.out.trans ((ag _ _).mono cH.out.size))⟩
  ·rw [if_neg hroom]
   go_enter func89,ntmps89
   go_wp2_with (go_at_call 140;(with_reducible refine hr.mono ?_);rintro e u0 ⟨rfl,hb⟩;have aO:=hid (HB.out.trans (hb.mono HB.out.size));have K1:=hid ((hb.block _ (aD K.out)).trans K.out);clear b0 b1 b2 b3 b4 hb hr)
   have Le:=hid (aO.out.drew);obtain⟨p,d,-,c1,iG,-,-⟩:=(HY.out.below Le.out).cell;have pz:=hid iG;have KD:=hid (show u0.drew.heap[w.heap.size]? =_ from K1.out)
   obtain⟨b0,-⟩:=bQ KD.out;clear iG;go_region_held3 (fun u=>u.cell? ⟨q,1,none⟩=some (.slice p l.length d)/\u.cell? ⟨w.heap.size,0,none⟩=some (.int .i64 xi)) (first | assumption | exact⟨c1,b0⟩) (first
    |(go_at_call 141;(with_reducible refine(hn.out _).mono ?_);rintro e u2 ⟨rfl,hc,hb⟩;have bJ:=hid (Le.out.trans (hb.mono Le.out.size));have Ek:=hid (pz.out.below hb);have FI:=hid (show u2.cell? ⟨u0.heap.size,0,none⟩=some (.int .i64 xi) from hc);have K2:=hid ((hb.block _ (aD KD.out)).trans KD.out);have s2:=And.intro (af c1 hb) (af b0 hb);clear hb hc)
    |(go_at_call 135;(with_reducible refine(HC.out _ _ _ _ Ek.out FI.out).mono ?_);rintro e u3 ⟨rfl,hb⟩;have cH:=hid (bJ.out.trans (hb.mono bJ.out.size));have K3:=hid ((hb.block _ (aD K2.out)).trans K2.out);have s3:=And.intro (af s2.1 hb) (af s2.2 hb);clear hb HC))
   obtain⟨p4,d4,-,c4,-,-,c0⟩:=(HY.out.below cH.out).cell;go_wp2;go_quiet (fail)
   have fp:=hid (cH.out.trans ((ag u3 nq).mono cH.out.size));have K4:=hid (((ag u3 nq).block _ (aD K3.out)).trans K3.out);clear b0 c1 c0 c4 s2 s3;generalize u3.drewN nq=u4 at *;obtain⟨p5,d5,rfl,c1,-,-,-⟩:=(HY.out.below fp.out).cell;obtain⟨b0,b1,b2,b3,b4⟩:=bQ K4.out;have hq4:=(HY.out.below fp.out).lt;have HP4:=hid (HY.out.below fp.out);obtain⟨i0,hi,hz0,hz1,hz2⟩:=info_parts XX;have HDW:=hid ((cQ u4 (.cells #[.int .i64 xi,.int .i64 xk,.int .i64 xc,.int .i64 xs,.int .i64 xt] 136)).drew);have HOD:=hid (aI HP4.out.ic HDW.out);have qD:=hid (Nat.le_trans hB fp.out.size);go_wp2;go_region_law (refine step_append_lies _ rfl (.tmp 37) (.tmp 39) 69 rfl B 136 i0 (.agg #[.int .i64 0,.int .i64 0,.int .i64 0,.int .i64 0,.int .i64 0]) 5 40 underlying69 hi hz0 hz1 hz2 rfl (by decide) (.slice p5 l.length d5) l.length (cells aN l) rfl HOD.out ⟨u4.heap.size,0,none⟩ 1 1 [.int .i64 xi,.int .i64 xk,.int .i64 xc,.int .i64 xs,.int .i64 xt] rfl rfl (World.news_of_block (heap_alloc_new _ _)) (by intro u hu;simp at hu;rcases hu with rfl | rfl | rfl | rfl | rfl <;>rfl) (by decide) (by unfold maxLen;omega) (by omega) (Nat.le_trans qD.out HDW.out.size) _ rfl ?_;intro g cap w5 ho hg hat aC;obtain⟨f0,c3,D⟩:=HP4.out.UL qD.out ⟨xi,xk,xc,xs,xt⟩ hg ho hat)
   all_goals
    go_wp2;go_ret;exact⟨rfl,D.out.Ga hB fp.out⟩
theorem wA {F:Nat->Prop}{B q:Nat}{w:World}{aw:Int}{l:List It}(h:Pq F B w q aw l)(hB:B<=w.heap.size)(hl:l.length<=16)(x:It) :
 Calls prog 89 #[.pointer (some ⟨q,0,none⟩),val x] w fun e w'=>e=.returned (.int .i64 (put aw l x).2)/\eA Pq F B w q aw (put aw l x).1 w':=by
 by_cases hx:cY x
 ·rw [show put aw l x=(l,1) by unfold put;rw[if_pos hx]]
  exact LR h hB x hx
 ·exact LS h hB hl x hx
end Zu
end Go.Proofs.YtbgdlokegibkmaaGreat
