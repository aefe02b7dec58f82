/-
  A part of the proof of VisitPlays.
-/
import Derived.Test.YtbgdlokegibkmaaGreatMpAc
set_option maxRecDepth 100000
set_option maxHeartbeats 8000000
namespace Go.Proofs.YtbgdlokegibkmaaGreat
open Go.RowKit
open Tryz
open Lib (hid)
namespace Zt
open Zu
variable {ov:Nat}
open Zq (ae aj ai)
open Zp (iE aL Own At bS eu af aD aA ag bQ)
theorem BA {x:It}(h:cY x):x.cost<1∨¬x.cost<1/\(x.bU<0∨¬x.bU<0/\(2<x.bU∨¬2<x.bU/\x.cJ<0)):=by
 unfold cY at h;omega
theorem rZ {x:It}(h:¬cY x):¬x.cost<1/\¬x.bU<0/\¬2<x.bU/\¬x.cJ<0:=by
 unfold cY at h;omega
theorem zM {B v:Nat}{aw:Int}{l:List It}{w:World}(h:Qu B w v ov aw l)(hB:B<=w.heap.size)(x:It)(hx:cY x) :
 Calls prog 49 #[.pointer (some ⟨v,ov,none⟩),val x] w fun e w'=>e=.returned (.int .i64 1)/\cS B w v ov aw l w':=by
 have HS:=hid (fun u (hu:Below w.heap.size w u)=>cS.same h hB hu)
 obtain⟨b0,b1,b2,b3,b4⟩:=bQ (heap_alloc_new w (.cells #[.int .i64 x.id,.int .i64 x.key,.int .i64 x.cost,.int .i64 x.bU,.int .i64 x.cJ] 113));have HB:=hid ((Below.refl w.heap.size w).alloc (Nat.le_refl _) (.cells #[.int .i64 x.id,.int .i64 x.key,.int .i64 x.cost,.int .i64 x.bU,.int .i64 x.cJ] 113));have hc:=BA hx;obtain⟨xi,xk,xc,xs,xt⟩:=x;simp only at hc b0 b1 b2 b3 b4 HB;clear h hx;simp only[val];rcases hc with h1 | ⟨h1,h2 | ⟨h2,h3 | ⟨h3,h4⟩⟩⟩
 all_goals
  go_enter func49,ntmps49
  go_wp2;go_ret;exact⟨rfl,HS.out _ HB.out⟩
theorem pJ {B v:Nat}{aw:Int}{l:List It}{w:World}(h:Qu B w v ov aw l)(hB:B<=w.heap.size)(hl:l.length<=1000)(x:It)(hx:¬cY x)(hp:0<=au l x.id) :
 Calls prog 49 #[.pointer (some ⟨v,ov,none⟩),val x] w fun e w'=>e=.returned (.int .i64 5)/\cS B w v ov aw l w':=by
 have HS:=hid (fun u (hu:Below w.heap.size w u)=>cS.same h hB hu)
 obtain⟨b0,b1,b2,b3,b4⟩:=bQ (heap_alloc_new w (.cells #[.int .i64 x.id,.int .i64 x.key,.int .i64 x.cost,.int .i64 x.bU,.int .i64 x.cJ] 113));have HB:=hid ((Below.refl w.heap.size w).alloc (Nat.le_refl _) (.cells #[.int .i64 x.id,.int .i64 x.key,.int .i64 x.cost,.int .i64 x.bU,.int .i64 x.cJ] 113));have HA:=il (h.below HB.out) hl x.id;obtain⟨h1,h2,h3,h4⟩:=rZ hx;generalize au l x.id=P at *;obtain⟨xi,xk,xc,xs,xt⟩:=x;simp only at h1 h2 h3 h4 b0 b1 b2 b3 b4 HB HA;clear h hx;simp only[val];go_enter func49,ntmps49
 go_wp2_with (go_at_call 92;(with_reducible refine HA.mono ?_);rintro e w1 ⟨rfl,hb⟩;have aO:=hid (HB.out.trans (hb.mono HB.out.size));clear hb HA)
 go_ret;exact⟨rfl,HS.out _ aO.out⟩
theorem Jn {B v:Nat}{aw:Int}{l:List It}{w:World}(h:Qu B w v ov aw l)(hB:B<=w.heap.size)(hl:l.length<=1000)(x:It)(hx:¬cY x)(hp:¬0<=au l x.id)(hr:aw<=l.length) :
 Calls prog 49 #[.pointer (some ⟨v,ov,none⟩),val x] w fun e w'=>e=.returned (.int .i64 3)/\cS B w v ov aw l w':=by
 have HV:=hid h;have HS:=hid (fun u (hu:Below w.heap.size w u)=>cS.same h hB hu)
 obtain⟨b0,b1,b2,b3,b4⟩:=bQ (heap_alloc_new w (.cells #[.int .i64 x.id,.int .i64 x.key,.int .i64 x.cost,.int .i64 x.bU,.int .i64 x.cJ] 113));have HB:=hid ((Below.refl w.heap.size w).alloc (Nat.le_refl _) (.cells #[.int .i64 x.id,.int .i64 x.key,.int .i64 x.cost,.int .i64 x.bU,.int .i64 x.cJ] 113));have HA:=il (h.below HB.out) hl x.id;obtain⟨h1,h2,h3,h4⟩:=rZ hx;generalize au l x.id=P at *;obtain⟨xi,xk,xc,xs,xt⟩:=x;simp only at h1 h2 h3 h4 b0 b1 b2 b3 b4 HB HA;clear h hx;simp only[val];go_enter func49,ntmps49
 go_wp2_with (go_at_call 92;(with_reducible refine HA.mono ?_);rintro e w1 ⟨rfl,hb⟩;have aO:=hid (HB.out.trans (hb.mono HB.out.size));clear hb HA;obtain⟨p,c,c1,-,-,c0⟩:=(HV.out.below aO.out).cell)
 go_quiet (fail)
 go_wp2;go_ret;exact⟨rfl,HS.out _ (aO.out.trans ((ag _ _).mono aO.out.size))⟩
theorem zN {B v:Nat}{aw:Int}{l:List It}{w:World}(h:Qu B w v ov aw l)(hB:B<=w.heap.size)(hl:l.length<=1000)(x:It)(hx:¬cY x)(hp:¬0<=au l x.id)(hr:¬aw<=l.length) :
 Calls prog 49 #[.pointer (some ⟨v,ov,none⟩),val x] w fun e w'=>e=.returned (.int .i64 0)/\cS B w v ov aw (l++[x]) w':=by
 have HV:=hid h;have eF:=hid hB;have K:=heap_alloc_new w (.cells #[.int .i64 x.id,.int .i64 x.key,.int .i64 x.cost,.int .i64 x.bU,.int .i64 x.cJ] 113);obtain⟨b0,b1,b2,b3,b4⟩:=bQ K;have HK:=hid K;have HB:=hid ((Below.refl w.heap.size w).alloc (Nat.le_refl _) (.cells #[.int .i64 x.id,.int .i64 x.key,.int .i64 x.cost,.int .i64 x.bU,.int .i64 x.cJ] 113));have HA:=il (h.below HB.out) hl x.id;obtain⟨h1,h2,h3,h4⟩:=rZ hx;generalize au l x.id=P at *;obtain⟨xi,xk,xc,xs,xt⟩:=x;simp only at h1 h2 h3 h4 b0 b1 b2 b3 b4 HB HA HK;clear h hx K;simp only[val];go_enter func49,ntmps49
 go_wp2_with (go_at_call 92;(with_reducible refine HA.mono ?_);rintro e w1 ⟨rfl,hb⟩;have aO:=hid (HB.out.trans (hb.mono HB.out.size));have kq:=hid ((hb.block _ (ae HK.out)).trans HK.out);clear hb HA HK b0 b1 b2 b3 b4;obtain⟨p,c,c1,lx,cn,c0⟩:=(HV.out.below aO.out).cell;have LX:=hid lx;have CN:=hid cn;obtain⟨b0,b1,b2,b3,b4⟩:=bQ kq.out;clear lx cn)
 go_quiet (fail)
 have bJ:=hid (aO.out.trans ((ag w1 nq).mono aO.out.size));have lX:=hid (((ag w1 nq).block _ (ae kq.out)).trans kq.out);clear b0 b1 b2 b3 b4 c0 c1 LX CN kq aO;generalize w1.drewN nq=w2 at *;have hv2:=(HV.out.below bJ.out).lt;obtain⟨p2,d2,c1,lx,cn,-⟩:=(HV.out.below bJ.out).cell;have LX:=hid (lx.below ((Below.refl _ _).alloc (Nat.le_refl _) (.cells #[] 113)));have CN:=hid cn;have VH:=hid ((Below.refl w2.heap.size w2).alloc (Nat.le_refl _) (.cells #[] 113));have OM:=hid (Zp.qF (E:=aN) (T:=113) w2 w2.heap.size (Nat.le_refl _));clear lx cn;have Ec:=hid (cS.same HV.out eF.out bJ.out);go_wp2_with (first
  |(at_builtin;refine Zp.rV vv rfl _ _ rfl w2 _ _ rfl [] 0 rfl OM.out VH.out (Below.refl _ _) l l.length d2 p2 rfl rfl LX.out CN.out (by omega) ?_;intro p4 c4 w4 R4 B4;clear c1;obtain⟨b0,b1,b2,b3,b4⟩:=bQ ((B4.block _ (ae lX.out)).trans lX.out);have R5:=hid (show Own aN 113 w2.heap.size w4 (.slice p4 l.length c4) l from by(have:=R4.out;rw[Nat.zero_add] at this;exact this));have B5:=hid B4;clear R4 B4 OM LX CN)
  |(at_builtin;refine Zp.push vv rfl _ _ rfl w2 w4 (.slice p4 l.length c4) rfl l l.length rfl R5.out B5.out ((Below.refl _ _).alloc (Nat.le_refl _) _) w4.heap.size ⟨xi,xk,xc,xs,xt⟩ rfl (heap_alloc_new _ _) (by omega) ?_;intro p6 c6 w6 R6 B6;obtain⟨f0,⟨u0,k0⟩,D⟩:=(HV.out.below bJ.out).store (Nat.le_trans eF.out bJ.out.size) B6 R6.out;clear b0 b1 b2 b3 b4))
 go_ret;exact⟨rfl,Ec.out.trans D.out⟩
theorem vE {B v:Nat}{aw:Int}{l:List It}{w:World}(h:Qu B w v ov aw l)(hB:B<=w.heap.size)(hl:l.length<=1000)(x:It) :
 Calls prog 49 #[.pointer (some ⟨v,ov,none⟩),val x] w fun e w'=>e=.returned (.int .i64 (put aw l x).2)/\cS B w v ov aw (put aw l x).1 w':=by
 unfold put;split
 ·rename_i hx
  exact zM h hB x hx
 ·rename_i hx
  split
  ·rename_i hp
   exact pJ h hB hl x hx hp
  ·rename_i hp
   split
   ·rename_i hr
    exact Jn h hB hl x hx hp hr
   ·rename_i hr
    exact zN h hB hl x hx hp hr
end Zt
namespace Zr
theorem fq {k:IntKind}{a b:Int}(h:a=b):Ending.returned (.int k a)=.returned (.int k b):=by rw[h]
theorem Jo (x lo hi:Int)(w:World) :
 Calls prog 144 #[.int .i64 x,.int .i64 lo,.int .i64 hi] w fun e w'=>e=.returned (.int .i64 (uY x lo hi))/\w=w':=by
 by_cases h1:x<lo
 ·go_enter func144,ntmps144
  go_wp2;go_ret;exact⟨fq (by unfold uY;rw[if_pos (Or.inl h1)]),rfl⟩
 ·by_cases h2:hi<lo
  ·go_enter func144,ntmps144
   go_wp2;go_ret;exact⟨fq (by unfold uY;rw[if_pos (Or.inr h2)]),rfl⟩
  ·by_cases h3:hi<x
   ·go_enter func144,ntmps144
    go_wp2;go_ret;exact⟨fq (by unfold uY;rw[if_neg (by omega),if_pos h3]),rfl⟩
   ·go_enter func144,ntmps144
    go_wp2;go_ret;exact⟨fq (by unfold uY;rw[if_neg (by omega),if_neg (by omega)]),rfl⟩
theorem ft (x:Int)(w:World) :
 Calls prog 100 #[.int .i64 x] w fun e w'=>e=.returned (.int .i64 (dh x))/\w=w':=by
 go_enter func100,ntmps100
 go_wp2_with (go_at_call 144;refine(Jo _ _ _ _).mono ?_;rintro e w' ⟨rfl,rfl⟩)
 go_ret;exact⟨fq (I4 x),rfl⟩
theorem jE (a b:Int)(w:World) :
 Calls prog 154 #[.int .i64 a,.int .i64 b] w fun e w'=>e=.returned (.int .i64 (sub a b))/\w=w':=by
 have a0:=dD a;have a1:=dM a;have b0:=dD b;have b1:=dM b;go_enter func154,ntmps154
 go_wp2_with (go_at_call 100;refine(ft _ _).mono ?_;rintro e w' ⟨rfl,rfl⟩)
 go_ret;exact⟨rfl,rfl⟩
theorem MI (a b:Int)(h0:0<a):(4611686018427387904 / a<b)↔4611686018427387904<a*b:=by
 rw[Int.mul_comm];exact Int.ediv_lt_iff_lt_mul h0
theorem oC (a b:Int)(w:World) :
 Calls prog 223 #[.int .i64 a,.int .i64 b] w fun e w'=>e=.returned (.int .i64 (mul a b))/\w=w':=by
 have a0:=dD a;have a1:=dM a;have b0:=dD b;have b1:=dM b;have hm:mul a b=if mX<dh a*dh b then mX else dh a*dh b:=rfl
 have HM:=hid hm;clear hm;by_cases hz:0<dh a
 ·have ho:=MI (dh a) (dh b) hz
  have HO:=hid ho;clear ho;by_cases ht:4611686018427387904 / dh a<dh b
  ·go_enter func223,ntmps223
   go_wp2_with (go_at_call 100;refine(ft _ _).mono ?_;rintro e w' ⟨rfl,rfl⟩)
   go_ret;exact⟨fq (by rw[HM.out,if_pos (by unfold mX;exact HO.out.1 ht)];rfl),rfl⟩
  ·have hn:¬(4611686018427387904<dh a*dh b):=fun h=>ht (HO.out.2 h)
   have hp:=Int.mul_nonneg a0 b0;go_enter func223,ntmps223
   go_wp2_with (go_at_call 100;refine(ft _ _).mono ?_;rintro e w' ⟨rfl,rfl⟩)
   go_ret;exact⟨fq (by rw[HM.out,if_neg (by unfold mX;omega)]),rfl⟩
 ·have hp:0<=dh a*dh b:=Int.mul_nonneg a0 b0
  have hn:dh a*dh b<=0:=Int.mul_nonpos_of_nonpos_of_nonneg (by omega) b0
  go_enter func223,ntmps223
  go_wp2_with (go_at_call 100;refine(ft _ _).mono ?_;rintro e w' ⟨rfl,rfl⟩)
  go_ret;exact⟨fq (by rw[HM.out,if_neg (by unfold mX;omega)]),rfl⟩
theorem BB (l:List Int)(k:Nat)(h:k<l.length):sum (l.take (k+1))=sum (l.take k)+dh (l.getD k 0):=by
 rw[List.take_succ_eq_append_getElem h,pF];simp[sum,h]
theorem BC (l:List Int)(k:Nat):sum (l.take k)<=sum l:=by
 have h:=pF (l.take k) (l.drop k);rw[List.take_append_drop] at h;have:=zF (l.drop k);omega
theorem Ia (l:List Int)(b c:Nat)(w:World)(hl:l.length<=1000)
 (hc:∀k:Nat,k<l.length->w.cell? ⟨b,k,none⟩=some (.int .i64 (l.getD k 0))) :
 Calls prog 88 #[.slice (some ⟨b,0,none⟩) l.length c] w fun e w'=>e=.returned (.int .i64 (add l))/\w=w':=by
 have HC:=hid hc;clear hc;go_enter func88,ntmps88
 go_wp2;go_loop [3,9] (fun s i=>∃k:Nat,k<=l.length/\i=.int .i64 k/\s=.int .i64 (sum (l.take k))/\sum (l.take k)<=4611686018427387904) (fun _ i=>l.length-(intOf i).toNat)
 case atStart=>exact ⟨0,Nat.zero_le _,rfl,rfl,by simp[sum]⟩
 case round =>
  obtain⟨k,hk,rfl,rfl,hs⟩:=hrel;have hs0:=zF (l.take k);by_cases aC:k<l.length
  ·have hcell:=HC.out k aC
   have f0:=dD (l.getD k 0);have f1:=dM (l.getD k 0);have hst:=BB l k aC;have hle:=BC l (k+1);have HS:=hid hst;clear hst;have HL:=hid hle;clear hle;generalize l.getD k 0=x at *;by_cases ht:4611686018427387904-sum (l.take k)<dh x
   ·go_wp2_with (go_at_call 100;refine(ft _ _).mono ?_;rintro e w' ⟨rfl,rfl⟩)
    go_ret;exact⟨fq (by have h1:=HS.out;have h2:=HL.out;unfold add;rw[if_pos (by unfold mX;omega)];rfl),rfl⟩
   ·go_wp2_with (go_at_call 100;refine(ft _ _).mono ?_;rintro e w' ⟨rfl,rfl⟩)
    go_round
    case rel=>exact ⟨k+1,by omega,by go_num,by rw[HS.out],by rw[HS.out];omega⟩
    case measure=>simp [intOf];omega
  ·go_wp2
   go_ret;exact⟨fq (by unfold add;rw[List.take_of_length_le (by omega)] at hs ⊢;rw[if_neg (by unfold mX;omega)]),rfl⟩
theorem qL (x y:Int)(w:World)(b:Nat)(hb:b=w.heap.size) :
 Calls prog 88 #[.slice (some ⟨b,0,none⟩) 2 2] (w.alloc (.cells #[.int .i64 x,.int .i64 y] 3)) fun e w'=>e=.returned (.int .i64 (add [x,y]))/\w.alloc (.cells #[.int .i64 x,.int .i64 y] 3)=w':=by
 subst hb;refine Ia [x,y] _ 2 _ (by simp) fun k hk=> ?_
 rw[World.cell?_alloc_new]
 match k,hk with
 | 0,_=>rfl
 | 1,_=>rfl
end Zr
namespace Zv
open Zx (Rw Tb aq ak af)
open Zq (aI cO ae aj ai)
def bY (node:Int)(l:List Rw):List Int:=(l.filter fun r=>decide (0<=cF r.out node)).map (·.key)
def held (t:Tb)(node:Int):List Int:=bY node t.rows
theorem tF (node:Int)(l:List Rw)(j:Nat)(h:j<l.length):bY node (l.take (j+1))=bY node (l.take j)++(if 0<=cF (l.getD j aq).out node then [(l.getD j aq).key] else []):=by
 have e:l.getD j aq=l[j]:=by simp[List.getD,h]
 rw[e,bY,List.take_succ_eq_append_getElem h,List.filter_append,List.map_append];by_cases h2:0<=cF l[j].out node
 ·rw [if_pos h2];simp[bY,h2]
 ·rw [if_neg h2];simp[bY,h2]
theorem j5 (node:Int)(l:List Rw)(j:Nat):(bY node (l.take j)).length<=l.length:=by
 have h1:(bY node (l.take j)).length<=(l.take j).length:=by
  unfold bY;rw[List.length_map];exact List.length_filter_le _ _
 have h2:(l.take j).length<=l.length:=by simp;omega
 omega
def r8 (w:World)(l:List Int)(e:Ending)(w':World):Prop:=∃p c,e=.returned (.slice p l.length c)/\(∀k:Nat,k<l.length->∃b o,p=some ⟨b,o,none⟩/\w'.cell? ⟨b,o+k,none⟩=some (.int .i64 (l.getD k 0)))/\Below w.heap.size w w'
theorem MJ (t:Tb)(p:Option Addr)(c:Nat)(node:Int)(w:World)(h:ar w p t.rows)(hl:t.rows.length<=1000)(ho:∀r∈t.rows,r.out.length<=1000) :
 Calls prog 112 #[bN t p c,.int .i64 node] w (r8 w (held t node)):=by
 obtain⟨i0,hi,hz0,hz1,hz2⟩:=info_parts vz;obtain⟨start,rows⟩:=t;have HV:Hid (∀j,j=rows.length->held ⟨start,rows⟩ node=bY node (rows.take j)):=by
  rintro j rfl
  show bY node rows=_
  rw[List.take_length]
 generalize held ⟨start,rows⟩ node=V at HV ⊢;have HS:Hid (∀j,j<rows.length->bY node (rows.take (j+1))=bY node (rows.take j)++(if 0<=cF (rows.getD j aq).out node then [(rows.getD j aq).key] else [])):=fun j=>tF node rows j
 have HL:=fun j=>hid (j5 node rows j)
 have qB:bY node (rows.take 0)=[]:=by simp[bY]
 have hout:=fun (u:World) (j:Nat) (hj:j<rows.length) (p':Option Addr) (c':Nat) (hu:ak u p' (rows.getD j aq).out)=>qK (rows.getD j aq) p' c' node u hu (ho _ (by simp[List.getD,hj]))
 generalize hG:(fun j=>bY node (rows.take j))=G
 have MK:∀j,bY node (rows.take j)=G j:=fun j=>by rw[<-hG]
 simp only[MK] at HV HS HL qB;clear hG MK ho;simp only[bN];have hb:=(Below.refl w.heap.size w).alloc (Nat.le_refl _) (.cells #[.int .i64 start,.slice p rows.length (c+rows.length)] 28);have gH:=heap_alloc_new w (.cells #[.int .i64 start,.slice p rows.length (c+rows.length)] 28);have HH:=hid (h.below hb);have HB:=hid hb;have HX:=hid gH;clear h hb gH;go_enter func112,ntmps112
 go_wp2;generalize w.alloc (.cells #[.int .i64 start,.slice p rows.length (c+rows.length)] 28)=w1 at *;go_loopw [5,6] (fun v i wr=>∃j:Nat,j<=rows.length/\i=.int .i64 (j:Int)/\Hid (fj w1.heap.size wr v (G j))/\Below w1.heap.size w1 wr) (fun _ i _=>rows.length-(intOf i).toNat)
 case atStart=>exact ⟨0,by omega,rfl,(by rw[qB];exact World.ownsRow_nil _ _ _ _),Below.refl _ _⟩
 case round =>
  obtain⟨j,hj,rfl,ax,aW⟩:=hrel;obtain⟨a0,a1,-⟩:=dY (t:=⟨start,rows⟩) ((aW.block _ (ae HX.out)).trans HX.out);by_cases aC:j<rows.length
  ·obtain ⟨b,o,rfl,o9,qC,Jp,px,cx,Jq,Bg⟩:=gT HH.out aC
   have x0:=af o9 aW;have x1:=af qC aW;have x2:=af Jp aW;have x3:=af Jq aW;have bE:(j:Int)<(rows.length:Int):=by omega
   have hs:=HS.out j aC;have ho:=hout wr j aC px cx (Bg.below aW);have aT:=(HL j).out;have Qa:Hid (∀u,Below w1.heap.size w1 u->u.cell? ⟨w.heap.size,1,none⟩=some (.slice (some ⟨b,o,none⟩) rows.length (c+rows.length))/\u.cell? ⟨b,o+j*4,none⟩=some (.int .i64 (rows.getD j aq).key)):=fun u hu=>⟨(dY (t:=⟨start,rows⟩) ((hu.block _ (ae HX.out)).trans HX.out)).2.1,af o9 hu⟩
   clear o9 qC Jp Jq Bg hout;generalize rows.getD j aq=x at *;obtain⟨xk,xa,xm,xo⟩:=x;simp only[dE] at *;generalize cF xo node=O at *;have HW:=hid ax.out;unfold fj at HW;have cA:=hid aW;clear ax;by_cases hO:0<=O
   ·rw [if_pos hO] at hs
    have SE:=hid hs;clear hs HS HL HV;generalize hn:(G j).length=n at *;have HN:=hid hn;clear hn;go_wp2_with (first
     |(go_at_call 124;(with_reducible refine ho.mono ?_);rintro e u ⟨rfl,lO⟩;have HU:=hid lO;have ML:=hid (aI HW.out lO);have qD:=hid (cA.out.trans (lO.mono cA.out.size));clear ho lO a0 a1 x0 x1 x2 x3;obtain⟨a1,x0⟩:=Qa.out _ qD.out)
     |(at_builtin;refine wpList_append_own _ rfl (.tmp 22) (.tmp 29) 25 rfl w1.heap.size 3 i0 (.int .i64 0) 1 8 underlying25 hi hz0 hz1 hz2 rfl (by decide) _ _ _ rfl (ML.out.alloc _) ⟨u.heap.size,0,none⟩ 1 1 [.int .i64 xk] rfl rfl ?c1 ?c2 ?c3 ?c4 ?c5 ?_))
    case c1=>intro j u hj;match j,hj with | 0,hj=>simp at hj;subst hj;simp[Addr.add]
    case c2=>intro u hu;simp at hu;subst hu;rfl
    case c3=>unfold maxLen;omega
    case c4=>omega
    case c5=>have:=qD.out.size;simp;omega
    intro v' w2 ko hg _;have xZ:fj w1.heap.size w2 v' (G (j+1)):=by
     rw[SE.out];refine fj.S9 (n:=1) (xs:=[xk]) ?_ rfl;rw[HN.out];exact ko
    have hb2:=(qD.out.alloc qD.out.size _).grown hg (by have:=qD.out.size;simp;omega) (fun k hk=>(ML.out.lt k hk).1)
    have R:=hid xZ;clear hg ko xZ HW ML;go_wp2;go_roundw
    case rel=>exact ⟨j+1,by omega,by go_num,R,hb2⟩
    case measure=>simp [intOf];omega
   ·rw [if_neg hO,List.append_nil] at hs
    have SE:=hid hs;clear hs HS HL HV;go_wp2_with (go_at_call 124;(with_reducible refine ho.mono ?_);rintro e u ⟨rfl,lO⟩;have HU:=hid lO;have ML:=hid (aI HW.out lO);have qD:=hid (cA.out.trans (lO.mono cA.out.size));clear ho lO a0 a1 x0 x1 x2 x3)
    go_roundw
    case rel=>exact ⟨j+1,by omega,by go_num,by rw[SE.out];exact ML,qD.out⟩
    case measure=>simp [intOf];omega
  ·obtain rfl:j=rows.length:=by omega
   rw[<-HV.out _ rfl] at ax;obtain⟨pv,cv,rfl,hints⟩:=ax.out.bX;have HI:=hid hints;clear ax hints;go_wp2;go_ret;exact⟨pv,cv,rfl,HI.out,HB.out.trans (aW.mono HB.out.size)⟩
end Zv
namespace Zw
open Zq (ae aj ai aI)
def mH (a b:Lz):Bool:=a.key==b.key&&(a.gen==b.gen&&(a.aK==b.aK&&(a.spent==b.spent&&a.cJ==b.cJ)))
theorem r9 {a b:Lz}:mH a b=true↔a=b:=by
 obtain⟨a1,a2,a3,a4,a5⟩:=a;obtain⟨b1,b2,b3,b4,b5⟩:=b;simp[mH]
theorem eq5 (a b:Lz)(w:World):(Op.equalIn 10000 131 (val a) (val b)).run prog w=.ok (mH a b) w:=by
 obtain⟨a1,a2,a3,a4,a5⟩:=a;obtain⟨b1,b2,b3,b4,b5⟩:=b;unfold val mH;rw[run_equalIn_agg w 9999 _ _ _ (by kernel_rfl) (by kernel_rfl)]
 have e:∀(a b:Int) (w:World),(Op.equalIn 9999 3 (.int .i64 a) (.int .i64 b)).run prog w=.ok (a==b) w:=fun a b w=>run_equalIn_int w 9998 _ _ _ a b underlying3
 by_cases h1:a1=b1
 ·by_cases h2:a2=b2
  ·by_cases h3:a3=b3
   ·by_cases h4:a4=b4
    ·by_cases h5:a5=b5
     ·simp [Program.fieldsOf,underlying131,Op.eqFields,part,isAgg,run_underlying underlying3,e,h1,h2,h3,h4,h5]
     ·simp [Program.fieldsOf,underlying131,Op.eqFields,part,isAgg,run_underlying underlying3,e,h1,h2,h3,h4,h5]
    ·simp [Program.fieldsOf,underlying131,Op.eqFields,part,isAgg,run_underlying underlying3,e,h1,h2,h3,h4]
   ·simp [Program.fieldsOf,underlying131,Op.eqFields,part,isAgg,run_underlying underlying3,e,h1,h2,h3]
  ·simp [Program.fieldsOf,underlying131,Op.eqFields,part,isAgg,run_underlying underlying3,e,h1,h2]
 ·simp [Program.fieldsOf,underlying131,Op.eqFields,part,isAgg,run_underlying underlying3,e,h1]
theorem Td (a b:Lz)(w:World):(binOp .neq 131 (val a) (val b)).run prog w=.ok (.bool (!mH a b)) w:=by
 have:=eq5 a b w;unfold val at this ⊢;rw[run_neq_struct,this];rfl
theorem iJ {l m:List Lz}{p q:Option Addr}{c d:Nat}{w:World}(h:aL w p l)(h':aL w q m)(e:l=m)(hl:l.length<=1000) :
 Calls prog 27 #[.slice p l.length c,.slice q m.length d] w fun e w'=>e=.returned (.bool true)/\Below w.heap.size w w':=by
 subst e;have HB:=hid (Below.refl w.heap.size w);have HL:=hid h;have HM:=hid h';clear h h';have hne:((l.length:Int) != (l.length:Int))=false:=by simp
 go_enter func27,ntmps27
 go_wp2;go_loopw [5] (fun i wr=>∃j:Nat,j<=l.length/\i=.int .i64 (j:Int)/\Hid (Below w.heap.size w wr)) (fun i _=>l.length-(intOf i).toNat)
 case atStart=>exact ⟨0,by omega,rfl,HB⟩
 case round =>
  obtain⟨j,hj,rfl,aW⟩:=hrel;by_cases aC:j<l.length
  ·obtain ⟨b,o,rfl,k0,k1,k2,k3,k4⟩:=bj (HL.out.below aW.out) aC
   obtain⟨b',o',rfl,x0,x1,x2,x3,x4⟩:=bj (HM.out.below aW.out) aC;have bE:(j:Int)<(l.length:Int):=by omega
   have Pv:=fun i=>Td (l.getD j z) (l.getD j z) (wr.drewN i)
   rw[r9.2 rfl] at Pv;generalize l.getD j z=x at *;obtain⟨xk,xg,xa,xs,xt⟩:=x;simp only[val,Bool.not_true] at Pv k0 k1 k2 k3 k4 x0 x1 x2 x3 x4;clear HL HM;go_wp2;go_quiet (fail)
   go_wp2;go_roundw
   case rel=>exact ⟨j+1,by omega,by go_num,hid (aW.out.trans ((ag _ _).mono aW.out.size))⟩
   case measure=>simp only[intOf];omega
  ·have bE:¬(j:Int)<(l.length:Int):=by omega
   clear HL HM;go_wp2;go_ret;exact⟨rfl,aW.out⟩
theorem EC {l:List Lz}{p:Option Addr}{c:Nat}{w:World}(h:aL w p l)(hl:l.length<=1000) :
 Calls prog 21 #[.slice p l.length c] w fun e w'=>∃q d,e=.returned (.slice q l.length d)/\aL w' q l/\Below w.heap.size w w':=by
 have HL:=hid h;clear h;go_enter func21,ntmps21
 go_wp2;go_loopw [3,4] (fun y i wr=>∃(j:Nat) (q:Option Addr) (d:Nat),j<=l.length/\i=.int .i64 (j:Int)/\y=.slice q j d/\Hid (Own 131 w.heap.size wr y (l.take j))/\Below w.heap.size w wr) (fun _ i _=>l.length-(intOf i).toNat)
 case atStart=>exact ⟨0,none,0,by omega,rfl,rfl,hid (Own.none _ _ _),Below.refl _ _⟩
 case round =>
  obtain⟨j,q,d,hj,rfl,rfl,ax,aW⟩:=hrel;have cA:=hid aW;by_cases aC:j<l.length
  ·obtain ⟨b,o,rfl,k0,k1,k2,k3,k4⟩:=bj (HL.out.below aW) aC
   have bE:(j:Int)<(l.length:Int):=by omega
   have HT:=hid (aA aC);have HN:=hid (show(l.take j).length=j by simp;omega)
   generalize l.getD j z=x at *;generalize l.take j=L at *;obtain⟨xk,xg,xa,xs,xt⟩:=x;simp only at k0 k1 k2 k3 k4;clear aW;have HU:=hid (fun(o:Obj)=>(Below.refl wr.heap.size wr).alloc (Nat.le_refl _) o)
   have HG:=hid (fun(o o':Obj)=>show ((wr.alloc o).alloc o').heap[wr.heap.size+1]? =some o' from by have:=heap_alloc_new (wr.alloc o) o';simpa using this)
   go_wp2_with (at_builtin;refine cW rfl (.tmp 16) (.tmp 28) rfl w wr (.slice q j d) rfl L j HN.out ax.out cA.out (HU.out _) (wr.heap.size+1) ⟨xk,xg,xa,xs,xt⟩ rfl (HG.out _ _) (by omega) ?_;intro p4 c4 w4 R4 B4)
   go_roundw
   case rel=>exact ⟨j+1,p4,c4,by omega,by go_num,rfl,by rw[HT.out];exact R4,B4⟩
   case measure=>simp only[intOf];omega
  ·have bE:¬(j:Int)<(l.length:Int):=by omega
   have e:j=l.length:=by omega
   have hw:=ax.out;rw[List.take_of_length_le (by omega)] at hw
   obtain⟨q',d',hq,eM⟩:=hw.gi;simp only[Value.slice.injEq] at hq;obtain⟨rfl,-,rfl⟩:=hq;have HQ:=hid eM;clear eM hw ax;go_wp2;subst e;refine bodyPost_ret (v:=.slice q l.length d) (by simp[results,results21,go_sem]) rfl ⟨q,⟨d,rfl⟩,HQ.out,cA.out⟩
end Zw
namespace Zt
open Zu
variable {ov:Nat}
open Zq (ae aj ai)
open Zp (iE aL Own At bS eu af aD aA ag bQ bX)
theorem iF:eu prog bX 3 25:=⟨underlying25,.int .i64 0,8,by kernel_rfl,rfl,by decide⟩
theorem U2 {w:World}{b o:Nat}{x:Int}(h:At bX w b o x):w.cell? ⟨b,o,none⟩=some (.int .i64 x):=h 0 _ rfl
theorem oD {w:World}{p:Option Addr}{l:List Int}(h:aL bX w p l){j:Nat}(hj:j<l.length):∃b o,p=some ⟨b,o,none⟩/\w.cell? ⟨b,o+j,none⟩=some (.int .i64 (l.getD j 0)):=by
 obtain⟨b,o,e,ha⟩:=Zp.bj h hj;refine⟨b,o,e,?_⟩;have:=U2 ha;rwa [show bX.n=1 from rfl,Nat.mul_one] at this
theorem nv (k a:Int)(s:List Int×Bool) :
 (s.2=false/\k<=a/\a=k/\dA k s a=(s.1++[k],true))∨(s.2=false/\k<=a/\a≠k/\dA k s a=(s.1++[k]++[a],true))∨
 ((s.2=true∨s.2=false/\¬k<=a)/\a=k/\dA k s a=s)∨((s.2=true∨s.2=false/\¬k<=a)/\a≠k/\dA k s a=(s.1++[a],s.2)):=by
 obtain⟨l,d⟩:=s;unfold dA;cases d <;>by_cases h1:k<=a <;>by_cases h2:a=k <;>simp [h1,h2]
theorem vF {k:Int}{l:List Int}{j:Nat}(h:j<l.length):dP k (l.take (j+1))=dA k (dP k (l.take j)) (l.getD j 0):=by
 rw[aA 0 h,jS]
theorem Qb {l:List It}{j:Nat}(h:j<l.length):aR (l.take (j+1))=ja (l.getD j z).key (aR (l.take j)):=by
 rw[aA z h,xR]
theorem se {B v:Nat}{aw:Int}{l:List It}{w:World}(h:Qu B w v ov aw l)(hl:l.length<=1000) :
 Calls prog 169 #[.pointer (some ⟨v,ov,none⟩)] w fun e w'=>∃p c,e=.returned (.slice p (aR l).length c)/\Own bX 3 w.heap.size w' (.slice p (aR l).length c) (aR l)/\Below w.heap.size w w':=by
 have HV:=hid h;have HD:=hid (show aR l=aR (l.take l.length) by rw[List.take_length])
 have HS:=hid (fun(j:Nat) (h:j<l.length)=>Qb h)
 have HL:=hid (fun j=>fB (l.take j))
 have H0:=hid (show aR (l.take 0)=[] from rfl)
 generalize aR l=R at HD ⊢;generalize hK:(fun j=>aR (l.take j))=KS
 have hK':∀j,aR (l.take j)=KS j:=fun j=>by rw[<-hK]
 simp only[hK'] at HD HS HL H0;clear h hK hK';go_enter func169,ntmps169
 go_wp2;go_loopw [3,4] (fun y k wr=>∃(j:Nat) (p:Option Addr) (d n:Nat),j<=l.length/\k=.int .i64 (j:Int)/\y=.slice p n d/\Hid (Own bX 3 w.heap.size wr y (KS j))/\Hid ((KS j).length=n)/\Hid (Below w.heap.size w wr)) (fun _ k _=>l.length-(intOf k).toNat)
 case atStart=>exact ⟨0,none,0,0,by omega,rfl,rfl,by rw[H0.out];exact hid (Own.none _ _ _ _),by rw[H0.out];exact hid rfl,hid (Below.refl _ _)⟩
 case round =>
  obtain⟨j,p,d,n,hj,rfl,rfl,ax,hn,cA⟩:=hrel;obtain⟨q0,cq0,c1,hr,-⟩:=(HV.out.below cA.out).cell;by_cases aC:j<l.length
  ·have bE:(j:Int)<(l.length:Int):=by omega
   have HE:=hid (HS.out j aC);have Yp:n<=1000:=by
    rw[<-hn.out];exact Nat.le_trans (HL.out j) (by simp;omega)
   have HPJ:=hid (fun u (hu:Below w.heap.size w u)=>bj (HV.out.below hu).cell.choose_spec.choose_spec.2.1 aC)
   generalize KS j=M at *;have eM:=ax.out.gi;obtain⟨p',c',e',HM⟩:=eM;simp only[Value.slice.injEq] at e';obtain⟨rfl,zO,rfl⟩:=e';subst zO;have Jr:=hid HM;have uE:=hid (bj hr aC);clear hr HM HPJ;generalize l.getD j z=x at *;obtain⟨xi,xk,xc,xs,xt⟩:=x;obtain⟨b,o,rfl,hat⟩:=uE.out;obtain⟨k0,k1,k2,k3,k4⟩:=xu hat;simp only at k0 k1 k2 k3 k4 HE;have HX:=hid (fun u (hu:Below wr.heap.size wr u)=>And.intro (af c1 hu) (af k1 hu))
   clear hat k0 k2 k3 k4 uE;have MM:=hid (fun(m:Nat) (hm:m<M.length)=>vF (k:=xk) hm)
   have Qc:=hid (fun m=>ln xk (M.take m))
   have yh:=hid (show dP xk (M.take 0)=([],false) from rfl)
   have ED:=hid (show ja xk M=if (dP xk (M.take M.length)).2=true then (dP xk (M.take M.length)).1 else (dP xk (M.take M.length)).1++[xk] by rw[List.take_length];rfl)
   generalize ja xk M=M' at *;generalize hK:(fun j=>dP xk (M.take j))=KF
   have hK':∀j,dP xk (M.take j)=KF j:=fun j=>by rw[<-hK]
   simp only[hK'] at MM Qc yh ED;clear hK hK' k1;go_wp2;clear c1
   rename World=>W1
   go_loopw [5,6,7] (fun y dn k wu=>∃(m:Nat) (p2:Option Addr) (d2 n2:Nat),m<=M.length/\k=.int .i64 (m:Int)/\y=.slice p2 n2 d2/\dn=.bool (KF m).2/\Hid (Own bX 3 W1.heap.size wu y (KF m).1)/\Hid ((KF m).1.length=n2)/\Hid (Below W1.heap.size W1 wu)) (fun _ _ k _=>M.length-(intOf k).toNat)
   case atStart=>exact ⟨0,none,0,0,by omega,rfl,rfl,by rw[yh.out],by rw[yh.out];exact hid (Own.none _ _ _ _),by rw[yh.out];exact hid rfl,hid (Below.refl _ _)⟩
   case round =>
    obtain⟨m,p2,d2,n2,hm,rfl,rfl,rfl,lC,jJ,qD⟩:=hrel;obtain⟨c1,k1⟩:=HX.out _ qD.out;have hn6:n2<=1002:=by
     rw[<-jJ.out];have:=Qc.out m;have h5:(M.take m).length<=M.length:=by simp;omega
     omega
    by_cases MN:m<M.length
    ·have Te:(m:Int)<(M.length:Int):=by omega
     obtain⟨b2,o2,rfl,a1⟩:=oD Jr.out MN;have HA:=hid (fun u (hu:Below W1.heap.size W1 u)=>af a1 hu)
     have a0:=HA.out _ qD.out;have hst:=MM.out m MN;have hc:=nv xk (M.getD m 0) (KF m);rw[<-hst] at hc;clear hst a1 Jr MM Qc;generalize M.getD m 0=a at *;generalize KF m=S at *;generalize H5:KF (m+1)=S' at *;have nu:=hid H5;obtain⟨L,D⟩:=S;simp only at jJ lC hc;have tG:=lC;have aO:=qD;clear lC qD H5;rcases hc with ⟨hD,h1,h2,h3⟩ | ⟨hD,h1,h2,h3⟩ | ⟨hD,h2,h3⟩ | ⟨hD,h2,h3⟩
     ·subst hD
      have H3:=hid (nu.out.trans h3);have g1:decide (a>=xk)=true:=by simp;exact h1
      have g2:(a != xk)=false:=by simp[h2]
      clear nu h3 h2;go_wp2;go_quiet (fail)
      have bJ:=hid (aO.out.trans ((ag wr nq).mono aO.out.size));have oY:=hid (tG.out.on (ag wr nq));clear c1 k1 a0 aO tG;generalize wr.drewN nq=w2 at *;obtain⟨c1,k1⟩:=HX.out _ bJ.out;have a0:=HA.out _ bJ.out;go_wp2_with (at_builtin;refine Zp.push iF rfl _ _ rfl W1 w2 (.slice p2 n2 d2) rfl L n2 jJ.out oY.out bJ.out ((Below.refl _ _).alloc (Nat.le_refl _) _) w2.heap.size xk rfl (heap_alloc_new _ _) (by omega) ?_;intro p3 c3 w3 R3 B3;have jK:=R3;have cH:=hid B3;clear R3 B3 c1 k1 a0;obtain⟨c1,k1⟩:=HX.out _ cH.out;have a0:=HA.out _ cH.out)
      go_quiet (fail)
      have fp:=hid (cH.out.trans ((ag w3 nq).mono cH.out.size));have xl:=hid (jK.out.on (ag w3 nq));clear c1 k1 a0 cH jK;generalize w3.drewN nq=w4 at *;obtain⟨c1,k1⟩:=HX.out _ fp.out;have a0:=HA.out _ fp.out;go_wp2;go_roundw
      case rel=>exact ⟨m+1,p3,c3,n2+1,by omega,by go_num,rfl,by rw[H3.out],by rw[H3.out];exact xl,by rw[H3.out];exact hid (by simp[jJ.out]),fp⟩
      case measure=>simp only[intOf];omega
     ·subst hD
      have H3:=hid (nu.out.trans h3);have g1:decide (a>=xk)=true:=by simp;exact h1
      have g2:(a != xk)=true:=by simp[h2]
      have hn7:=hid (show(L++[xk]).length=n2+1 by simp[jJ.out])
      clear nu h3 h2;go_wp2;go_quiet (fail)
      have bJ:=hid (aO.out.trans ((ag wr nq).mono aO.out.size));have oY:=hid (tG.out.on (ag wr nq));clear c1 k1 a0 aO tG;generalize wr.drewN nq=w2 at *;obtain⟨c1,k1⟩:=HX.out _ bJ.out;have a0:=HA.out _ bJ.out;go_wp2_with (at_builtin;refine Zp.push iF rfl _ _ rfl W1 w2 (.slice p2 n2 d2) rfl L n2 jJ.out oY.out bJ.out ((Below.refl _ _).alloc (Nat.le_refl _) _) w2.heap.size xk rfl (heap_alloc_new _ _) (by omega) ?_;intro p3 c3 w3 R3 B3;have jK:=R3;have cH:=hid B3;clear R3 B3 c1 k1 a0;obtain⟨c1,k1⟩:=HX.out _ cH.out;have a0:=HA.out _ cH.out)
      go_quiet (fail)
      have fp:=hid (cH.out.trans ((ag w3 nq).mono cH.out.size));have xl:=hid (jK.out.on (ag w3 nq));clear c1 k1 a0 cH jK;generalize w3.drewN nq=w4 at *;obtain⟨c1,k1⟩:=HX.out _ fp.out;have a0:=HA.out _ fp.out;go_wp2_with (at_builtin;refine Zp.push iF rfl _ _ rfl W1 w4 (.slice p3 (n2+1) c3) rfl (L++[xk]) (n2+1) hn7.out xl.out fp.out ((Below.refl _ _).alloc (Nat.le_refl _) _) w4.heap.size a rfl (heap_alloc_new _ _) (by omega) ?_;intro p5 c5 w5 R5 B5;have U3:=R5;have jy:=hid B5;clear R5 B5 c1 k1 a0;obtain⟨c1,k1⟩:=HX.out _ jy.out;have a0:=HA.out _ jy.out)
      go_roundw
      case rel=>exact ⟨m+1,p5,c5,n2+1+1,by omega,by go_num,rfl,by rw[H3.out],by rw[H3.out];exact U3,by rw[H3.out];exact hid (by simp[jJ.out]),jy⟩
      case measure=>simp only[intOf];omega
     ·have H3:=hid (nu.out.trans h3)
      have g2:(a != xk)=false:=by simp[h2]
      clear nu h3 h2;rcases hD with hD | ⟨hD,h1⟩
      all_goals
       subst hD
       first | have g1:decide (a>=xk)=false:=(by simp;omega) | skip
       go_wp2;go_quiet (fail)
       have bJ:=hid (aO.out.trans ((ag wr nq).mono aO.out.size));have oY:=hid (tG.out.on (ag wr nq));clear c1 k1 a0 aO tG;generalize wr.drewN nq=w2 at *;obtain⟨c1,k1⟩:=HX.out _ bJ.out;have a0:=HA.out _ bJ.out;go_wp2;go_quiet (fail)
       have cH:=hid (bJ.out.trans ((ag w2 nq).mono bJ.out.size));have jK:=hid (oY.out.on (ag w2 nq));clear c1 k1 a0 bJ oY;generalize w2.drewN nq=w3 at *;obtain⟨c1,k1⟩:=HX.out _ cH.out;have a0:=HA.out _ cH.out;go_wp2;go_roundw
       case rel=>exact ⟨m+1,p2,d2,n2,by omega,by go_num,rfl,by rw[H3.out],by rw[H3.out];exact jK,by rw[H3.out];exact jJ,cH⟩
       case measure=>simp only[intOf];omega
     ·have H3:=hid (nu.out.trans h3)
      have g2:(a != xk)=true:=by simp[h2]
      clear nu h3 h2;rcases hD with hD | ⟨hD,h1⟩
      all_goals
       subst hD
       first | have g1:decide (a>=xk)=false:=(by simp;omega) | skip
       go_wp2;go_quiet (fail)
       have bJ:=hid (aO.out.trans ((ag wr nq).mono aO.out.size));have oY:=hid (tG.out.on (ag wr nq));clear c1 k1 a0 aO tG;generalize wr.drewN nq=w2 at *;obtain⟨c1,k1⟩:=HX.out _ bJ.out;have a0:=HA.out _ bJ.out;go_wp2;go_quiet (fail)
       have cH:=hid (bJ.out.trans ((ag w2 nq).mono bJ.out.size));have jK:=hid (oY.out.on (ag w2 nq));clear c1 k1 a0 bJ oY;generalize w2.drewN nq=w3 at *;obtain⟨c1,k1⟩:=HX.out _ cH.out;have a0:=HA.out _ cH.out;go_wp2_with (at_builtin;refine Zp.push iF rfl _ _ rfl W1 w3 (.slice p2 n2 d2) rfl L n2 jJ.out jK.out cH.out ((Below.refl _ _).alloc (Nat.le_refl _) _) w3.heap.size a rfl (heap_alloc_new _ _) (by omega) ?_;intro p4 c4 w4 R4 B4;have xl:=R4;have fp:=hid B4;clear R4 B4 c1 k1 a0;obtain⟨c1,k1⟩:=HX.out _ fp.out;have a0:=HA.out _ fp.out)
       go_roundw
       case rel=>exact ⟨m+1,p4,c4,n2+1,by omega,by go_num,rfl,by rw[H3.out],by rw[H3.out];exact xl,by rw[H3.out];exact hid (by simp[jJ.out]),fp⟩
       case measure=>simp only[intOf];omega
    ·have Te:¬(m:Int)<(M.length:Int):=by omega
     obtain rfl:m=M.length:=by omega
     have gL:=ED.out;clear MM Qc Jr ED MN;generalize KF M.length=S at *;obtain⟨L,D⟩:=S;simp only at jJ lC gL;cases D
     ·have MO:=hid (show M'=L++[xk] by rw[gL];rfl)
      clear gL;go_wp2_with (at_builtin;refine Zp.push iF rfl _ _ rfl W1 wr (.slice p2 n2 d2) rfl L n2 jJ.out lC.out qD.out ((Below.refl _ _).alloc (Nat.le_refl _) _) wr.heap.size xk rfl (heap_alloc_new _ _) (by omega) ?_;intro p3 c3 w3 R3 B3)
      go_roundw
      case rel=>exact ⟨j+1,p3,c3,n2+1,by omega,by go_num,rfl,by rw[HE.out,MO.out];exact hid (Own.lower R3.out cA.out.size),by rw[HE.out,MO.out];exact hid (by simp[jJ.out]),hid (cA.out.trans (B3.mono cA.out.size))⟩
      case measure=>simp only[intOf];omega
     ·have MO:=hid (show M'=L by rw[gL];rfl)
      clear gL;go_wp2;go_roundw
      case rel=>exact ⟨j+1,p2,d2,n2,by omega,by go_num,rfl,by rw[HE.out,MO.out];exact hid (Own.lower lC.out cA.out.size),by rw[HE.out,MO.out];exact jJ,hid (cA.out.trans (qD.out.mono cA.out.size))⟩
      case measure=>simp only[intOf];omega
  ·have bE:¬(j:Int)<(l.length:Int):=by omega
   obtain rfl:j=l.length:=by omega
   rw[<-HD.out] at ax hn;have hw:=ax.out;have Pt:=hn.out;subst Pt;obtain⟨q',d',hq,eM⟩:=hw.gi;simp only[Value.slice.injEq] at hq;obtain⟨rfl,-,rfl⟩:=hq;have HQ:=hid hw;clear eM hw ax hn hr;go_wp2;refine bodyPost_ret (v:=.slice p R.length d) (by simp[results,results169,go_sem]) rfl ⟨p,d,rfl,HQ.out,cA.out⟩
end Zt
namespace Zt
open Zu
variable {ov:Nat}
open Zq (ae aj ai aI)
open Zp (iE aL Own At bS eu af aD aA ag bQ)
def mH (a b:It):Bool:=a.id==b.id&&(a.key==b.key&&(a.cost==b.cost&&(a.bU==b.bU&&a.cJ==b.cJ)))
theorem zP {l:List It}{j:Nat}(h:j<l.length):nh (l.take (j+1))=Zr.add [nh (l.take j),(l.getD j z).cost]:=by
 rw[aA z h,xS]
theorem MP {B v:Nat}{aw:Int}{l:List It}{w:World}(h:Qu B w v ov aw l)(hl:l.length<=1000)(key:Int) :
 Calls prog 118 #[.pointer (some ⟨v,ov,none⟩),.int .i64 key] w fun e w'=>e=.returned (.int .i64 (sum l key))/\Below w.heap.size w w':=by
 have HO:=oy h hl key;have HM:=hid (show sum l key=nh (of l key) from rfl)
 have hm:(of l key).length<=1000:=Nat.le_trans (lR l key) hl;generalize of l key=m at *;have HS:=hid (fun(j:Nat) (hj:j<m.length)=>zP hj)
 have H0:=hid (show nh []=0 from rfl)
 generalize nh=SU at *;generalize sum l key=R at *;have ct:=Zr.eP;clear h;go_enter func118,ntmps118
 go_wp2_with (go_at_call 47;(with_reducible refine HO.mono ?_);rintro e w1 ⟨p,c,rfl,hp,hb⟩;have HP:=hid hp;have aO:=hid hb;clear hp hb HO)
 go_loopw [6,7] (fun s i wr=>∃j:Nat,j<=m.length/\i=.int .i64 (j:Int)/\s=.int .i64 (SU (m.take j))/\w1=wr) (fun _ i _=>m.length-(intOf i).toNat)
 case atStart=>exact ⟨0,by omega,rfl,by rw[List.take_zero,H0.out],rfl⟩
 case round =>
  obtain⟨j,hj,rfl,rfl,rfl⟩:=hrel;by_cases aC:j<m.length
  ·obtain ⟨b,o,rfl,ha⟩:=bj HP.out aC
   obtain⟨k0,k1,k2,k3,k4⟩:=xu ha;have bE:(j:Int)<(m.length:Int):=by omega
   have HE:=hid (HS.out j aC);clear ha HS;generalize l.getD j z=x at *;generalize(m.getD j z).cost=xc at *;generalize SU (m.take j)=s0 at *;have ct2:=ct s0 xc;go_wp2_with (go_at_call 50;(with_reducible refine(ct2 _).mono ?_);rintro e w2 ⟨rfl,rfl⟩)
   go_roundw
   case rel=>exact ⟨j+1,by omega,by go_num,by rw[HE.out],trivial⟩
   case measure=>simp only[intOf];omega
  ·have bE:¬(j:Int)<(m.length:Int):=by omega
   have HE:=hid (show SU (m.take j)=R by rw[List.take_of_length_le (by omega),HM.out])
   generalize SU (m.take j)=s0 at *;go_wp2;go_ret;exact⟨by simp;exact HE.out,aO.out⟩
end Zt
namespace Zu
open Zq (ae aj ai aI)
open Zp (iE aL Own At bS eu af aD aA ag bQ)
def mH (a b:It):Bool:=a.id==b.id&&(a.key==b.key&&(a.cost==b.cost&&(a.bU==b.bU&&a.cJ==b.cJ)))
theorem r9 {a b:It}:mH a b=true↔a=b:=by
 obtain⟨a1,a2,a3,a4,a5⟩:=a;obtain⟨b1,b2,b3,b4,b5⟩:=b;simp[mH]
theorem eq5 (a b:It)(w:World):(Op.equalIn 10000 113 (val a) (val b)).run prog w=.ok (mH a b) w:=by
 obtain⟨a1,a2,a3,a4,a5⟩:=a;obtain⟨b1,b2,b3,b4,b5⟩:=b;unfold val mH;rw[run_equalIn_agg w 9999 _ _ _ (by kernel_rfl) (by kernel_rfl)]
 have e:∀(a b:Int) (w:World),(Op.equalIn 9999 3 (.int .i64 a) (.int .i64 b)).run prog w=.ok (a==b) w:=fun a b w=>run_equalIn_int w 9998 _ _ _ a b underlying3
 by_cases h1:a1=b1
 ·by_cases h2:a2=b2
  ·by_cases h3:a3=b3
   ·by_cases h4:a4=b4
    ·by_cases h5:a5=b5
     ·simp [Program.fieldsOf,underlying113,Op.eqFields,part,isAgg,run_underlying underlying3,e,h1,h2,h3,h4,h5]
     ·simp [Program.fieldsOf,underlying113,Op.eqFields,part,isAgg,run_underlying underlying3,e,h1,h2,h3,h4,h5]
    ·simp [Program.fieldsOf,underlying113,Op.eqFields,part,isAgg,run_underlying underlying3,e,h1,h2,h3,h4]
   ·simp [Program.fieldsOf,underlying113,Op.eqFields,part,isAgg,run_underlying underlying3,e,h1,h2,h3]
  ·simp [Program.fieldsOf,underlying113,Op.eqFields,part,isAgg,run_underlying underlying3,e,h1,h2]
 ·simp [Program.fieldsOf,underlying113,Op.eqFields,part,isAgg,run_underlying underlying3,e,h1]
theorem Td (a b:It)(w:World):(binOp .neq 113 (val a) (val b)).run prog w=.ok (.bool (!mH a b)) w:=by
 have:=eq5 a b w;unfold val at this ⊢;rw[run_neq_struct,this];rfl
theorem iJ {l:List It}{p q:Option Addr}{c d:Nat}{w:World}(h:aL aN w p l)(h':aL aN w q l)(hl:l.length<=1000) :
 Calls prog 28 #[.slice p l.length c,.slice q l.length d] w fun e w'=>e=.returned (.bool true)/\Below w.heap.size w w':=by
 have HB:=hid (Below.refl w.heap.size w);have HL:=hid h;have HM:=hid h';clear h h';have hne:((l.length:Int) != (l.length:Int))=false:=by simp
 go_enter func28,ntmps28
 go_wp2;go_loopw [5] (fun i wr=>∃j:Nat,j<=l.length/\i=.int .i64 (j:Int)/\Hid (Below w.heap.size w wr)) (fun i _=>l.length-(intOf i).toNat)
 case atStart=>exact ⟨0,by omega,rfl,HB⟩
 case round =>
  obtain⟨j,hj,rfl,aW⟩:=hrel;by_cases aC:j<l.length
  ·obtain ⟨b,o,rfl,ha⟩:=bj (HL.out.below aW.out) aC
   obtain⟨k0,k1,k2,k3,k4⟩:=xu ha;obtain⟨b',o',rfl,ha'⟩:=bj (HM.out.below aW.out) aC;obtain⟨x0,x1,x2,x3,x4⟩:=xu ha';have bE:(j:Int)<(l.length:Int):=by omega
   have Pv:=fun i=>Td (l.getD j z) (l.getD j z) (wr.drewN i)
   rw[r9.2 rfl] at Pv;clear HL HM ha ha';generalize l.getD j z=x at *;obtain⟨xi,xk,xc,xs,xt⟩:=x;simp only[val,Bool.not_true] at Pv k0 k1 k2 k3 k4 x0 x1 x2 x3 x4;go_wp2;go_quiet (fail)
   go_wp2;go_roundw
   case rel=>exact ⟨j+1,by omega,by go_num,hid (aW.out.trans ((ag _ _).mono aW.out.size))⟩
   case measure=>simp only[intOf];omega
  ·have bE:¬(j:Int)<(l.length:Int):=by omega
   clear HL HM;go_wp2;go_ret;exact⟨rfl,aW.out⟩
theorem EC {l:List It}{p:Option Addr}{c:Nat}{w:World}(h:aL aN w p l)(hl:l.length<=1000) :
 Calls prog 23 #[.slice p l.length c] w fun e w'=>∃q d,e=.returned (.slice q l.length d)/\aL aN w' q l/\Below w.heap.size w w':=by
 have HL:=hid h;clear h;go_enter func23,ntmps23
 go_wp2;go_loopw [3,4] (fun y i wr=>∃(j:Nat) (q:Option Addr) (d:Nat),j<=l.length/\i=.int .i64 (j:Int)/\y=.slice q j d/\Hid (Own aN 113 w.heap.size wr y (l.take j))/\Below w.heap.size w wr) (fun _ i _=>l.length-(intOf i).toNat)
 case atStart=>exact ⟨0,none,0,by omega,rfl,rfl,hid (Own.none _ _ _ _),Below.refl _ _⟩
 case round =>
  obtain⟨j,q,d,hj,rfl,rfl,ax,aW⟩:=hrel;have cA:=hid aW;by_cases aC:j<l.length
  ·obtain ⟨b,o,rfl,ha⟩:=bj (HL.out.below aW) aC
   obtain⟨k0,k1,k2,k3,k4⟩:=xu ha;have bE:(j:Int)<(l.length:Int):=by omega
   have HT:=hid (aA z aC);have HN:=hid (show(l.take j).length=j by simp;omega)
   clear aW ha HL;generalize l.getD j z=x at *;generalize l.take j=L at *;obtain⟨xi,xk,xc,xs,xt⟩:=x;simp only at k0 k1 k2 k3 k4;have HU:=hid (fun(o:Obj)=>(Below.refl wr.heap.size wr).alloc (Nat.le_refl _) o)
   have HG:=hid (fun(o o':Obj)=>show ((wr.alloc o).alloc o').heap[wr.heap.size+1]? =some o' from by have:=heap_alloc_new (wr.alloc o) o';simpa using this)
   go_wp2_with (at_builtin;refine Zp.push vv rfl _ _ rfl w wr (.slice q j d) rfl L j HN.out ax.out cA.out ((HU.out _).alloc (HU.out _).size _) (wr.heap.size+1) ⟨xi,xk,xc,xs,xt⟩ rfl (HG.out _ _) (by omega) ?_;intro p4 c4 w4 R4 B4)
   go_roundw
   case rel=>exact ⟨j+1,p4,c4,by omega,by go_num,rfl,by rw[HT.out];exact R4,B4⟩
   case measure=>simp only[intOf];omega
  ·have bE:¬(j:Int)<(l.length:Int):=by omega
   have e:j=l.length:=by omega
   have hw:=ax.out;rw[List.take_of_length_le (by omega)] at hw
   obtain⟨q',d',hq,eM⟩:=hw.gi;simp only[Value.slice.injEq] at hq;obtain⟨rfl,-,rfl⟩:=hq;have HQ:=hid eM;clear eM hw ax;go_wp2;subst e;refine bodyPost_ret (v:=.slice q l.length d) (by simp[results,results23,go_sem]) rfl ⟨q,⟨d,rfl⟩,HQ.out,cA.out⟩
theorem zP {l:List It}{j:Nat}(h:j<l.length):nh (l.take (j+1))=Zr.add [nh (l.take j),(l.getD j z).cost]:=by
 rw[aA z h,xS]
end Zu
namespace Zj
theorem EF (p:Option Addr)(n c:Nat)(m:Int)(w:World)(h:¬(1<=m/\m<=(n:Int))) :
 Calls prog 131 #[.slice p n c,.int .i64 m] w fun e w'=>e=.returned (.tuple #[.int .i64 0,.bool false])/\w=w':=by
 by_cases h1:m<1
 ·go_enter func131,ntmps131
  go_wp2;go_ret2
  exact⟨rfl,rfl⟩
 ·have h2:(n:Int)<m:=by omega
  clear h;go_enter func131,ntmps131
  go_wp2;go_ret2
  exact⟨rfl,rfl⟩
def tH (w w':World):Prop:=(∀p,w'.cell? p=w.cell? p)/\Below w.heap.size w w'
theorem tH.refl (w:World):tH w w:=⟨fun _=>rfl,Below.refl _ _⟩
theorem tH.drew {w w':World}(h:tH w w')(n:Nat):tH w (w'.drewN n):=⟨fun p=>h.1 p,h.2.trans ⟨rfl,rfl,rfl,Nat.le_refl _,fun _ _=>rfl⟩⟩
theorem Js (b off c:Nat)(zs:List Int)(m:Int)(w:World)(hl:zs.length<=1000)(h1:1<=m)(h2:m<=(zs.length:Int))
 (hc:∀j,j<zs.length->w.cell? ⟨b,off+j,none⟩=some (.int .i64 (zs.getD j 0))) :
 Calls prog 131 #[.slice (some ⟨b,off,none⟩) zs.length c,.int .i64 m] w fun e w'=>e=.returned (.tuple #[.int .i64 (ni zs m),.bool true])/\Below w.heap.size w w':=by
 have HC:=hid hc;clear hc;have HG:=hid (lp zs m h1 h2);have hm:prog.follows .mixedOrders=true:=by kernel_rfl
 go_enter func131,ntmps131
 go_wp2;go_loopw [6] (fun i wr=>∃k:Nat,i=.int .i64 (k:Int)/\k<=zs.length/\Hid (∀j,j<k->¬bu zs m (zs.getD j 0))/\Hid (tH w wr))
  (fun i _=>zs.length-(intOf i).toNat)
 case atStart=>exact ⟨0,rfl,by omega,hid (fun j hj=>absurd hj (by omega)),hid (tH.refl w)⟩
 case round =>
  obtain⟨k,rfl,hk,HN,HS⟩:=hrel;by_cases aC:k<zs.length
  ·have bE:(k:Int)<(zs.length:Int):=by omega
   obtain⟨y,hy⟩:∃y,zs.getD k 0=y:=⟨_,rfl⟩;have EG:=HC.out k aC;rw[hy] at EG;have HY:=hid hy;clear hy;have HK:=hid EG;clear EG;go_wp2;go_loopw [7,8,9] (fun a s j wr2=>∃q:Nat,j=.int .i64 (q:Int)/\q<=zs.length/\a=.int .i64 ((more (zs.take q) y:Nat):Int)/\s=.int .i64 ((same (zs.take q) y:Nat):Int)/\Hid (tH w wr2))
    (fun _ _ j _=>zs.length-(intOf j).toNat)
   case atStart=>exact ⟨0,rfl,by omega,rfl,rfl,HS⟩
   case round =>
    obtain⟨q,rfl,hq,rfl,rfl,Ec⟩:=hrel;have g2:wr.cell? ⟨b,off+k,none⟩=some (.int .i64 y):=(Ec.out.1 _).trans HK.out;by_cases hq':q<zs.length
    ·have aeU:(q:Int)<(zs.length:Int):=by omega
     have g1:wr.cell? ⟨b,off+q,none⟩=some (.int .i64 (zs.getD q 0)):=(Ec.out.1 _).trans (HC.out q hq');have mt:=I5 zs y q hq';have st:=I6 zs y q hq';have mh:=Hr zs y q;have sh:=Hs zs y q;generalize zs.getD q 0=z at g1 mt st;generalize more (zs.take q) y=mo at *;generalize same (zs.take q) y=sa at *;have hw:(y<z/\(z==y)=false/\more (zs.take (q+1)) y=mo+1/\same (zs.take (q+1)) y=sa)∨(z<=y/\(z==y)=true/\more (zs.take (q+1)) y=mo/\same (zs.take (q+1)) y=sa+1)∨(z<=y/\(z==y)=false/\more (zs.take (q+1)) y=mo/\same (zs.take (q+1)) y=sa):=by
      rcases Int.lt_trichotomy y z with c | c | c
      ·rw [if_pos c] at mt;rw[if_neg (by omega)] at st
       exact .inl ⟨c,beq_eq_false_iff_ne.2 (by omega),mt,st⟩
      ·rw [if_neg (by omega)] at mt;rw[if_pos c.symm] at st
       exact .inr (.inl ⟨by omega,beq_iff_eq.2 c.symm,mt,st⟩)
      ·rw [if_neg (by omega)] at mt;rw[if_neg (by omega)] at st
       exact .inr (.inr ⟨by omega,beq_eq_false_iff_ne.2 (by omega),mt,st⟩)
     clear mt st;rcases hw with ⟨c1,c2,m1,m2⟩ | ⟨c1,c2,m1,m2⟩ | ⟨c1,c2,m1,m2⟩
     all_goals
      have M1:=hid m1;clear m1;have M2:=hid m2;clear m2;go_wp2;go_quiet (fail)
      go_wp2;go_quiet (fail)
      go_wp2;go_roundw
      case rel=>exact ⟨q+1,by simp,by omega,by rw[M1.out] <;>simp,by rw[M2.out] <;>simp,hid (Ec.out.drew _)⟩
      case measure=>simp only[intOf];omega
    ·have hqe:q=zs.length:=by omega
     subst hqe;have mh:=Hr zs y zs.length;have sh:=Hs zs y zs.length;have hle:=Mo zs y;rw[List.take_length] at mh sh;simp only[List.take_length];by_cases EH:(more zs y:Int)<m
     ·by_cases hg2:m<=(more zs y:Int)+(same zs y:Int)
      ·have hyn:y=ni zs m:=Br (zs:=zs) (m:=m) ⟨EH,by rw[hle];omega⟩ HG.out.1
       have HYN:=hid hyn;clear hyn;clear hle;generalize more zs y=mo at *;generalize same zs y=sa at *;go_wp2;go_ret2
       exact⟨by rw[<-HYN.out];rfl,Ec.out.2⟩
      ·have VI:¬bu zs m y:=fun h=>by have:=h.2;rw[hle] at this;omega
       have HNG:=hid VI;clear VI;clear hle;generalize more zs y=mo at *;generalize same zs y=sa at *;go_wp2;go_roundw
       case rel=>exact ⟨k+1,by simp,by omega,hid (fun j hj=>by
        rcases Nat.lt_or_ge j k with cj | cj
        ·exact HN.out j cj
        ·have:j=k:=by omega
         rw[this,HY.out];exact HNG.out),Ec⟩
       case measure=>simp only[intOf];omega
     ·have VI:¬bu zs m y:=fun h=>EH h.1
      have HNG:=hid VI;clear VI;clear hle;generalize more zs y=mo at *;generalize same zs y=sa at *;go_wp2;go_roundw
      case rel=>exact ⟨k+1,by simp,by omega,hid (fun j hj=>by
       rcases Nat.lt_or_ge j k with cj | cj
       ·exact HN.out j cj
       ·have:j=k:=by omega
        rw[this,HY.out];exact HNG.out),Ec⟩
      case measure=>simp only[intOf];omega
  ·exfalso
   obtain⟨hg,vk⟩:=HG.out;obtain⟨j,hj,Qd⟩:=List.mem_iff_getElem.1 vk;have:=HN.out j (by omega)
   rw[show zs.getD j 0=ni zs m by simp[hj,Qd]] at this
   exact this hg
end Zj
end Go.Proofs.YtbgdlokegibkmaaGreat
