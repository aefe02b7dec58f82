/-
  A part of the proof of VisitPlays.
-/
import Derived.Test.YtbgdlokegibkmaaGreatMpAb
set_option maxRecDepth 100000
set_option maxHeartbeats 4000000
namespace Go.Proofs.YtbgdlokegibkmaaGreat
open Go.RowKit
open Tryz
open Lib (hid)
namespace Zt
open Zu
variable {ov:Nat}
open Zq (ae aj ai)
open Zv (spot eL cP)
open Zp (iE aL Own At bS eu af aD aA ag)
theorem il {B v:Nat}{aw:Int}{l:List It}{w:World}(h:Qu B w v ov aw l)(hl:l.length<=1000)(id:Int) :
 Calls prog 92 #[.pointer (some ⟨v,ov,none⟩),.int .i64 id] w fun e w'=>e=.returned (.int .i64 (au l id))/\Below w.heap.size w w':=by
 obtain⟨p,c,c1,hr,-⟩:=h.cell;have oq:=hid (show au l id=spot (fun x=>x.id==id) l from rfl)
 generalize au l id=R at oq ⊢;have HR:=hid hr;have HB:=hid (Below.refl w.heap.size w);clear hr h;go_enter func92,ntmps92
 go_wp2;go_loop [5] (fun i=>∃j:Nat,j<=l.length/\i=.int .i64 (j:Int)/\Hid (∀i,i<j->(l.getD i z).id≠id)) (fun i=>l.length-(intOf i).toNat)
 case atStart=>exact ⟨0,by omega,rfl,fun i hi=>by omega⟩
 case round =>
  obtain⟨j,hj,rfl,hne⟩:=hrel;by_cases aC:j<l.length
  ·obtain ⟨b,o,rfl,hat⟩:=bj HR.out aC
   obtain⟨k0,-⟩:=xu hat;have bE:(j:Int)<(l.length:Int):=by omega
   by_cases hk:(l.getD j z).id=id
   ·have HE:=hid (show R=(j:Int) by rw[oq.out];exact eL _ z l j aC (fun i hi=>by simpa using hne.out i hi) (by simpa using hk))
    rw[hk] at k0;clear hne oq HR hk hat;go_wp2;go_ret;exact⟨by rw[HE.out];rfl,HB.out⟩
   ·have HN:Hid (∀i,i<j+1->(l.getD i z).id≠id):=fun i hi=>by
     by_cases e:i=j
     ·rw [e];exact hk
     ·exact hne.out i (by omega)
    generalize(l.getD j z).id=q at k0 hk;clear hne oq HR hat;go_wp2;go_round
    case rel=>exact ⟨j+1,by omega,by go_num,HN⟩
    case measure=>simp only[intOf];omega
  ·have bE:¬(j:Int)<(l.length:Int):=by omega
   have HE:=hid (show R= -1 by rw[oq.out];exact cP _ z l (fun i hi=>by simpa using hne.out i (by omega)))
   clear hne oq HR;go_wp2;go_ret;exact⟨by rw[HE.out];rfl,HB.out⟩
theorem jZ {f:It->Bool}{l:List It}{j:Nat}(h:j<l.length)(e:f (l.getD j z)=true):(l.take (j+1)).filter f=(l.take j).filter f++[l.getD j z]:=by
 rw[aA z h,List.filter_append];simp only[List.filter_cons,e,if_true,List.filter_nil]
theorem ly {f:It->Bool}{l:List It}{j:Nat}(h:j<l.length)(e:f (l.getD j z)=false):(l.take (j+1)).filter f=(l.take j).filter f:=by
 rw[aA z h,List.filter_append];simp only[List.filter_cons,e,Bool.false_eq_true,if_false,List.filter_nil,List.append_nil]
def ahead (l:List It)(k:Int):Nat->List It
 | 0=>[]
 | 1=>xq l k 0
 | 2=>xq l k 0++xq l k 1
 | _=>of l k
theorem EA (l:List It)(k:Int){c:Nat}(h:c<3):ahead l k (c+1)=ahead l k c++xq l k (c:Int):=by
 match c,h with
 | 0,_=>simp [ahead]
 | 1,_=>simp [ahead]
 | 2,_=>simp [ahead,of]
theorem Je (l:List It)(k:Int)(c:Nat):(ahead l k c).length<=3*l.length:=by
 have h0:=zI l k 0;have h1:=zI l k 1;have h2:=zI l k 2;unfold ahead;split <;>simp [of] <;>omega
theorem zL {B v:Nat}{aw:Int}{l:List It}{w:World}(h:Qu B w v ov aw l)(hl:l.length<=1000)(key:Int) :
 Calls prog 47 #[.pointer (some ⟨v,ov,none⟩),.int .i64 key] w fun e w'=>∃p c,e=.returned (.slice p (of l key).length c)/\Own aN 113 w.heap.size w' (.slice p (of l key).length c) (of l key)/\Below w.heap.size w w':=by
 have HV:=hid h;have HD:=hid (show ahead l key 3=of l key from rfl)
 have HS:=hid (fun(c:Nat) (h:c<3)=>EA l key h)
 have HL:=hid (Je l key);have H0:=hid (show ahead l key 0=[] from rfl)
 generalize of l key=R at HD ⊢;generalize ahead l key=AH at *;clear h;go_enter func47,ntmps47
 go_wp2;go_loopw [5,6] (fun y k wr=>∃(c:Nat) (p:Option Addr) (d n:Nat),c<=3/\k=.int .i64 (c:Int)/\y=.slice p n d/\Hid (Own aN 113 w.heap.size wr y (AH c))/\Hid ((AH c).length=n)/\Below w.heap.size w wr) (fun _ k _=>3-(intOf k).toNat)
 case atStart=>exact ⟨0,none,0,0,by omega,rfl,rfl,by rw[H0.out];exact hid (Own.none _ _ _ _),by rw[H0.out];exact hid rfl,Below.refl _ _⟩
 case round =>
  obtain⟨c,p,d,n,hc,rfl,rfl,ax,hn,aW⟩:=hrel;by_cases aC:c<3
  ·have bE:(c:Int)<3:=by omega
   have HC:=hid (HS.out c aC);have HN:=hid (HL.out c);generalize AH c=A0 at *;have cA:=hid aW;clear aW;go_wp2;go_loopw [5,7] (fun y k wu=>∃(j:Nat) (p:Option Addr) (d n:Nat),j<=l.length/\k=.int .i64 (j:Int)/\y=.slice p n d/\Hid (Own aN 113 w.heap.size wu y (A0++(l.take j).filter (ng key (c:Int))))/\Hid ((A0++(l.take j).filter (ng key (c:Int))).length=n)/\Hid (Below w.heap.size w wu)) (fun _ k _=>l.length-(intOf k).toNat)
   case atStart=>exact ⟨0,p,d,n,by omega,rfl,rfl,by simpa using ax,by simpa using hn,cA⟩
   case round =>
    obtain⟨j,p1,d1,n1,hj,rfl,rfl,o8,qE,Mt⟩:=hrel;obtain⟨q,cq,c1,hr,-⟩:=(HV.out.below Mt.out).cell;have HR:=hid hr;clear hr ax hn cA;by_cases hlj:j<l.length
    ·have aaq:(j:Int)<(l.length:Int):=by omega
     obtain⟨b,o,rfl,hat⟩:=bj HR.out hlj;obtain⟨k0,k1,k2,k3,k4⟩:=xu hat;have jJ:n1<=5000:=by
      have:=qE.out;have h5:((l.take j).filter (ng key (c:Int))).length<=l.length:=Nat.le_trans (List.length_filter_le _ _) (by simp;omega)
      rw[List.length_append] at this;have:=HN.out;omega
     have HY:=hid (jZ (f:=ng key (c:Int)) hlj);have HO:=hid (ly (f:=ng key (c:Int)) hlj);have HA:=hid hat;generalize l.getD j z=x at *;generalize hF:(l.take j).filter (ng key (c:Int))=F at *;clear hF hat;have hdec:ng key (c:Int) x=(x.key==key&&x.bU==(c:Int)):=rfl;obtain⟨xi,xk,xc,xs,xt⟩:=x;simp only at k0 k1 k2 k3 k4 hdec;by_cases hk:xk=key
     ·by_cases hs:xs=(c:Int)
      ·have HE:=hid (HY.out (by rw[hdec];simp[hk,hs]))
       subst hk hs;clear hdec HY HO HR;go_wp2_with (at_builtin;refine Zp.push vv rfl _ _ rfl w wr (.slice p1 n1 d1) rfl (A0++F) n1 qE.out o8.out Mt.out ((Below.refl _ _).alloc (Nat.le_refl _) _) wr.heap.size ⟨xi,xk,xc,c,xt⟩ rfl (heap_alloc_new _ _) (by omega) ?_;intro p4 c4 w4 R4 B4)
       go_roundw
       case rel=>exact ⟨j+1,p4,c4,n1+1,by omega,by go_num,rfl,by rw[HE.out,<-List.append_assoc];exact R4,hid (by rw[HE.out,<-List.append_assoc,List.length_append,qE.out];rfl),hid B4⟩
       case measure=>simp only[intOf];omega
      ·have HE:=hid (HO.out (by rw[hdec];simp[hs]))
       subst hk;clear hdec HY HO HR;go_wp2;go_roundw
       case rel=>exact ⟨j+1,p1,d1,n1,by omega,by go_num,rfl,by rw[HE.out];exact o8,by rw[HE.out];exact qE,Mt⟩
       case measure=>simp only[intOf];omega
     ·have HE:=hid (HO.out (by rw[hdec];simp[hk]))
      clear hdec HY HO HR;go_wp2;go_roundw
      case rel=>exact ⟨j+1,p1,d1,n1,by omega,by go_num,rfl,by rw[HE.out];exact o8,by rw[HE.out];exact qE,Mt⟩
      case measure=>simp only[intOf];omega
    ·have aaq:¬(j:Int)<(l.length:Int):=by omega
     rw[List.take_of_length_le (by omega)] at o8 qE
     rw[show A0++l.filter (ng key (c:Int))=A0++xq l key (c:Int) from rfl,<-HC.out] at o8 qE
     clear HR;go_wp2;go_roundw
     case rel=>exact ⟨c+1,p1,d1,n1,by omega,by go_num,rfl,o8,qE,Mt.out⟩
     case measure=>simp only[intOf];omega
  ·have bE:¬(c:Int)<3:=by omega
   obtain rfl:c=3:=by omega
   rw[HD.out] at ax hn;have hw:=ax.out;have Pt:=hn.out;subst Pt;obtain⟨q',d',hq,eM⟩:=hw.gi;simp only[Value.slice.injEq] at hq;obtain⟨rfl,-,rfl⟩:=hq;have HQ:=hid hw;have cA:=hid aW;clear eM hw ax hn aW;go_wp2;refine bodyPost_ret (v:=.slice p R.length d) (by simp[results,results47,go_sem]) rfl ⟨p,d,rfl,HQ.out,cA.out⟩
theorem oy {B v:Nat}{aw:Int}{l:List It}{w:World}(h:Qu B w v ov aw l)(hl:l.length<=1000)(key:Int) :
 Calls prog 47 #[.pointer (some ⟨v,ov,none⟩),.int .i64 key] w fun e w'=>∃p c,e=.returned (.slice p (of l key).length c)/\aL aN w' p (of l key)/\Below w.heap.size w w':=by
 refine(zL h hl key).mono ?_;rintro e w' ⟨p,c,rfl,ho,hb⟩;obtain⟨p',c',e',hl'⟩:=Own.gi ho;simp only[Value.slice.injEq] at e';obtain⟨rfl,-,rfl⟩:=e';exact⟨p,c,rfl,hl',hb⟩
end Zt
namespace Zv
open Zx (Rw Tb aq ak af)
open Zq (aI cO ae aj ai)
open Zr (dh add sub mul vu)
theorem gT {w:World}{p:Option Addr}{l:List Rw}(h:ar w p l){j:Nat}(hj:j<l.length):∃b o,p=some ⟨b,o,none⟩/\dK w b (o+j*4) (l.getD j aq):=by
 rcases h with h | ⟨b,o,e,hc⟩
 ·rw [h] at hj;simp at hj
 ·exact ⟨b,o,e,hc j hj⟩
theorem cC {w:World}{p:Option Addr}{l:List (Int×Int)}(h:ak w p l){j:Nat}(hj:j<l.length):∃b o,p=some ⟨b,o,none⟩/\w.cell? ⟨b,o+j*2,none⟩=some (.int .i64 (l.getD j (0,0)).1)/\w.cell? ⟨b,o+j*2+1,none⟩=some (.int .i64 (l.getD j (0,0)).2):=by
 rcases h with h | ⟨b,o,e,hc⟩
 ·rw [h] at hj;simp at hj
 ·exact ⟨b,o,e,hc j hj⟩
theorem Mu (t:Tb)(p:Option Addr)(c:Nat)(key:Int)(w:World)(h:ar w p t.rows)(hl:t.rows.length<=1000) :
 Calls prog 119 #[bN t p c,.int .i64 key] w fun e w'=>e=.returned (.int .i64 (au t.rows key))/\Below w.heap.size w w':=by
 obtain⟨start,rows⟩:=t;have hb:=(Below.refl w.heap.size w).alloc (Nat.le_refl _) (.cells #[.int .i64 start,.slice p rows.length (c+rows.length)] 28);have hr:=h.below hb;have hc:=dY (t:=⟨start,rows⟩) (heap_alloc_new w (.cells #[.int .i64 start,.slice p rows.length (c+rows.length)] 28));simp only[bN] at *;have oq:=hid (show au rows key=spot (fun r=>r.key==key) rows from rfl)
 generalize au rows key=R at oq ⊢;go_enter func119,ntmps119
 go_wp2;generalize w.alloc (.cells #[.int .i64 start,.slice p rows.length (c+rows.length)] 28)=w1 at *;obtain⟨-,c1,-⟩:=hc;have HR:=hid hr;have HB:=hid hb;clear hr hb h;go_loop [5] (fun i=>∃j:Nat,j<=rows.length/\i=.int .i64 (j:Int)/\Hid (∀i,i<j->(rows.getD i aq).key≠key)) (fun i=>rows.length-(intOf i).toNat)
 case atStart=>exact ⟨0,by omega,rfl,fun i hi=>by omega⟩
 case round =>
  obtain⟨j,hj,rfl,hne⟩:=hrel;by_cases aC:j<rows.length
  ·obtain ⟨b,o,rfl,k0,-⟩:=gT HR.out aC
   have bE:(j:Int)<(rows.length:Int):=by omega
   by_cases hk:(rows.getD j aq).key=key
   ·have HE:=hid (show R=(j:Int) by rw[oq.out];exact eL _ aq rows j aC (fun i hi=>by simpa using hne.out i hi) (by simpa using hk))
    rw[hk] at k0;clear hne oq HR hk;go_wp2;go_ret;exact⟨by rw[HE.out];rfl,HB.out⟩
   ·have HN:Hid (∀i,i<j+1->(rows.getD i aq).key≠key):=fun i hi=>by
     by_cases e:i<j
     ·exact hne.out i e
     ·rw [show i=j by omega];exact hk
    generalize(rows.getD j aq).key=y at k0 hk;clear hne oq HR;go_wp2;go_round
    case rel=>exact ⟨j+1,by omega,by go_num,HN⟩
    case measure=>simp only[intOf];omega
  ·obtain rfl:j=rows.length:=by omega
   have HE:=hid (show R= -1 by rw[oq.out];exact cP _ aq rows (fun i hi=>by simpa using hne.out i hi))
   clear hne oq HR;go_wp2;go_ret;exact⟨by rw[HE.out];rfl,HB.out⟩
theorem qK (r:Rw)(p:Option Addr)(c:Nat)(node:Int)(w:World)(h:ak w p r.out)(hl:r.out.length<=1000) :
 Calls prog 124 #[dE r p c,.int .i64 node] w fun e w'=>e=.returned (.int .i64 (cF r.out node))/\Below w.heap.size w w':=by
 obtain⟨key,ay,mark,rows⟩:=r;have hb:=(Below.refl w.heap.size w).alloc (Nat.le_refl _) (.cells #[.int .i64 key,.int .i64 ay,.int .i64 mark,.slice p rows.length (c+rows.length)] 80);have hr:=h.below hb;have hc:=aV (heap_alloc_new w (.cells #[.int .i64 key,.int .i64 ay,.int .i64 mark,.slice p rows.length (c+rows.length)] 80));simp only[dE] at *;have oq:=hid (show cF rows node=spot (fun x=>x.1==node) rows from rfl)
 generalize cF rows node=R at oq ⊢;go_enter func124,ntmps124
 go_wp2;generalize w.alloc (.cells #[.int .i64 key,.int .i64 ay,.int .i64 mark,.slice p rows.length (c+rows.length)] 80)=w1 at *;obtain⟨-,-,-,c1,-⟩:=hc;have HR:=hid hr;have HB:=hid hb;clear hr hb h;go_loop [5] (fun i=>∃j:Nat,j<=rows.length/\i=.int .i64 (j:Int)/\Hid (∀i,i<j->(rows.getD i (0,0)).1≠node)) (fun i=>rows.length-(intOf i).toNat)
 case atStart=>exact ⟨0,by omega,rfl,fun i hi=>by omega⟩
 case round =>
  obtain⟨j,hj,rfl,hne⟩:=hrel;by_cases aC:j<rows.length
  ·obtain ⟨b,o,rfl,k0,-⟩:=cC HR.out aC
   have bE:(j:Int)<(rows.length:Int):=by omega
   by_cases hk:(rows.getD j (0,0)).1=node
   ·have HE:=hid (show R=(j:Int) by rw[oq.out];exact eL _ (0,0) rows j aC (fun i hi=>by simpa using hne.out i hi) (by simpa using hk))
    rw[hk] at k0;clear hne oq HR hk;go_wp2;go_ret;exact⟨by rw[HE.out];rfl,HB.out⟩
   ·have HN:Hid (∀i,i<j+1->(rows.getD i (0,0)).1≠node):=fun i hi=>by
     by_cases e:i<j
     ·exact hne.out i e
     ·rw [show i=j by omega];exact hk
    generalize(rows.getD j (0,0)).1=y at k0 hk;clear hne oq HR;go_wp2;go_round
    case rel=>exact ⟨j+1,by omega,by go_num,HN⟩
    case measure=>simp only[intOf];omega
  ·obtain rfl:j=rows.length:=by omega
   have HE:=hid (show R= -1 by rw[oq.out];exact cP _ (0,0) rows (fun i hi=>by simpa using hne.out i hi))
   clear hne oq HR;go_wp2;go_ret;exact⟨by rw[HE.out];rfl,HB.out⟩
theorem np (t:Tb)(p:Option Addr)(c:Nat)(key:Int)(W w:World)(h0:ar W p t.rows)(hW:Below W.heap.size W w)(hl:t.rows.length<=1000) :
 Calls prog 67 #[bN t p c,.int .i64 key] w (Bx W w (ah t key) (fun v=>.tuple #[v,.bool (et t key)])):=by
 obtain⟨start,rows⟩:=t;have h:=h0.below hW;have H0:=hid h0;have Yl:=hid hW;clear h0 hW;have hb0:=(Below.refl w.heap.size w).alloc (Nat.le_refl _) (.cells #[.int .i64 start,.slice p rows.length (c+rows.length)] 28);have hat:=Mu ⟨start,rows⟩ p c key ((w.alloc (.cells #[.int .i64 start,.slice p rows.length (c+rows.length)] 28)).alloc (.cells #[.int .i64 0,.int .i64 0,.int .i64 0,.slice none 0 0] 80)) (h.below (hb0.alloc hb0.size _)) hl;have hb:Below w.heap.size w ((w.alloc (.cells #[.int .i64 start,.slice p rows.length (c+rows.length)] 28)).alloc (.cells #[.int .i64 0,.int .i64 0,.int .i64 0,.slice none 0 0] 80)):=hb0.alloc hb0.size _;have k0:((w.alloc (.cells #[.int .i64 start,.slice p rows.length (c+rows.length)] 28)).alloc (.cells #[.int .i64 0,.int .i64 0,.int .i64 0,.slice none 0 0] 80)).heap[w.heap.size]? =some (.cells #[.int .i64 start,.slice p rows.length (c+rows.length)] 28 (0,0)):=(Below.heap_alloc _ _ _ (by simp)).trans (heap_alloc_new _ _)
 have k1:((w.alloc (.cells #[.int .i64 start,.slice p rows.length (c+rows.length)] 28)).alloc (.cells #[.int .i64 0,.int .i64 0,.int .i64 0,.slice none 0 0] 80)).heap[w.heap.size+1]? =some (.cells #[.int .i64 0,.int .i64 0,.int .i64 0,.slice none 0 0] 80 (0,0)):=by
  have:=heap_alloc_new (w.alloc (.cells #[.int .i64 start,.slice p rows.length (c+rows.length)] 28)) (.cells #[.int .i64 0,.int .i64 0,.int .i64 0,.slice none 0 0] 80);rwa [show (w.alloc (.cells #[.int .i64 start,.slice p rows.length (c+rows.length)] 28)).heap.size=w.heap.size+1 by simp] at this
 simp only[bN] at *;have HF:=hid (show ah ⟨start,rows⟩ key=if au rows key<0 then ⟨key,0,start,[]⟩ else rows.getD (au rows key).toNat aq from rfl)
 have HI:=hid (show et ⟨start,rows⟩ key=decide (0<=au rows key) from rfl)
 have hsp:=bA (fun r=>r.key==key) aq rows
 have hpe:au rows key=spot (fun r=>r.key==key) rows:=rfl
 rw[<-hpe] at hsp;generalize au rows key=P at *;generalize ah ⟨start,rows⟩ key=F at HF ⊢;generalize et ⟨start,rows⟩ key=I at HI ⊢;have HB:=hid hb;have K0:=hid k0;have K1:=hid k1;have HH:=hid h;have arm:∀u,Below ((w.alloc (.cells #[.int .i64 start,.slice p rows.length (c+rows.length)] 28)).alloc (.cells #[.int .i64 0,.int .i64 0,.int .i64 0,.slice none 0 0] 80)).heap.size ((w.alloc (.cells #[.int .i64 start,.slice p rows.length (c+rows.length)] 28)).alloc (.cells #[.int .i64 0,.int .i64 0,.int .i64 0,.slice none 0 0] 80)) u ->
  Below w.heap.size w u/\u.heap[w.heap.size]? =some (.cells #[.int .i64 start,.slice p rows.length (c+rows.length)] 28 (0,0))/\u.heap[w.heap.size+1]? =some (.cells #[.int .i64 0,.int .i64 0,.int .i64 0,.slice none 0 0] 80 (0,0))/\ar u p rows:=fun u hu =>
  ⟨HB.out.trans (hu.mono HB.out.size),(hu.block _ (ae K0.out)).trans K0.out,(hu.block _ (ae K1.out)).trans K1.out,(HH.out.below HB.out).below hu⟩
 clear hb0 hb k0 k1 h hpe HB K0 K1;rcases hsp with ⟨rfl,-⟩ | ⟨j,rfl,hj,-,-⟩
 ·have HR:=hid (show F=⟨key,0,start,[]⟩ by rw[HF.out];rfl)
  have HRI:=hid (show I=false by rw[HI.out];rfl)
  clear HF HI;go_enter func67,ntmps67
  go_wp2_with (go_at_call 119;(with_reducible refine hat.mono ?_);rintro e u ⟨rfl,lO⟩;obtain⟨b1,q0,q1,q2⟩:=arm _ lO;obtain⟨c0,c1,-⟩:=dY (t:=⟨start,rows⟩) q0;obtain⟨d0,d1,d2,d3,ff⟩:=aV q1;have f0:=ff 0;have f1:=ff 1;have f2:=ff 2;have f3:=ff 3;have B1:=hid b1;clear hat arm lO b1 q0 q1 q2 ff)
  refine bodyPost_ret (v:=.tuple #[.agg #[.int .i64 key,.int .i64 0,.int .i64 start,.slice none 0 0],.bool false]) (by simp[results,results67,go_sem,d0,d1,d2,d3]) rfl ?_
  rw[HR.out,HRI.out];exact⟨none,0,rfl,.inl rfl,((((B1.out.setCell (by simp) _).setCell (by simp) _).setCell (by simp) _).setCell (by simp) _)⟩
 ·have HR:=hid (show F=rows.getD j aq by rw[HF.out,if_neg (by omega)];simp)
  have HRI:=hid (show I=true by rw[HI.out];simp)
  have mG:(j:Int)<(rows.length:Int):=by omega
  obtain⟨b,o,rfl,r0',r1',r2',pl,cl,UW,xv⟩:=gT H0.out hj;have r0:=af r0' Yl.out;have r1:=af r1' Yl.out;have r2:=af r2' Yl.out;have r3:=af UW Yl.out;have HL:=hid xv;have R0:=hid (And.intro r0 (And.intro r1 (And.intro r2 r3)));clear r0 r1 r2 r3 r0' r1' r2' UW xv HH;generalize rows.getD j aq=z at *;clear HF HI;go_enter func67,ntmps67
  go_wp2_with (go_at_call 119;(with_reducible refine hat.mono ?_);rintro e u ⟨rfl,lO⟩;obtain⟨b1,q0,q1,q2⟩:=arm _ lO;obtain⟨c0,c1,-⟩:=dY (t:=⟨start,rows⟩) q0;obtain⟨d0,d1,d2,d3,ff⟩:=aV q1;have f0:=ff 0;have f1:=ff 1;have f2:=ff 2;have f3:=ff 3;have B1:=hid b1;have r0:=af R0.out.1 b1;have r1:=af R0.out.2.1 b1;have r2:=af R0.out.2.2.1 b1;have r3:=af R0.out.2.2.2 b1;clear hat arm lO b1 q0 q1 q2 ff R0)
  have BF:=hid (((((B1.out.setCell (p:=⟨w.heap.size+1,0,none⟩) (by simp) (.int .i64 z.key)).setCell (p:=⟨w.heap.size+1,1,none⟩) (by simp) (.int .i64 z.ay)).setCell (p:=⟨w.heap.size+1,2,none⟩) (by simp) (.int .i64 z.mark)).setCell (p:=⟨w.heap.size+1,3,none⟩) (by simp) (.slice pl z.out.length (cl+z.out.length))))
  refine bodyPost_ret (v:=.tuple #[.agg #[.int .i64 z.key,.int .i64 z.ay,.int .i64 z.mark,.slice pl z.out.length (cl+z.out.length)],.bool true]) (by simp[results,results67,go_sem,d0,d1,d2,d3]) rfl ?_
  rw[HR.out,HRI.out];exact⟨pl,cl,rfl,HL.out,BF.out⟩
def je (r:Rw)(j:Nat):List Int:=r.ay :: (r.out.take j).map (·.2)
theorem vB (r:Rw)(j:Nat)(h:j<r.out.length):je r (j+1)=je r j++[(r.out.getD j (0,0)).2]:=by
 have e:r.out.getD j (0,0)=r.out[j]:=by simp[List.getD,h]
 rw[e,je,List.take_succ_eq_append_getElem h];simp only[List.map_append,List.map_cons,List.map_nil,List.cons_append,je]
theorem yc (r:Rw):mF r=add (je r r.out.length):=by simp[je,mF]
theorem Jf (r:Rw)(j:Nat)(h:j<=r.out.length):(je r j).length=j+1:=by simp[je];omega
theorem ye (r:Rw)(p:Option Addr)(c:Nat)(w:World)(h:ak w p r.out)(hl:r.out.length<=1000) :
 Calls prog 30 #[dE r p c] w fun e w'=>e=.returned (.int .i64 (mF r))/\Below w.heap.size w w':=by
 obtain⟨i0,hi,hz0,hz1,hz2⟩:=info_parts vz;have HT:=hid (yc r);have HS:=fun j=>hid (vB r j)
 have HL:=fun j=>hid (Jf r j)
 have qB:je r 0=[r.ay]:=by simp[je]
 generalize mF r=T at HT ⊢;generalize je r=F at *;obtain⟨key,ay,mark,out⟩:=r;simp only at *;have hb:=(Below.refl w.heap.size w).alloc (Nat.le_refl _) (.cells #[.int .i64 key,.int .i64 ay,.int .i64 mark,.slice p out.length (c+out.length)] 80);have hr:=h.below hb;have gH:=heap_alloc_new w (.cells #[.int .i64 key,.int .i64 ay,.int .i64 mark,.slice p out.length (c+out.length)] 80);have hO:fj (w.alloc (.cells #[.int .i64 key,.int .i64 ay,.int .i64 mark,.slice p out.length (c+out.length)] 80)).heap.size ((w.alloc (.cells #[.int .i64 key,.int .i64 ay,.int .i64 mark,.slice p out.length (c+out.length)] 80)).alloc (.cells #[.int .i64 ay] 3)) (.slice (some ⟨w.heap.size+1,0,none⟩) 1 1) (F 0):=by
  rw[qB];refine⟨rfl,.inr ⟨w.heap.size+1,1,#[.int .i64 ay],rfl,by simp,?_,Nat.le_refl _,(by unfold maxLen;omega),rfl,rfl⟩⟩
  have:=heap_alloc_new (w.alloc (.cells #[.int .i64 key,.int .i64 ay,.int .i64 mark,.slice p out.length (c+out.length)] 80)) (.cells #[.int .i64 ay] 3);rwa [show (w.alloc (.cells #[.int .i64 key,.int .i64 ay,.int .i64 mark,.slice p out.length (c+out.length)] 80)).heap.size=w.heap.size+1 by simp] at this
 have hb1:=(Below.refl (w.alloc (.cells #[.int .i64 key,.int .i64 ay,.int .i64 mark,.slice p out.length (c+out.length)] 80)).heap.size (w.alloc (.cells #[.int .i64 key,.int .i64 ay,.int .i64 mark,.slice p out.length (c+out.length)] 80))).alloc (Nat.le_refl _) (.cells #[.int .i64 ay] 3);simp only[dE] at *;have HH:=hid hr;have HB:=hid hb;have HX:=hid gH;have HO:=hid hO;have aO:=hid hb1;clear h hb hr gH hO hb1 qB;go_enter func30,ntmps30
 go_wp2;have hsz:(w.alloc (.cells #[.int .i64 key,.int .i64 ay,.int .i64 mark,.slice p out.length (c+out.length)] 80)).heap.size=w.heap.size+1:=by simp
 generalize w.alloc (.cells #[.int .i64 key,.int .i64 ay,.int .i64 mark,.slice p out.length (c+out.length)] 80)=w1 at *;have HZ:=hid hsz;clear hsz;go_loopw [3,4] (fun v i wr=>∃j:Nat,j<=out.length/\i=.int .i64 (j:Int)/\Hid (fj w1.heap.size wr v (F j))/\Below w1.heap.size w1 wr) (fun _ i _=>out.length-(intOf i).toNat)
 case atStart=>exact ⟨0,by omega,rfl,HO,aO.out⟩
 case round =>
  obtain⟨j,hj,rfl,ax,aW⟩:=hrel;obtain⟨-,-,-,c3,-⟩:=aV ((aW.block _ (ae HX.out)).trans HX.out);by_cases aC:j<out.length
  ·obtain ⟨b,o,rfl,-,k1⟩:=cC (HH.out.below aW) aC
   have bE:(j:Int)<(out.length:Int):=by omega
   have aT:=(HL j).out (by omega)
   have HSJ:=hid ((HS j).out aC);have HW:=hid ax.out;unfold fj at HW;have UX:w1.heap.size<=wr.heap.size:=aW.size;generalize(out.getD j (0,0)).2=x at *;clear ax;go_wp2_with (at_builtin;refine wpList_append_own _ rfl (.tmp 15) (.tmp 22) 25 rfl w1.heap.size 3 i0 (.int .i64 0) 1 8 underlying25 hi hz0 hz1 hz2 rfl (by decide) _ _ _ rfl (HW.out.alloc _) ⟨wr.heap.size,0,none⟩ 1 1 [.int .i64 x] rfl rfl ?c1 ?c2 ?c3 ?c4 ?c5 ?_)
   case c1=>intro j u hj;match j,hj with | 0,hj=>simp at hj;subst hj;simp[Addr.add]
   case c2=>intro u hu;simp at hu;subst hu;rfl
   case c3=>unfold maxLen;omega
   case c4=>omega
   case c5=>simp;omega
   intro v' w2 ho hg _;have xZ:fj w1.heap.size w2 v' (F (j+1)):=by
    rw[HSJ.out];refine fj.S9 (n:=1) (xs:=[x]) ?_ rfl;rw[aT];exact ho
   have hb2:=(aW.alloc UX _).grown hg (by simp;omega) (fun k hk=>(HW.out.lt k hk).1)
   have R:=hid xZ;clear hg ho xZ HW;go_wp2;go_roundw
   case rel=>exact ⟨j+1,by omega,by go_num,R,hb2⟩
   case measure=>simp [intOf];omega
  ·obtain rfl:j=out.length:=by omega
   obtain⟨pv,cv,rfl,hints⟩:=ax.out.bX;have kW:=vu (F out.length) pv cv wr (by rw[(HL _).out (Nat.le_refl _)];omega) hints
   rw[<-HT.out] at kW;generalize(F out.length).length=n at *;clear ax hints;go_wp2_with (go_at_call 72;(with_reducible refine kW.mono ?_);rintro e w' ⟨rfl,rfl⟩;clear kW)
   go_ret;exact⟨rfl,HB.out.trans (aW.mono HB.out.size)⟩
end Zv
namespace Zl
open Zw
variable {ov:Nat}
open Zq (ae aj ai)
theorem ag (w:World)(n:Nat):Below w.heap.size w (w.drewN n):=⟨rfl,rfl,rfl,Nat.le_refl _,fun _ _=>rfl⟩
theorem yf {B v:Nat}{l:List Lz}{w:World}(h:Wl B w v ov l)(hg:Zw.bu l)(hl:l.length<=1000)(key now:Int) :
 Calls prog 90 #[.pointer (some ⟨v,ov,none⟩),.int .i64 key,.int .i64 now] w fun e w'=>e=.returned (.int .i64 (left l key now))/\Below w.heap.size w w':=by
 have HA:=il h hl key;have HV:=hid h;have HL:=hid (show left l key now=if au l key<0∨(jl l key).cJ<=now then 0 else (jl l key).aK-(jl l key).spent from rfl)
 generalize left l key now=R at *;by_cases hp:au l key<0
 ·have HE:=hid (show R=0 by rw[HL.out,if_pos (.inl hp)])
  generalize au l key=P at *;clear HL h;go_enter func90,ntmps90
  go_wp2_with (go_at_call 91;(with_reducible refine HA.mono ?_);rintro e w1 ⟨rfl,hb⟩;have HB:=hid hb;obtain⟨p,c,c1,-⟩:=(HV.out.below hb).cell;clear hb HA)
  go_ret;exact⟨by rw[HE.out];rfl,HB.out⟩
 ·obtain ⟨hj,hk,hm⟩:=cM (l:=l) (k:=key) (by omega)
  obtain⟨g0,g1,g2⟩:=hg.mO _ hm;have HC:Hid (∀u,Below w.heap.size w u->∃b o c,u.cell? ⟨v,ov,none⟩=some (.slice (some ⟨b,o,none⟩) l.length c)/\At u b (o+(au l key).toNat*5) (jl l key)):=fun u hu=>by
   obtain⟨p,c,c1,hr⟩:=(HV.out.below hu).cell;obtain⟨b,o,rfl,ha⟩:=bj hr hj;exact⟨b,o,c,c1,ha⟩
  obtain⟨P,hP⟩:∃P:Nat,au l key=(P:Int):=⟨(au l key).toNat,by omega⟩
  rw[hP] at HA HL hj;simp only[hP] at HC;simp only[Int.toNat_natCast] at HC hj;have bE:(P:Int)<(l.length:Int):=by omega
  generalize jl l key=x at *;obtain⟨xk,xg,xa,xs,xt⟩:=x;unfold kV bC at g2;simp only at g0 g1 g2 HL;by_cases ht:xt<=now
  ·have HE:=hid (show R=0 by rw[HL.out,if_pos (.inr ht)])
   clear HL h hm hg hk hP hp;go_enter func90,ntmps90
   go_wp2_with (go_at_call 91;(with_reducible refine HA.mono ?_);rintro e w1 ⟨rfl,hb⟩;have HB:=hid hb;obtain⟨b,o,c,c1,k0,k1,k2,k3,k4⟩:=HC.out _ hb;simp only at k0 k1 k2 k3 k4;clear hb HA HC)
   go_ret;exact⟨by rw[HE.out];rfl,HB.out⟩
  ·have HE:=hid (show R=xa-xs by rw[HL.out,if_neg (by omega)])
   have Mc:IntKind.i64.wrap (xa-xs)=xa-xs:=IntWalk.i64_in _ (by omega)
   clear HL h hm hg hk hP hp;go_enter func90,ntmps90
   go_wp2_with (go_at_call 91;(with_reducible refine HA.mono ?_);rintro e w1 ⟨rfl,hb⟩;have HB:=hid hb;obtain⟨b,o,c,c1,k0,k1,k2,k3,k4⟩:=HC.out _ hb;simp only at k0 k1 k2 k3 k4;clear hb HA HC)
   go_quiet (fail)
   go_wp2;go_ret;exact⟨by rw[HE.out];rfl,HB.out.trans ((ag _ _).mono HB.out.size)⟩
theorem pI {B v:Nat}{l:List Lz}{w:World}(h:Wl B w v ov l)(hB:B<=w.heap.size)(hl:l.length<=1000)(key gen:Int) :
 Calls prog 166 #[.pointer (some ⟨v,ov,none⟩),.int .i64 key,.int .i64 gen] w fun e w'=>e=.returned (.int .i64 (bB l key gen).2)/\cS B w v ov (bB l key gen).1 w':=by
 have HA:=il h hl key;have HV:=hid h;have eF:=hid hB;have HL:=hid (show bB l key gen=if au l key<0 then (l,-1) else (l.eraseIdx (au l key).toNat,if (jl l key).gen=gen then (jl l key).spent else -1) from rfl)
 generalize bB l key gen=R at *;by_cases hp:au l key<0
 ·have HE:=hid (show R=(l,-1) by rw[HL.out,if_pos hp])
  have HS:=hid (fun u (hu:Below w.heap.size w u)=>cS.same h hB hu)
  generalize au l key=P at *;clear HL h;go_enter func166,ntmps166
  go_wp2_with (go_at_call 91;(with_reducible refine HA.mono ?_);rintro e w1 ⟨rfl,hb⟩;have HB:=hid (HS.out _ hb);clear hb HA)
  go_ret;exact⟨by rw[HE.out];rfl,by rw[HE.out];exact HB.out⟩
 ·obtain ⟨hj,hk,hm⟩:=cM (l:=l) (k:=key) (by omega)
  have HC:Hid (∀u,Below w.heap.size w u->∃b o c,u.cell? ⟨v,ov,none⟩=some (.slice (some ⟨b,o,none⟩) l.length c)/\At u b (o+(au l key).toNat*5) (jl l key)):=fun u hu=>by
   obtain⟨p,c,c1,hr⟩:=(HV.out.below hu).cell;obtain⟨b,o,rfl,ha⟩:=bj hr hj;exact⟨b,o,c,c1,ha⟩
  obtain⟨P,hP⟩:∃P:Nat,au l key=(P:Int):=⟨(au l key).toNat,by omega⟩
  have hp0:¬(P:Int)<0:=by omega
  rw[hP,if_neg hp0,Int.toNat_natCast] at HL;rw[hP] at HA hj;simp only[hP] at HC;simp only[Int.toNat_natCast] at HC hj;have bE:(P:Int)<(l.length:Int):=by omega
  have HG:=hid (fun u (hu:Below w.heap.size w u)=>xU (h.below hu) (Nat.le_trans hB hu.size) hl P)
  have HS:=hid (fun u (hu:Below w.heap.size w u)=>cS.same h hB hu)
  generalize jl l key=x at *;obtain⟨xk,xg,xa,xs,xt⟩:=x;simp only at HL;have b9:(xg=gen/\R=(l.eraseIdx P,xs))∨(xg≠gen/\R=(l.eraseIdx P,-1)):=by
   by_cases e:xg=gen
   ·exact .inl ⟨e,by rw[HL.out,if_pos e]⟩
   ·exact .inr ⟨e,by rw[HL.out,if_neg e]⟩
  have mR:=hid h.lt;clear HL h hm hk hP hp;rcases b9 with ⟨aas,hR⟩ | ⟨aas,hR⟩
  all_goals
   have HE:=hid hR;clear hR;go_enter func166,ntmps166
   go_wp2_with (first
    |(go_at_call 91;(with_reducible refine HA.mono ?_);rintro e w1 ⟨rfl,hb⟩;have HB:=hid hb;obtain⟨b,o,c,c1,k0,k1,k2,k3,k4⟩:=HC.out _ hb;simp only at k0 k1 k2 k3 k4;clear hb HA HC)
    |(go_at_call 168;(with_reducible refine(HG.out _ (HB.out.alloc HB.out.size _)).mono ?_);rintro e w2 ⟨rfl,hs⟩;have K2:=(hs.only w1.heap.size (by have:=HB.out.size;have:=mR.out;omega) (by simp)).trans (heap_alloc_new _ _);obtain⟨b0,b1,b2,b3,b4⟩:=bQ K2;have S2:=hid (cS.trans (HS.out _ (HB.out.alloc HB.out.size _)) hs);clear hs K2))
   go_ret;exact⟨by rw[HE.out];rfl,by rw[HE.out];exact S2.out⟩
end Zl
namespace Zt
open Zu
variable {ov:Nat}
open Zq (ae aj ai)
open Zp (iE aL Own At bS eu af aD aA ag bQ)
theorem vr {l:List It}{i j:Nat}(h:j<l.length)(e:j=i):(l.take (j+1)).eraseIdx i=(l.take j).eraseIdx i:=by
 subst e;have hl:(l.take j).length=j:=by simp;omega
 rw[aA z h,List.eraseIdx_append_of_length_le (by omega),hl,Nat.sub_self,List.eraseIdx_of_length_le (l:=l.take j) (by omega)]
 simp
theorem rU {l:List It}{i j:Nat}(h:j<l.length)(e:j≠i):(l.take (j+1)).eraseIdx i=(l.take j).eraseIdx i++[l.getD j z]:=by
 have hl:(l.take j).length=j:=by simp;omega
 rw[aA z h];by_cases og:i<j
 ·rw [List.eraseIdx_append_of_lt_length (by omega)]
 ·rw [List.eraseIdx_append_of_length_le (by omega),hl,List.eraseIdx_of_length_le (l:=l.take j) (by omega),List.eraseIdx_of_length_le (by simp;omega)]
theorem Mv {B v:Nat}{aw:Int}{l:List It}{w:World}(h:Qu B w v ov aw l)(hB:B<=w.heap.size)(hl:l.length<=1000)(id:Int)(hp:au l id<0) :
 Calls prog 123 #[.pointer (some ⟨v,ov,none⟩),.int .i64 id] w fun e w'=>e=.returned (.tuple #[val z,.bool false])/\cS B w v ov aw l w':=by
 have HS:=hid (fun u (hu:Below w.heap.size w u)=>cS.same h hB hu)
 have HB:=hid ((Below.refl w.heap.size w).alloc (Nat.le_refl _) (.cells #[.int .i64 0,.int .i64 0,.int .i64 0,.int .i64 0,.int .i64 0] 113));have HK:=hid (heap_alloc_new w (.cells #[.int .i64 0,.int .i64 0,.int .i64 0,.int .i64 0,.int .i64 0] 113));have HA:=il (h.below HB.out) hl id;generalize au l id=P at *;clear h;go_enter func123,ntmps123
 go_wp2_with (go_at_call 92;(with_reducible refine HA.mono ?_);rintro e w1 ⟨rfl,hb⟩;have aO:=hid (HB.out.trans (hb.mono HB.out.size));have xj:=(hb.block _ (ae HK.out)).trans HK.out;obtain⟨b0,b1,b2,b3,b4⟩:=bQ xj;obtain⟨f0,f1,f2,f3,f4⟩:=Zp.ou xj;have kq:=hid xj;clear hb HA xj)
 rw[show ((((w1.setCell ⟨w.heap.size,0,none⟩ (.int .i64 0)).setCell ⟨w.heap.size,1,none⟩ (.int .i64 0)).setCell ⟨w.heap.size,2,none⟩ (.int .i64 0)).setCell ⟨w.heap.size,3,none⟩ (.int .i64 0)).setCell ⟨w.heap.size,4,none⟩ (.int .i64 0)=lV w1 w.heap.size z from rfl]
 obtain⟨e0,e1,e2,e3,e4⟩:=bQ (jU kq.out z);have bJ:=hid (iI aO.out (Nat.le_refl _) z);generalize lV w1 w.heap.size z=w2 at *;simp only[z] at e0 e1 e2 e3 e4;refine bodyPost_ret (v:=.tuple #[val z,.bool false]) (by simp[results,results123,go_sem,val,z,e0,e1,e2,e3,e4]) rfl ⟨rfl,HS.out _ bJ.out⟩
theorem Mx {B v:Nat}{aw:Int}{l:List It}{w:World}(h:Qu B w v ov aw l)(hB:B<=w.heap.size)(hl:l.length<=1000)(id:Int)(i:Nat)(hp:au l id=(i:Int))(hi:i<l.length) :
 Calls prog 123 #[.pointer (some ⟨v,ov,none⟩),.int .i64 id] w fun e w'=>e=.returned (.tuple #[val (l.getD i z),.bool true])/\cS B w v ov aw (l.eraseIdx i) w':=by
 have HV:=hid h;have eF:=hid hB;have HB:=hid ((Below.refl w.heap.size w).alloc (Nat.le_refl _) (.cells #[.int .i64 0,.int .i64 0,.int .i64 0,.int .i64 0,.int .i64 0] 113));have HK:=hid (heap_alloc_new w (.cells #[.int .i64 0,.int .i64 0,.int .i64 0,.int .i64 0,.int .i64 0] 113));have HA:=il (h.below HB.out) hl id;rw[hp] at HA;have hi':(i:Int)<(l.length:Int):=by omega
 have hvw:=h.lt;have uE:=hid (fun(u:World) (p:Option Addr) (hr:aL aN u p l)=>bj hr hi)
 generalize l.getD i z=X at uE ⊢;obtain⟨Xi,Xk,Xc,Xs,Xt⟩:=X;clear h hp hB;go_enter func123,ntmps123
 go_wp2_with (go_at_call 92;(with_reducible refine HA.mono ?_);rintro e w1 ⟨rfl,hb⟩;have aO:=hid (HB.out.trans (hb.mono HB.out.size));have kq:=hid ((hb.block _ (ae HK.out)).trans HK.out);obtain⟨p,c,c1,hr,-,-⟩:=(HV.out.below aO.out).cell;have HR:=hid hr;obtain⟨b,o,rfl,hat⟩:=uE.out _ _ hr;obtain⟨k0,k1,k2,k3,k4⟩:=xu hat;clear hb HA hr hat)
 have lX:=hid (heap_alloc_new w1 (.cells #[.int .i64 Xi,.int .i64 Xk,.int .i64 Xc,.int .i64 Xs,.int .i64 Xt] 113));have hb2:=(Below.refl w1.heap.size w1).alloc (Nat.le_refl _) (.cells #[.int .i64 Xi,.int .i64 Xk,.int .i64 Xc,.int .i64 Xs,.int .i64 Xt] 113);have Mc:=ae kq.out;have hw2:=ae lX.out;have HKR:=hid ((hb2.block _ Mc).trans kq.out);have bJ:=hid (aO.out.trans (hb2.mono aO.out.size));generalize w1.alloc (.cells #[.int .i64 Xi,.int .i64 Xk,.int .i64 Xc,.int .i64 Xs,.int .i64 Xt] 113)=w2 at *;have ne1:¬(v=w1.heap.size):=by omega
 have ne2:¬(w1.heap.size=v):=by omega
 have ne3:¬(v=w.heap.size):=by omega
 have ne4:¬(w.heap.size=v):=by omega
 have ne5:¬(w.heap.size=w1.heap.size):=by omega
 have ne6:¬(w1.heap.size=w.heap.size):=by omega
 clear k0 k1 k2 k3 k4 c1 HR hb2 HK HB;go_loopw [8,9] (fun y k wr=>∃(j:Nat) (p:Option Addr) (c n:Nat),j<=l.length/\k=.int .i64 (j:Int)/\y=.slice p n c/\Hid (Own aN 113 w2.heap.size wr y ((l.take j).eraseIdx i))/\Hid (((l.take j).eraseIdx i).length=n)/\Below w2.heap.size w2 wr) (fun _ k _=>l.length-(intOf k).toNat)
 case atStart=>exact ⟨0,none,0,0,by omega,rfl,rfl,Own.none _ _ _ _,hid (by simp),Below.refl _ _⟩
 case round =>
  obtain⟨j,p,c,n,hj,rfl,rfl,ax,hn,aW⟩:=hrel;obtain⟨q,cq,c1,hr,-,-⟩:=((HV.out.below bJ.out).below aW).cell;have HR:=hid hr;have cA:=hid aW;clear hr aW;by_cases aC:j<l.length
  ·obtain ⟨b',o',rfl,hat⟩:=bj HR.out aC
   obtain⟨k0,k1,k2,k3,k4⟩:=xu hat;have bE:(j:Int)<(l.length:Int):=by omega
   clear hat;by_cases hk:j=i
   ·have HE:=hid (vr aC hk)
    have Pr:((j:Int) != (i:Int))=false:=by simp[hk]
    clear k0 k1 k2 k3 k4 HR hk;go_wp2;go_roundw
    case rel=>exact ⟨j+1,p,c,n,by omega,by go_num,rfl,by rw[HE.out];exact ax,by rw[HE.out];exact hn,cA.out⟩
    case measure=>simp only[intOf];omega
   ·have HE:=hid (rU aC hk)
    have Pr:((j:Int) != (i:Int))=true:=by simp;omega
    have qE:((l.take j).eraseIdx i).length<=1000:=Nat.le_trans (List.eraseIdx_sublist _ _).length_le (by simp;omega)
    have jJ:n<=1000:=hn.out ▸ qE;clear qE;generalize l.getD j z=x at k0 k1 k2 k3 k4 HE;generalize(l.take j).eraseIdx i=L at *;obtain⟨xi,xk,xc,xs,xt⟩:=x;simp only at k0 k1 k2 k3 k4;clear HR hk;go_wp2_with (at_builtin;refine Zp.push vv rfl _ _ rfl w2 wr (.slice p n c) rfl L n hn.out ax.out cA.out ((Below.refl _ _).alloc (Nat.le_refl _) _) wr.heap.size ⟨xi,xk,xc,xs,xt⟩ rfl (heap_alloc_new _ _) (by omega) ?_;intro p4 c4 w4 R4 B4)
    go_roundw
    case rel=>exact ⟨j+1,p4,c4,n+1,by omega,by go_num,rfl,by rw[HE.out];exact R4,hid (by rw[HE.out];simp[hn.out]),B4⟩
    case measure=>simp only[intOf];omega
  ·have bE:¬(j:Int)<(l.length:Int):=by omega
   have HO:=hid (show Own aN 113 w2.heap.size wr (.slice p n c) (l.eraseIdx i) by have:=ax.out;rwa [List.take_of_length_le (by omega)] at this)
   obtain⟨f0,-,-⟩:=(HV.out.below bJ.out).store (Nat.le_trans eF.out bJ.out.size) cA.out HO.out;have hkx:=(cA.out.block _ hw2).trans lX.out;obtain⟨x0,x1,x2,x3,x4⟩:=bQ hkx;have UY:=(cA.out.block _ (Nat.lt_trans Mc hw2)).trans HKR.out;have UZ:=hid ((Below.heap_setCell wr ⟨v,ov+1,none⟩ (.slice p n c) _ ne4).trans UY);obtain⟨b0,b1,b2,b3,b4⟩:=bQ UY;obtain⟨g0,g1,g2,g3,g4⟩:=Zp.ou UY;have DD:=hid (HV.out.Ta eF.out (bJ.out.trans (cA.out.mono bJ.out.size)) (Nat.le_refl w.heap.size) (Nat.lt_trans Mc hw2) HO.out ⟨Xi,Xk,Xc,Xs,Xt⟩);clear HR ax hn HO hkx UY;go_wp2;rw[show (((((wr.setCell ⟨v,ov+1,none⟩ (.slice p n c)).setCell ⟨w.heap.size,0,none⟩ (.int .i64 Xi)).setCell ⟨w.heap.size,1,none⟩ (.int .i64 Xk)).setCell ⟨w.heap.size,2,none⟩ (.int .i64 Xc)).setCell ⟨w.heap.size,3,none⟩ (.int .i64 Xs)).setCell ⟨w.heap.size,4,none⟩ (.int .i64 Xt)=lV (wr.setCell ⟨v,ov+1,none⟩ (.slice p n c)) w.heap.size ⟨Xi,Xk,Xc,Xs,Xt⟩ from rfl]
   obtain⟨e0,e1,e2,e3,e4⟩:=bQ (jU UZ.out ⟨Xi,Xk,Xc,Xs,Xt⟩);generalize lV (wr.setCell ⟨v,ov+1,none⟩ (.slice p n c)) w.heap.size ⟨Xi,Xk,Xc,Xs,Xt⟩=w5 at *;refine bodyPost_ret (v:=.tuple #[val ⟨Xi,Xk,Xc,Xs,Xt⟩,.bool true]) (by simp[results,results123,go_sem,val,e0,e1,e2,e3,e4]) rfl ⟨rfl,DD.out⟩
theorem Jg {B v:Nat}{aw:Int}{l:List It}{w:World}(h:Qu B w v ov aw l)(hB:B<=w.heap.size)(hl:l.length<=1000)(id:Int) :
 Calls prog 123 #[.pointer (some ⟨v,ov,none⟩),.int .i64 id] w fun e w'=>e=.returned (.tuple #[val (take l id).2.1,.bool (take l id).2.2])/\cS B w v ov aw (take l id).1 w':=by
 unfold take;split
 ·rename_i hp
  exact Mv h hB hl id hp
 ·rename_i hp
  obtain⟨h1,h2,h3⟩:=cM (l:=l) (k:=id) (by omega)
  exact Mx h hB hl id (au l id).toNat (by omega) h1
end Zt
namespace Zl
open Zw
variable {ov:Nat}
open Zq (ae aj ai aI)
theorem vC:∀(l:List Lz)(i:Nat)(c:Int)(_:i<l.length),(cV l).set (i*5+3) (.int .i64 ((l.getD i z).spent+c))=cV (l.set i (more (l.getD i z) c))
 | [],i,c,h=>by simp at h
 | x :: l,0,c,_=>by simp[cV,more]
 | x :: l,i+1,c,h=>by
   have e:∀(y:Lz) (t:List Lz),cV (y :: t)=.int .i64 y.key :: .int .i64 y.gen :: .int .i64 y.aK :: .int .i64 y.spent :: .int .i64 y.cJ :: cV t:=fun y t=>by simp[cV]
   have d:(x :: l).getD (i+1) z=l.getD i z:=by simp[List.getD]
   rw[d,List.set_cons_succ,e,e,<-vC l i c (by simpa using h),show(i+1)*5+3=(i*5+3)+1+1+1+1+1 by omega]
   simp
theorem My {w:World}{E:TypeId}{B:Nat}{b n c:Nat}{l:List Lz}(h:Own E B w (.slice (some ⟨b,0,none⟩) n c) l):∀j u,(cV l)[j]? =some u->w.cell? ((⟨b,0,none⟩:Addr).add j)=some u :=
 World.ownsRow.cells (g:=b) h rfl
theorem By {w:World}{ops:Array Oper}{rest:List Oper}{o:Oper}{a:Act}{Q:Exit->Act->World->Prop}(hgd:o.guard=none)(s y:Operand)
 (ho:o.op=.call { callee:=.builtin .append,args:= #[s,y],argTypes:= #[63,63] })
 (W:World) (B:Nat) (v:Value) (hs:a.eval s=v) (ax:Own 131 W.heap.size w v []) (b n c:Nat) (l:List Lz) (hn:l.length=n) (hy:a.eval y=.slice (some ⟨b,0,none⟩) n c) (hl:Own 131 B w (.slice (some ⟨b,0,none⟩) n c) l) (aT:n<=100000) (hb:Below W.heap.size W w)
 (h:∀p c' w',Hid (Own 131 W.heap.size w' (.slice p n c') l)->Below W.heap.size W w'->wpList prog ops Q rest (a.put o.dst (.slice p n c')) w'):wpList prog ops Q (o :: rest) a w:=by
 subst hn;obtain⟨i0,hi,hz0,hz1,hz2⟩:=info_parts RJ;refine wpList_append_own _ hgd s y 63 ho W.heap.size 131 i0 (.agg #[.int .i64 0,.int .i64 0,.int .i64 0,.int .i64 0,.int .i64 0]) 5 40 underlying63 hi hz0 hz1 hz2 rfl (by decide) v 0 [] hs ax ⟨b,0,Option.none⟩ l.length c (cV l) hy (vq l) (My hl) (Ex l) (by unfold maxLen;omega) (by omega) hb.size ?_
 intro v' w' ko hg2 _;have hb2:=hb.grown hg2 hb.size (fun k hk=>(World.ownsRow.lt ax k hk).1)
 have R:Own 131 W.heap.size w' v' l:=by
  unfold Own;rw[Nat.zero_add,List.nil_append] at ko;exact ko
 obtain⟨p,c',rfl⟩:∃p c',v'=.slice p l.length c':=by
  obtain⟨p,c',e,-⟩:=R.gi;exact⟨p,c',e⟩
 exact h p c' w' R hb2
theorem Mz {w:World}{E:TypeId}{B:Nat}{b n c:Nat}{l:List Lz}(h:Own E B w (.slice (some ⟨b,0,none⟩) n c) l)(hn:l.length=n){i:Nat}(hi:i<l.length)(k:Int) :
 Own E B (w.setCell ⟨b,i*5+3,none⟩ (.int .i64 ((l.getD i z).spent+k))) (.slice (some ⟨b,0,none⟩) n c) (l.set i (more (l.getD i z) k))/\w.grownBy (w.setCell ⟨b,i*5+3,none⟩ (.int .i64 ((l.getD i z).spent+k))) (some b)/\∀o,w.frozen? ⟨b,o,none⟩=false:=by
 subst hn;obtain⟨h1,h2⟩:=World.ownsRow.stored h (i*5+3) (.int .i64 ((l.getD i z).spent+k));refine⟨?_,h2,fun o=>World.ownsRow.frozenAt h o⟩
 unfold Own;rw[<-vC l i k hi,List.length_set];exact h1
theorem vD {w:World}{E:TypeId}{B n c:Nat}{p:Option Addr}{l:List Lz}(h:Own E B w (.slice p n c) l)(hn:l.length=n)(hl:0<l.length):∃g,p=some ⟨g,0,none⟩/\B<=g/\∀i,i<l.length->At w g (i*5) (l.getD i z):=by
 obtain⟨p',c',e,eM⟩:=h.gi;simp only[Value.slice.injEq] at e;obtain⟨rfl,-,-⟩:=e;rcases h.2 with ⟨e,-⟩ | ⟨g,cap,cur,e,h1,-⟩
 ·simp only[Value.slice.injEq] at e
  omega
 ·simp only[Value.slice.injEq] at e
  obtain⟨rfl,-,-⟩:=e;refine⟨g,rfl,h1,fun i hi=> ?_⟩
  obtain⟨b,o,e,ha⟩:=bj eM hi;simp only[Option.some.injEq,Addr.mk.injEq,and_true] at e;obtain⟨rfl,rfl⟩:=e;rwa [Nat.zero_add] at ha
theorem Bz {B v n c:Nat}{w w3:World}{p:Option Addr}{l:List Lz}(h:Wl B w v ov l)(hB:B<=w.heap.size)(hb:Below w.heap.size w w3)(R:Own 131 w.heap.size w3 (.slice p n c) l)(hn:l.length=n){P:Nat}(hP:P<l.length)(k:Int) :
 ∃ g,p=some ⟨g,0,none⟩/\w3.cell? ⟨g,P*5+3,none⟩=some (.int .i64 (l.getD P z).spent)/\w3.frozen? ⟨g,P*5+3,none⟩=false /\
   (w3.setCell ⟨g,P*5+3,none⟩ (.int .i64 ((l.getD P z).spent+k))).frozen? ⟨v,ov,none⟩=false/\(∃u,(w3.setCell ⟨g,P*5+3,none⟩ (.int .i64 ((l.getD P z).spent+k))).cell? ⟨v,ov,none⟩=some u) /\
   ((w3.setCell ⟨g,P*5+3,none⟩ (.int .i64 ((l.getD P z).spent+k))).setCell ⟨v,ov,none⟩ (.slice (some ⟨g,0,none⟩) n c)).cell? ⟨g,P*5+1,none⟩=some (.int .i64 (l.getD P z).gen) /\
   Hid (cS B w v ov (l.set P (more (l.getD P z) k)) ((w3.setCell ⟨g,P*5+3,none⟩ (.int .i64 ((l.getD P z).spent+k))).setCell ⟨v,ov,none⟩ (.slice (some ⟨g,0,none⟩) n c))):=by
 obtain⟨g,rfl,hg,ha⟩:=vD R hn (by omega)
 obtain⟨t1,t2,t3⟩:=Mz R hn hP k;have hb4:Below w.heap.size w (w3.setCell ⟨g,P*5+3,none⟩ (.int .i64 ((l.getD P z).spent+k))):=hb.setCell (p:=⟨g,P*5+3,none⟩) hg _;obtain⟨f0,hu,S⟩:=h.store hB hb4 t1;have t5:=Own.set (o:=ov) (u:=.slice (some ⟨g,0,none⟩) n c) t1 h.lt;obtain⟨g',e,-,ha5⟩:=vD t5 (by rw[List.length_set];exact hn) (by rw[List.length_set];omega)
 simp only[Option.some.injEq,Addr.mk.injEq,and_true] at e;subst e;have h5:=(ha5 P (by rw[List.length_set];exact hP)).2.1
 have aav:(l.set P (more (l.getD P z) k)).getD P z=more (l.getD P z) k:=by simp[List.getD,hP]
 rw[aav] at h5;exact⟨g,rfl,(ha P hP).2.2.2.1,t3 _,f0,hu,h5,S⟩
theorem Jh {B v:Nat}{l:List Lz}{w:World}(h:Wl B w v ov l)(hB:B<=w.heap.size)(hg:Zw.bu l)(hl:l.length<=1000)(key cost now:Int)(hc:cost<1∨left l key now<cost) :
 Calls prog 48 #[.pointer (some ⟨v,ov,none⟩),.int .i64 key,.int .i64 cost,.int .i64 now] w fun e w'=>e=.returned (.tuple #[.int .i64 0,.bool false])/\cS B w v ov l w':=by
 have HS:=hid (fun u (hu:Below w.heap.size w u)=>cS.same h hB hu)
 have HA:=hid (fun u (hu:Below w.heap.size w u)=>yf (h.below hu) hg hl key now)
 generalize left l key now=P at *;clear h;by_cases h1:cost<1
 ·clear hc HA
  go_enter func48,ntmps48
  go_wp2;refine bodyPost_ret (v:=.tuple #[.int .i64 0,.bool false]) (by simp[results,results48,go_sem]) rfl ⟨rfl,HS.out _ (Below.refl _ _)⟩
 ·have h2:P<cost:=by omega
  clear hc;go_enter func48,ntmps48
  go_wp2_with (go_at_call 90;(with_reducible refine(HA.out _ (Below.refl _ _)).mono ?_);rintro e w1 ⟨rfl,hb⟩;have HB:=hid hb;clear hb HA)
  refine bodyPost_ret (v:=.tuple #[.int .i64 0,.bool false]) (by simp[results,results48,go_sem]) rfl ⟨rfl,HS.out _ HB.out⟩
theorem Ji {B v:Nat}{l:List Lz}{w:World}(h:Wl B w v ov l)(hB:B<=w.heap.size)(hg:Zw.bu l)(hl:l.length<=1000)(key cost now:Int)(hc:¬(cost<1∨left l key now<cost)) :
 Calls prog 48 #[.pointer (some ⟨v,ov,none⟩),.int .i64 key,.int .i64 cost,.int .i64 now] w fun e w'=>e=.returned (.tuple #[.int .i64 (jl l key).gen,.bool true])/\cS B w v ov (l.set (au l key).toNat (more (jl l key) cost)) w':=by
 obtain⟨hp,-,hle,hc1⟩:=od hc;obtain⟨hj,-,hm⟩:=cM hp;obtain⟨g0,g1,g2⟩:=hg.mO _ hm;have Mc:IntKind.i64.wrap ((jl l key).spent+cost)=(jl l key).spent+cost:=IntWalk.i64_in _ (by unfold kV bC at g2;omega)
 have HA:=hid (fun u (hu:Below w.heap.size w u)=>yf (h.below hu) hg hl key now)
 have HT:=hid (fun u (hu:Below w.heap.size w u)=>il (h.below hu) hl key)
 obtain⟨b,c,hcell,ax⟩:∃b c,w.cell? ⟨v,ov,none⟩=some (.slice (some ⟨b,0,none⟩) l.length c)/\Own 131 B w (.slice (some ⟨b,0,none⟩) l.length c) l:=by
  obtain⟨_,cs,T,y,h1,hy,h2⟩:=h;obtain⟨p,c,rfl,-⟩:=h2.gi;obtain⟨g,rfl,-,-⟩:=vD h2 rfl (by omega)
  exact⟨g,c,by rw[cell_of_row w v ov _ _ (0,0) h1,hy],h2⟩
 have HF:=hid (fun(w3:World) (p:Option Addr) (c3:Nat) (hb:Below w.heap.size w w3) (R:Own 131 w.heap.size w3 (.slice p l.length c3) l)=>Bz h hB hb R rfl hj cost)
 obtain⟨P,hP⟩:∃P:Nat,au l key=(P:Int):=⟨(au l key).toNat,by omega⟩
 have hx:jl l key=l.getD P z:=by unfold jl;rw[hP,Int.toNat_natCast]
 rw[hx] at Mc hle ⊢;simp only[hP,Int.toNat_natCast] at HT HF hj ⊢;have h1:¬cost<1:=by omega
 have h2:¬left l key now<cost:=by omega
 have aC:(P:Int)<(l.length:Int):=by omega
 have Jj:=hid (fun u (hu:Below w.heap.size w u)=>af hcell hu)
 have HO:=hid ax;clear h hc hm g0 g1 g2 hg hp hP hx ax hle hc1;generalize left l key now=LF at *;generalize l.getD P z=x at *;obtain⟨xk,xg,xa,xs,xt⟩:=x;simp only at Mc HF ⊢;go_enter func48,ntmps48
 go_wp2_with (first
  |(go_at_call 90;(with_reducible refine(HA.out _ (Below.refl _ _)).mono ?_);rintro e w1 ⟨rfl,hb⟩;have aO:=hid hb;clear hb HA)
  |(go_at_call 91;(with_reducible refine(HT.out _ aO.out).mono ?_);rintro e w2 ⟨rfl,hb⟩;have bJ:=hid (aO.out.trans (hb.mono aO.out.size));have cH:=hid (bJ.out.alloc bJ.out.size (.cells #[] 131));have c1:=Jj.out _ cH.out;clear hb HT aO)
  |(at_builtin;refine By rfl (.tmp 25) (.tmp 29) rfl w B (.slice (some ⟨w2.heap.size,0,none⟩) 0 0) rfl (World.ownsRow_made w2 #[] 0 bJ.out.size (Nat.zero_le _) rfl) b l.length c l rfl rfl (aI HO.out cH.out) (by omega) cH.out ?_;intro p4 c4 w4 R4 B4;clear c1 hcell;obtain⟨g4,rfl,d0,d1,d2,⟨d3,d4⟩,d5,D⟩:=HF.out _ _ _ B4 R4.out;clear HF R4 B4 bJ cH))
 refine bodyPost_ret (v:=.tuple #[.int .i64 xg,.bool true]) (by simp[results,results48,go_sem]) rfl ⟨rfl,D.out⟩
theorem EB {B v:Nat}{l:List Lz}{w:World}(h:Wl B w v ov l)(hB:B<=w.heap.size)(hg:Zw.bu l)(hl:l.length<=1000)(key cost now:Int) :
 Calls prog 48 #[.pointer (some ⟨v,ov,none⟩),.int .i64 key,.int .i64 cost,.int .i64 now] w fun e w'=>e=.returned (.tuple #[.int .i64 (bH l key cost now).2.1,.bool (bH l key cost now).2.2])/\cS B w v ov (bH l key cost now).1 w':=by
 unfold bH;split
 ·rename_i hc
  exact Jh h hB hg hl key cost now hc
 ·rename_i hc
  exact Ji h hB hg hl key cost now hc
end Zl
namespace Zl
open Zw
variable {ov:Nat}
open Zq (ae aj ai)
def nk (x:Lz):List Lz->List Lz×Bool
 | l=>l.foldl (fun s y=>if s.2=false/\x.key<y.key then (s.1++[x]++[y],true) else (s.1++[y],s.2)) ([],false)
theorem Jk (x:Lz)(l:List Lz)(y:Lz):nk x (l++[y])=if (nk x l).2=false/\x.key<y.key then ((nk x l).1++[x]++[y],true) else ((nk x l).1++[y],(nk x l).2):=by simp[nk]
theorem MA (x:Lz)(l:List Lz):(nk x l).1.length<=l.length+1/\((nk x l).2=false->(nk x l).1=l):=by
 have key:∀(l:List Lz) (s:List Lz×Bool),(l.foldl (fun s y=>if s.2=false/\x.key<y.key then (s.1++[x]++[y],true) else (s.1++[y],s.2)) s).1.length<=s.1.length+l.length+(if s.2 then 0 else 1)/\((l.foldl (fun s y=>if s.2=false/\x.key<y.key then (s.1++[x]++[y],true) else (s.1++[y],s.2)) s).2=false->(l.foldl (fun s y=>if s.2=false/\x.key<y.key then (s.1++[x]++[y],true) else (s.1++[y],s.2)) s).1=s.1++l):=by
  intro l
  induction l with
  | nil=>intro s;simp
  | cons y l ih =>
    intro s;rw[List.foldl_cons];obtain⟨a,d⟩:=s;cases d
    ·by_cases hk:x.key<y.key
     ·have:=ih (a++[x]++[y],true)
      simp only[hk,and_self,if_true,List.length_append,List.length_cons,List.length_nil] at this ⊢;refine⟨by simp at this ⊢;omega,fun e=> ?_⟩
      have h2:∀(l:List Lz) (s:List Lz),(l.foldl (fun s y=>if s.2=false/\x.key<y.key then (s.1++[x]++[y],true) else (s.1++[y],s.2)) (s,true)).2=true:=by
       intro l
       induction l with
       | nil=>intro s;rfl
       | cons z l ih=>intro s;rw[List.foldl_cons];simpa using ih (s++[z])
      rw[h2] at e;cases e
     ·have:=ih (a++[y],false)
      simp only[hk,and_false,if_false,List.length_append,List.length_cons,List.length_nil] at this ⊢;exact⟨by simp at this ⊢;omega,fun e=>by rw[this.2 e];simp⟩
    ·have:=ih (a++[y],true)
     simp only[Bool.true_eq_false,false_and,if_false,List.length_append,List.length_cons,List.length_nil] at this ⊢;exact⟨by simp at this ⊢;omega,fun e=>by rw[this.2 e];simp⟩
 have:=key l ([],false);simpa[nk] using this
theorem MB (x:Lz)(l:List Lz):(if (nk x l).2=true then (nk x l).1 else (nk x l).1++[x])=ins x l:=by
 have yes:∀(l s:List Lz),l.foldl (fun s y=>if s.2=false/\x.key<y.key then (s.1++[x]++[y],true) else (s.1++[y],s.2)) (s,true)=(s++l,true):=by
  intro l
  induction l with
  | nil=>intro s;simp
  | cons z l ih=>intro s;rw[List.foldl_cons];simp only[Bool.true_eq_false,false_and,if_false];rw[ih];simp
 have no:∀(l s:List Lz),(if (l.foldl (fun s y=>if s.2=false/\x.key<y.key then (s.1++[x]++[y],true) else (s.1++[y],s.2)) (s,false)).2=true then (l.foldl (fun s y=>if s.2=false/\x.key<y.key then (s.1++[x]++[y],true) else (s.1++[y],s.2)) (s,false)).1 else (l.foldl (fun s y=>if s.2=false/\x.key<y.key then (s.1++[x]++[y],true) else (s.1++[y],s.2)) (s,false)).1++[x])=s++ins x l:=by
  intro l
  induction l with
  | nil=>intro s;simp[ins]
  | cons z l ih =>
    intro s;rw[List.foldl_cons];by_cases hk:x.key<z.key
    ·simp only[hk,and_self,if_true]
     rw[yes];simp[ins,hk]
    ·simp only[hk,and_false,if_false]
     rw[ih];simp[ins,hk]
 have:=no l [];simpa[nk] using this
theorem zM {B v:Nat}{l:List Lz}{w:World}(h:Wl B w v ov l)(hB:B<=w.heap.size)(x:Lz)(hx:cY x) :
 Calls prog 125 #[.pointer (some ⟨v,ov,none⟩),val x] w fun e w'=>e=.returned (.int .i64 1)/\cS B w v ov l w':=by
 have HS:=hid (fun u (hu:Below w.heap.size w u)=>cS.same h hB hu)
 obtain⟨b0,b1,b2,b3,b4⟩:=bQ (heap_alloc_new w (.cells #[.int .i64 x.key,.int .i64 x.gen,.int .i64 x.aK,.int .i64 x.spent,.int .i64 x.cJ] 131));have HB:=hid ((Below.refl w.heap.size w).alloc (Nat.le_refl _) (.cells #[.int .i64 x.key,.int .i64 x.gen,.int .i64 x.aK,.int .i64 x.spent,.int .i64 x.cJ] 131));obtain⟨xk,xg,xa,xs,xt⟩:=x;unfold cY at hx;simp only at hx b0 b1 b2 b3 b4 HB;have hc:xg<1∨¬xg<1/\(xa<1∨¬xa<1/\((xs != 0)=true∨(xs != 0)=false/\xt<0)):=by
  by_cases h1:xg<1
  ·exact .inl h1
  ·by_cases h2:xa<1
   ·exact .inr ⟨h1,.inl h2⟩
   ·by_cases h3:xs=0
    ·exact .inr ⟨h1,.inr ⟨h2,.inr ⟨by simp[h3],by omega⟩⟩⟩
    ·exact .inr ⟨h1,.inr ⟨h2,.inl (by simp[h3])⟩⟩
 clear h hx;simp only[val];rcases hc with h1 | ⟨h1,h2 | ⟨h2,h3 | ⟨h3,h4⟩⟩⟩
 all_goals
  go_enter func125,ntmps125
  go_wp2;go_ret;exact⟨rfl,HS.out _ HB.out⟩
theorem pJ {B v:Nat}{l:List Lz}{w:World}(h:Wl B w v ov l)(hB:B<=w.heap.size)(hl:l.length<=1000)(x:Lz)(hx:¬cY x)(hp:0<=au l x.key) :
 Calls prog 125 #[.pointer (some ⟨v,ov,none⟩),val x] w fun e w'=>e=.returned (.int .i64 5)/\cS B w v ov l w':=by
 have HS:=hid (fun u (hu:Below w.heap.size w u)=>cS.same h hB hu)
 obtain⟨b0,b1,b2,b3,b4⟩:=bQ (heap_alloc_new w (.cells #[.int .i64 x.key,.int .i64 x.gen,.int .i64 x.aK,.int .i64 x.spent,.int .i64 x.cJ] 131));have HB:=hid ((Below.refl w.heap.size w).alloc (Nat.le_refl _) (.cells #[.int .i64 x.key,.int .i64 x.gen,.int .i64 x.aK,.int .i64 x.spent,.int .i64 x.cJ] 131));have HA:=il (h.below HB.out) hl x.key;generalize au l x.key=P at *;obtain⟨xk,xg,xa,xs,xt⟩:=x;unfold cY at hx;simp only at hx b0 b1 b2 b3 b4 HB HA;have h1:¬xg<1:=by omega
 have h2:¬xa<1:=by omega
 have h3:(xs != 0)=false:=by simp;omega
 have h4:¬xt<0:=by omega
 clear h hx;simp only[val];go_enter func125,ntmps125
 go_wp2_with (go_at_call 91;(with_reducible refine HA.mono ?_);rintro e w1 ⟨rfl,hb⟩;have aO:=hid (HB.out.trans (hb.mono HB.out.size));clear hb HA)
 go_ret;exact⟨rfl,HS.out _ aO.out⟩
theorem zN {B v:Nat}{l:List Lz}{w:World}(h:Wl B w v ov l)(hB:B<=w.heap.size)(hl:l.length<=1000)(x:Lz)(hx:¬cY x)(hp:¬0<=au l x.key) :
 Calls prog 125 #[.pointer (some ⟨v,ov,none⟩),val x] w fun e w'=>e=.returned (.int .i64 0)/\cS B w v ov (ins x l) w':=by
 have HV:=hid h;have eF:=hid hB;have K:=heap_alloc_new w (.cells #[.int .i64 x.key,.int .i64 x.gen,.int .i64 x.aK,.int .i64 x.spent,.int .i64 x.cJ] 131);have HB:=hid ((Below.refl w.heap.size w).alloc (Nat.le_refl _) (.cells #[.int .i64 x.key,.int .i64 x.gen,.int .i64 x.aK,.int .i64 x.spent,.int .i64 x.cJ] 131));have HA:=il (h.below HB.out) hl x.key;have HI:=hid (MB x l);have U0:=hid (Jk x);have HLL:=hid (MA x);generalize au l x.key=P at *;generalize ins x l=R at *;have VG:=hid (show nk x []=([],false) from rfl)
 generalize nk x=LD at *;obtain⟨xk,xg,xa,xs,xt⟩:=x;unfold cY at hx;simp only at hx K HB HA U0;obtain⟨b0,b1,b2,b3,b4⟩:=bQ K;have h1:¬xg<1:=by omega
 have h2:¬xa<1:=by omega
 have h3:(xs != 0)=false:=by simp;omega
 have h4:¬xt<0:=by omega
 have HK:=hid K;clear h hx hB K;simp only[val];go_enter func125,ntmps125
 go_wp2_with (go_at_call 91;(with_reducible refine HA.mono ?_);rintro e w1 ⟨rfl,hb⟩;have aO:=hid (HB.out.trans (hb.mono HB.out.size));have kq:=hid ((hb.block _ (ae HK.out)).trans HK.out);clear hb HA HK b0 b1 b2 b3 b4)
 clear HB;go_loopw [5,6,7] (fun y d k wr=>∃(j:Nat) (p:Option Addr) (c n:Nat),j<=l.length/\k=.int .i64 (j:Int)/\y=.slice p n c/\d=.bool (LD (l.take j)).2/\Hid (Own 131 w1.heap.size wr y (LD (l.take j)).1)/\Hid ((LD (l.take j)).1.length=n)/\Below w1.heap.size w1 wr) (fun _ _ k _=>l.length-(intOf k).toNat)
 case atStart=>exact ⟨0,none,0,0,by omega,rfl,rfl,by rw[List.take_zero,VG.out],by rw[List.take_zero,VG.out];exact hid (Own.none _ _ _),by rw[List.take_zero,VG.out];exact hid rfl,Below.refl _ _⟩
 case round =>
  obtain⟨j,p,c,n,hj,rfl,rfl,rfl,ax,hn,aW⟩:=hrel;obtain⟨q,cq,Tc,hr⟩:=(HV.out.below aO.out).cell;have HR:=hid hr;have c1:=af Tc aW;have cA:=hid aW;have nt:=hid (fun u (hu:Below w1.heap.size w1 u)=>bQ ((hu.block _ (ae kq.out)).trans kq.out))
  obtain⟨b0,b1,b2,b3,b4⟩:=nt.out _ aW;have jJ:n<=1001:=by
   have:=(HLL.out (l.take j)).1;rw[hn.out] at this;have h5:(l.take j).length<=l.length:=by simp;omega
   omega
  have Pu:=hid Tc;clear hr Tc;by_cases aC:j<l.length
  ·obtain ⟨b,o,rfl,hat⟩:=bj HR.out aC
   obtain⟨k0,k1,k2,k3,k4⟩:=hat.below aW;have uE:=hid hat;clear hat aW;have bE:(j:Int)<(l.length:Int):=by omega
   have xv:=U0.out (l.take j) (l.getD j z);rw[<-aA aC] at xv;generalize hx:l.getD j z=y at k0 k1 k2 k3 k4 xv uE;generalize hS:LD (l.take j)=S at *;generalize H5:LD (l.take (j+1))=S' at *;have nu:=hid H5;obtain⟨L,D⟩:=S;obtain⟨yk,yg,ya,ys,yt⟩:=y;simp only at k0 k1 k2 k3 k4 xv ax hn;clear hx hS H5;have HX:Hid (∀u,Below w1.heap.size w1 u->(u.cell? ⟨b,o+j*5,none⟩=some (.int .i64 yk)/\u.cell? ⟨b,o+j*5+1,none⟩=some (.int .i64 yg)/\u.cell? ⟨b,o+j*5+2,none⟩=some (.int .i64 ya)/\u.cell? ⟨b,o+j*5+3,none⟩=some (.int .i64 ys)/\u.cell? ⟨b,o+j*5+4,none⟩=some (.int .i64 yt))/\u.cell? ⟨v,ov,none⟩=some (.slice (some ⟨b,o,none⟩) l.length cq)):=fun u hu=>⟨uE.out.below hu,af Pu.out hu⟩
   clear uE Pu;clear HR;cases D with
   | true =>
     simp only[Bool.true_eq_false,false_and,if_false] at xv;have HE:=hid xv;clear xv;go_wp2;go_quiet (fail)
     go_wp2_with (at_builtin;refine cW rfl (.tmp 59) (.tmp 67) rfl w1 wr (.slice p n c) rfl L n hn.out ax.out cA.out (ag wr _) wr.heap.size ⟨yk,yg,ya,ys,yt⟩ rfl (heap_alloc_new _ _) (by omega) ?_;intro p4 c4 w4 R4 B4)
     go_roundw
     case rel=>exact ⟨j+1,p4,c4,n+1,by omega,by go_num,rfl,by rw[nu.out,HE.out],by rw[nu.out,HE.out];exact R4,by rw[nu.out,HE.out];exact hid (by simp[hn.out]),B4⟩
     case measure=>simp [intOf];omega
   | false =>
     by_cases hk:xk<yk
     ·simp only[hk,and_self,if_true] at xv
      have HE:=hid xv;clear xv;go_wp2;go_quiet (fail)
      have Ym:=hid (show(L++[(⟨xk,xg,xa,xs,xt⟩:Lz)]).length=n+1 by simp[hn.out])
      go_wp2_with (at_builtin;first
       |(refine cW rfl (.tmp 55) (.tmp 57) rfl w1 wr (.slice p n c) rfl L n hn.out ax.out cA.out (ag wr _) wr.heap.size ⟨xk,xg,xa,xs,xt⟩ rfl (heap_alloc_new _ _) (by omega) ?_;intro p3 c3 w3 R3 B3;clear k0 k1 k2 k3 k4 c1 b0 b1 b2 b3 b4;obtain⟨⟨k0,k1,k2,k3,k4⟩,c1⟩:=HX.out _ B3;have cH:=hid B3;clear B3)
       |(refine cW rfl (.tmp 59) (.tmp 67) rfl w1 w3 (.slice p3 (n+1) c3) rfl (L++[⟨xk,xg,xa,xs,xt⟩]) (n+1) Ym.out R3.out cH.out (Below.refl _ _) w3.heap.size ⟨yk,yg,ya,ys,yt⟩ rfl (heap_alloc_new _ _) (by omega) ?_;intro p4 c4 w4 R4 B4))
      go_roundw
      case rel=>exact ⟨j+1,p4,c4,n+2,by omega,by go_num,rfl,by rw[nu.out,HE.out],by rw[nu.out,HE.out];exact R4,by rw[nu.out,HE.out];exact hid (by simp[hn.out]),B4⟩
      case measure=>simp [intOf];omega
     ·simp only[hk,and_false,if_false] at xv
      have HE:=hid xv;clear xv;go_wp2;go_quiet (fail)
      go_wp2_with (at_builtin;refine cW rfl (.tmp 59) (.tmp 67) rfl w1 wr (.slice p n c) rfl L n hn.out ax.out cA.out (ag wr _) wr.heap.size ⟨yk,yg,ya,ys,yt⟩ rfl (heap_alloc_new _ _) (by omega) ?_;intro p4 c4 w4 R4 B4)
      go_roundw
      case rel=>exact ⟨j+1,p4,c4,n+1,by omega,by go_num,rfl,by rw[nu.out,HE.out],by rw[nu.out,HE.out];exact R4,by rw[nu.out,HE.out];exact hid (by simp[hn.out]),B4⟩
      case measure=>simp [intOf];omega
  ·have mG:l.take j=l:=List.take_of_length_le (by omega)
   have bE:¬(j:Int)<(l.length:Int):=by omega
   rw[mG] at ax hn ⊢;have hi:=HI.out;generalize LD l=S at *;obtain⟨L,D⟩:=S;simp only at ax hn hi ⊢;have Yn:=hid hi;have Yo:=hid aO.out.size;have HST:Hid (∀(u:World) (y:Value),Below w1.heap.size w1 u->Own 131 w1.heap.size u y R->u.frozen? ⟨v,ov,none⟩=false/\(∃z,u.cell? ⟨v,ov,none⟩=some z)/\Hid (cS B w v ov R (u.setCell ⟨v,ov,none⟩ y))):=fun u y hu ho=>HV.out.store eF.out (aO.out.trans (hu.mono aO.out.size)) (Zq.cO ho aO.out.size)
   clear HR HI hi;cases D with
   | true =>
     have e:L=R:=by have:=Yn.out;simpa using this
     subst e;obtain⟨f0,⟨u0,d0⟩,G⟩:=HST.out _ _ aW ax.out;clear Yn HST ax aW nt Pu;go_wp2;go_ret;exact⟨rfl,G.out⟩
   | false =>
     have e:L++[⟨xk,xg,xa,xs,xt⟩]=R:=by have:=Yn.out;simpa using this
     clear Yn aW;go_wp2_with (at_builtin;refine cW rfl (.tmp 71) (.tmp 73) rfl w1 wr (.slice p n c) rfl L n hn.out ax.out cA.out (Below.refl _ _) wr.heap.size ⟨xk,xg,xa,xs,xt⟩ rfl (heap_alloc_new _ _) (by omega) ?_;intro p3 c3 w3 R3 B3;obtain⟨f0,⟨u0,d0⟩,G⟩:=HST.out _ _ B3 (by rw[<-e];exact R3.out);clear B3 R3 HST c1)
     go_ret;exact⟨rfl,G.out⟩
theorem vE {B v:Nat}{l:List Lz}{w:World}(h:Wl B w v ov l)(hB:B<=w.heap.size)(hl:l.length<=1000)(x:Lz) :
 Calls prog 125 #[.pointer (some ⟨v,ov,none⟩),val x] w fun e w'=>e=.returned (.int .i64 (put l x).2)/\cS B w v ov (put l x).1 w':=by
 unfold put;split
 ·rename_i hx
  exact zM h hB x hx
 ·rename_i hx
  split
  ·rename_i hp
   exact pJ h hB hl x hx hp
  ·rename_i hp
   exact zN h hB hl x hx hp
end Zl
namespace Zl
open Zw
variable {ov:Nat}
open Zq (ae aj ai)
def kept (l:List Lz)(g:Int)(j:Nat):List Lz:=l.take j++(l.drop j).filter fun x=> !fg g x
def j4 (l:List Lz)(g:Int)(j:Nat):Nat:=(l.drop j).countP (fg g)
theorem H6 {l:List Lz}{j:Nat}(h:j<l.length):l.drop j=l.getD j z :: l.drop (j+1):=by
 rw[List.drop_eq_getElem_cons h];simp[List.getD,h]
theorem MC {l:List Lz}{g:Int}{j:Nat}(h:j<l.length):(kept l g (j+1)).getD j z=l.getD j z/\j<(kept l g (j+1)).length:=by
 have hl:(l.take (j+1)).length=j+1:=by simp;omega
 unfold kept;refine⟨?_,by simp;omega⟩
 simp only[List.getD];rw[List.getElem?_append_left (by omega)]
 simp
theorem MF {l:List Lz}{g:Int}{j:Nat}(h:j<l.length)(e:fg g (l.getD j z)=true):kept l g j=(kept l g (j+1)).eraseIdx j/\j4 l g j=j4 l g (j+1)+1:=by
 have hl:(l.take j).length=j:=by simp;omega
 unfold kept j4;rw[H6 h,aA h,List.append_assoc,List.eraseIdx_append_of_length_le (by omega),hl,Nat.sub_self]
 generalize l.getD j z=x at *;simp[e]
theorem P9 {l:List Lz}{g:Int}{j:Nat}(h:j<l.length)(e:fg g (l.getD j z)=false):kept l g j=kept l g (j+1)/\j4 l g j=j4 l g (j+1):=by
 unfold kept j4;rw[H6 h,aA h];generalize l.getD j z=x at *;simp[e]
theorem MG (l:List Lz)(g:Int)(j:Nat):(kept l g j).length<=l.length:=by
 unfold kept;rw[List.length_append];have:=List.length_filter_le (fun x=> !fg g x) (l.drop j)
 simp only[List.length_take,List.length_drop] at *;omega
theorem Jl (l:List Lz)(g:Int)(j:Nat):j4 l g j<=l.length:=by
 unfold j4;have:=List.countP_le_length (p:=fg g) (l:=l.drop j);simp only[List.length_drop] at this;omega
theorem Jm {B v:Nat}{l:List Lz}{w:World}(h:Wl B w v ov l)(hB:B<=w.heap.size)(hl:l.length<=1000)(gen:Int) :
 Calls prog 115 #[.pointer (some ⟨v,ov,none⟩),.int .i64 gen] w fun e w'=>e=.returned (.int .i64 (drop l gen).2)/\cS B w v ov (drop l gen).1 w':=by
 have eF:=hid hB;have S0:=hid (show cS B w v ov (kept l gen l.length) w by
  have:kept l gen l.length=l:=by simp[kept]
  rw[this];exact cS.same h hB (Below.refl _ _))
 have HD:=hid (show drop l gen=(kept l gen 0,((j4 l gen 0:Nat):Int)) by simp[drop,kept,j4])
 generalize drop l gen=R at *;obtain⟨p0,q0,c0,-⟩:=h.cell;clear h;have Mc:IntKind.i64.wrap ((l.length:Int)-1)=(l.length:Int)-1:=IntWalk.i64_in _ (by omega)
 go_enter func115,ntmps115
 go_wp2;go_loopw [5,6] (fun n i wr=>∃(j:Nat),j<=l.length/\i=.int .i64 ((j:Int)-1)/\n=.int .i64 (j4 l gen j:Int)/\Hid (cS B w v ov (kept l gen j) wr)) (fun _ i _=>(intOf i+1).toNat)
 case atStart=>exact ⟨l.length,by omega,by go_num,by simp[j4],S0⟩
 case round =>
  obtain⟨j,hj,rfl,rfl,hst⟩:=hrel;clear S0 c0;obtain⟨p,c,c1,hr⟩:=hst.out.wl.cell;have HR:=hid hr;clear hr;by_cases aC:0<j
  ·obtain ⟨k,rfl⟩:∃k,j=k+1:=⟨j-1,by omega⟩
   have hk:k<l.length:=by omega
   obtain⟨e1,e2⟩:=MC (g:=gen) hk;obtain⟨b,o,rfl,x0,x1,x2,x3,x4⟩:=bj HR.out e2;rw[e1] at x0 x1 x2 x3 x4;have hi:((k+1:Nat):Int)-1=(k:Int):=by omega
   rw[hi];have hlk:=MG l gen (k+1);have hgk:=Jl l gen (k+1);have HG:=hid (fun u (hu:Below wr.heap.size wr u)=>xU (hst.out.wl.below hu) (Nat.le_trans eF.out (Nat.le_trans hst.out.below.size hu.size)) (by omega) k)
   have e2':(k:Int)<((kept l gen (k+1)).length:Int):=by omega
   by_cases he:fg gen (l.getD k z)=true
   ·obtain ⟨f1,f2⟩:=MF hk he
    have ku:(l.getD k z).gen<gen:=by simpa[fg] using he
    have MH:=hid f1;have U1:=hid f2;generalize l.getD k z=x at *;generalize kept l gen (k+1)=L at *;generalize j4 l gen (k+1)=G at *;clear f1 f2 he e1 HR hi;go_wp2_with (go_at_call 168;(with_reducible refine(HG.out _ (Below.refl _ _)).mono ?_);rintro e w2 ⟨rfl,hs⟩;have S2:=hid (cS.trans hst.out hs);clear hs)
    go_roundw
    case rel=>exact ⟨k,by omega,by go_num,by rw[U1.out];go_num,by rw[MH.out];exact S2⟩
    case measure=>simp only[intOf];omega
   ·have he:fg gen (l.getD k z)=false:=by simpa using he
    obtain⟨f1,f2⟩:=P9 hk he;have ku:¬(l.getD k z).gen<gen:=by simpa[fg] using he
    have MH:=hid f1;have U1:=hid f2;generalize l.getD k z=x at *;generalize kept l gen (k+1)=L at *;generalize j4 l gen (k+1)=G at *;clear f1 f2 he e1 HR hi HG;go_wp2;go_roundw
    case rel=>exact ⟨k,by omega,by go_num,by rw[U1.out],by rw[MH.out];exact hst⟩
    case measure=>simp only[intOf];omega
  ·obtain rfl:j=0:=by omega
   clear HR c1;go_wp2;go_ret;exact⟨by rw[HD.out];rfl,by rw[HD.out];exact hst.out⟩
end Zl
namespace Zu
open Zq (ae aj ai)
open Zp (iE aL Own At bS eu af aD aA ag bQ bX)
theorem iF:eu prog bX 3 25:=⟨underlying25,.int .i64 0,8,by kernel_rfl,rfl,by decide⟩
end Zu
end Go.Proofs.YtbgdlokegibkmaaGreat
