/-
  A part of the proof of VisitPlays.
-/
import Derived.Sort.OwnSortedInts
import Derived.Lib.OwnBridge
import Derived.Test.YtbgdlokegibkmaaGreatMpBp
import Derived.Test.YtbgdlokegibkmaaGreatMpBr
set_option maxRecDepth 100000
set_option maxHeartbeats 4000000
namespace Go.Proofs.YtbgdlokegibkmaaGreat
open Go.RowKit
open Tryz
open Lib (hid)
namespace Zu
open Go.RowKit Go.Shelf Go.Sort
open Zq (ae aj ai aI)
open Zp (iE aL Own At bS eu fN af aD aA ag bQ bX dQ jo cells)
theorem lW:∀{a b:List Int},a.Pairwise (·<·)->b.Pairwise (·<·)->(∀x,x∈a↔x∈b)->a=b
 | [],[],_,_,_=>rfl
 | [],y :: b,_,_,h=>by have:=(h y).2 (by simp);simp at this
 | x :: a,[],_,_,h=>by have:=(h x).1 (by simp);simp at this
 | x :: a,y :: b,ha,hb,h=>by
   obtain⟨a1,a2⟩:=List.pairwise_cons.1 ha;obtain⟨b1,b2⟩:=List.pairwise_cons.1 hb;have e:x=y:=by
    have h1:=(h x).1 (by simp)
    have h2:=(h y).2 (by simp)
    rcases List.mem_cons.1 h1 with h1 | h1
    ·exact h1
    ·rcases List.mem_cons.1 h2 with h2 | h2
     ·exact h2.symm
     ·have:=b1 x h1
      have:=a1 y h2;omega
   subst e;refine congrArg (x :: ·) (lW a2 b2 fun w=>⟨fun hw=> ?_,fun hw=> ?_⟩)
   ·rcases List.mem_cons.1 ((h w).1 (by simp[hw])) with e | e
    ·have:=a1 w hw;omega
    ·exact e
   ·rcases List.mem_cons.1 ((h w).2 (by simp[hw])) with e | e
    ·have:=b1 w hw;omega
    ·exact e
theorem mD {zs:List Int}(h:zs.Pairwise (·<=·)):∀m,m<=zs.length->(Lib.compactUpTo zs.toArray m).Pairwise (·<·)/\∀x,x∈Lib.compactUpTo zs.toArray m↔x∈zs.take m
 | 0,_=>by simp[Lib.compactUpTo]
 | m+1,hm=>by
   obtain⟨i1,i2⟩:=mD h m (by omega)
   have hd:∀j,j<zs.length->zs.toArray[j]! =zs.getD j 0:=fun j hj=>by simp[List.getD,hj]
   have ht:zs.take (m+1)=zs.take m++[zs.getD m 0]:=aA 0 (by omega)
   rw[Lib.compactUpTo_succ,ht];have hle:∀x∈zs.take m,x<=zs.getD m 0:=fun x hx=>by
    obtain⟨j,hj,rfl⟩:=List.getElem_of_mem hx;rw[List.length_take] at hj;rw[List.getElem_take,show zs.getD m 0=zs[m]'(by omega) by simp[List.getD,show m<zs.length by omega]]
    exact(List.pairwise_iff_getElem.1 h) j m (by omega) (by omega) (by omega)
   by_cases hk:Lib.keeps zs.toArray m=true
   ·rw [if_pos hk,hd m (by omega)]
    have aC:∀x∈zs.take m,x<zs.getD m 0:=fun x hx=>by
     by_cases h0:m=0
     ·subst h0;simp at hx
     ·simp only[Lib.keeps,decide_eq_true_eq] at hk
      have hne:=hk.resolve_left h0;rw[hd m (by omega),hd (m-1) (by omega)] at hne
      obtain⟨j,hj,rfl⟩:=List.getElem_of_mem hx;rw[List.length_take] at hj;rw[List.getElem_take];have e1:zs.getD (m-1) 0=zs[m-1]'(by omega):=by simp[List.getD,show m-1<zs.length by omega]
      have e2:zs.getD m 0=zs[m]'(by omega):=by simp[List.getD,show m<zs.length by omega]
      rw[e1,e2] at hne;rw[e2];have h1:=(List.pairwise_iff_getElem.1 h) (m-1) m (by omega) (by omega) (by omega)
      by_cases e:j=m-1
      ·subst e;omega
      ·have h2:=(List.pairwise_iff_getElem.1 h) j (m-1) (by omega) (by omega) (by omega)
       omega
    refine⟨?_,fun x=>by simp[i2]⟩
    rw[List.pairwise_append];exact⟨i1,by simp,fun a ha b hb=>by rw[List.mem_singleton.1 hb];exact aC a ((i2 a).1 ha)⟩
   ·rw [if_neg hk,List.append_nil]
    refine⟨i1,fun x=> ?_⟩
    rw[i2,List.mem_append,List.mem_singleton];refine⟨.inl,fun hx=>hx.elim id fun e=> ?_⟩
    simp only[Lib.keeps,decide_eq_true_eq,not_or,ne_eq,Decidable.not_not] at hk;rw[hd m (by omega),hd (m-1) (by omega)] at hk
    rw[e,hk.2,List.mem_take_iff_getElem];exact⟨m-1,by omega,by simp[List.getD,show m-1<zs.length by omega]⟩
theorem jW (k:Int):∀(n:Nat)(l:List Int),l.length=n->l.Pairwise (·<·)->dP k l=if ∃a∈l,k<=a then (l.filter (fun x=>decide (x<k))++[k]++l.filter (fun x=>decide (k<x)),true) else (l,false)
 | 0,l,hn,_=>by
   obtain rfl:=List.eq_nil_of_length_eq_zero hn;simp[dP]
 | n+1,l,hn,h=>by
   obtain⟨m,a,rfl⟩:∃m a,l=m++[a]:=⟨l.dropLast,l.getLast (by intro e;subst e;simp at hn),(List.dropLast_concat_getLast _).symm⟩
   rw[List.pairwise_append] at h;obtain⟨h1,-,h3⟩:=h;have h3:∀x∈m,x<a:=fun x hx=>h3 x hx a (by simp)
   rw[jS,jW k n m (by simpa using hn) h1]
   by_cases hex:∃a∈m,k<=a
   ·obtain ⟨b,hb,hkb⟩:=hex
    have:=h3 b hb;rw[if_pos ⟨b,hb,hkb⟩,if_pos ⟨a,by simp,by omega⟩]
    unfold dA;simp only[Bool.true_eq_false,false_and,if_false];rw[if_neg (by omega)]
    simp[show ¬a<k by omega,show k<a by omega]
   ·rw [if_neg hex]
    have hall:∀x∈m,x<k:=fun x hx=>by
     by_cases hc:k<=x
     ·exact absurd ⟨x,hx,hc⟩ hex
     ·omega
    have f1:m.filter (fun x=>decide (x<k))=m:=List.filter_eq_self.2 fun x hx=>by simpa using hall x hx
    have f2:m.filter (fun x=>decide (k<x))=[]:=List.filter_eq_nil_iff.2 fun x hx=>by have:=hall x hx;simp;omega
    by_cases hka:k<=a
    ·rw [if_pos (show ∃x∈m++[a],k<=x from⟨a,by simp,hka⟩)]
     by_cases e:a=k
     ·subst e
      have e1:dA a (m,false) a=(m++[a],true):=by unfold dA;simp
      rw[e1];simp[f1,f2]
     ·have e1:dA k (m,false) a=(m++[k]++[a],true):=by unfold dA;simp[hka,e]
      rw[e1];simp[f1,f2,show ¬a<k by omega,show k<a by omega]
    ·have e1:dA k (m,false) a=(m++[a],false):=by unfold dA;simp[hka,show ¬a=k by omega]
     rw[e1,if_neg];rintro⟨x,hx,hc⟩;rcases List.mem_append.1 hx with hx | hx
     ·exact hex ⟨x,hx,hc⟩
     ·rw [List.mem_singleton.1 hx] at hc
      exact hka hc
theorem rX (k:Int){l:List Int}(h:l.Pairwise (·<·)):ja k l=l.filter (fun x=>decide (x<k))++[k]++l.filter (fun x=>decide (k<x)):=by
 unfold ja;rw[jW k _ l rfl h];by_cases hex:∃a∈l,k<=a
 ·rw [if_pos hex];rfl
 ·rw [if_neg hex]
  have hall:∀x∈l,x<k:=fun x hx=>by
   by_cases hc:k<=x
   ·exact absurd ⟨x,hx,hc⟩ hex
   ·omega
  have f1:l.filter (fun x=>decide (x<k))=l:=List.filter_eq_self.2 fun x hx=>by simpa using hall x hx
  have f2:l.filter (fun x=>decide (k<x))=[]:=List.filter_eq_nil_iff.2 fun x hx=>by have:=hall x hx;simp;omega
  rw[f1,f2,List.append_nil];rfl
theorem oU:∀(n:Nat)(l:List It),l.length=n->(aR l).Pairwise (·<·)/\∀k,k∈aR l↔k∈l.map It.key
 | 0,l,hn=>by
   obtain rfl:=List.eq_nil_of_length_eq_zero hn;simp[aR]
 | n+1,l,hn=>by
   obtain⟨m,a,rfl⟩:∃m a,l=m++[a]:=⟨l.dropLast,l.getLast (by intro e;subst e;simp at hn),(List.dropLast_concat_getLast _).symm⟩
   obtain⟨i1,i2⟩:=oU n m (by simpa using hn)
   rw[xR,rX _ i1];refine⟨?_,fun k=> ?_⟩
   ·rw [List.append_assoc,List.pairwise_append]
    refine⟨i1.filter _,?_,fun x hx y hy=> ?_⟩
    ·rw [List.singleton_append,List.pairwise_cons]
     exact⟨fun y hy=>by simpa using(List.mem_filter.1 hy).2,i1.filter _⟩
    ·have h1:x<a.key:=by simpa using(List.mem_filter.1 hx).2
     rcases List.mem_append.1 hy with hy | hy
     ·rw [List.mem_singleton.1 hy];exact h1
     ·have h2:a.key<y:=by simpa using(List.mem_filter.1 hy).2
      omega
   ·simp only[List.mem_append,List.mem_filter,List.mem_singleton,List.map_append,List.map_cons,List.map_nil,i2,decide_eq_true_eq]
    constructor
    ·rintro ((h | h) | h)
     ·exact .inl h.1
     ·exact .inr h
     ·exact .inl h.1
    ·rintro (h | h)
     ·rcases Int.lt_trichotomy k a.key with e | e | e
      ·exact .inl (.inl ⟨h,e⟩)
      ·exact .inl (.inr e)
      ·exact .inr ⟨h,e⟩
     ·exact .inl (.inr h)
theorem DZ (l:List It):Lib.compact ((l.map It.key).mergeSort fun x y=>decide (x<=y))=aR l:=by
 have hp:=List.mergeSort_perm (l.map It.key) (fun x y=>decide (x<=y))
 have hs:((l.map It.key).mergeSort fun x y=>decide (x<=y)).Pairwise (·<=·):=by
  have:=List.pairwise_mergeSort (le:=fun x y:Int=>decide (x<=y)) (fun a b c h1 h2=>by simp at *;omega) (fun a b=>by simp;omega) (l.map It.key)
  exact this.imp fun h=>by simpa using h
 generalize((l.map It.key).mergeSort fun x y=>decide (x<=y))=zs at *
 obtain⟨c1,c2⟩:=mD hs zs.length (Nat.le_refl _);obtain⟨k1,k2⟩:=oU _ l rfl;exact lW c1 k1 fun x=>by
  rw[k2,<-hp.mem_iff];have:=c2 x;rw[List.take_length] at this;exact this
theorem D3 (zs:List Int):(Lib.compact zs).length<=zs.length:=by
 unfold Lib.compact Lib.compactUpTo;rw[List.length_map];exact Nat.le_trans (List.length_filter_le _ _) (by simp)
theorem qy (zs:List Int):cells bX zs=zs.map (Value.int .i64):=by
 induction zs with
 | nil=>rfl
 | cons x zs ih=>rw [Zp.fM,ih];rfl
theorem gJ {B:Nat}{u:World}{v:Value}{zs:List Int}:Own bX 3 B u v zs↔u.ownsRow B 3 1 v zs.length (zs.map (Value.int .i64)):=by
 unfold Own;rw[qy];exact Iff.rfl
theorem oV {B:Nat}{u:World}{v:Value}{zs:List Int}(ho:Own bX 3 B u v zs)(hB:B<=u.heap.size)(hl:zs.length<=1000) :
 Calls prog 148 #[v] u fun e u'=>e=.returned (.tuple #[])/\Own bX 3 B u' v (zs.mergeSort fun x y=>decide (x<=y))/\Below B u u':=by
 have hl2:(zs.mergeSort fun x y=>decide (x<=y)).length=zs.length:=List.length_mergeSort _
 have hown':=gJ.1 ho;rcases hown'.2 with ⟨rfl,h0⟩ | ⟨g,cap,cur,rfl,hbase,hblk,h1,h2,h3,h4⟩
 ·have hz:=List.eq_nil_of_length_eq_zero h0
  subst hz;refine(Tryz.slices_Sort_int_none none 0 u).mono ?_;rintro e u' ⟨rfl,rfl⟩;exact⟨rfl,by simpa using ho,Below.refl _ _⟩
 ·obtain ⟨g',cap',e,_,aC,_,_,_,hH⟩:=Lib.holds_of_ownsRow (enc:=Value.int .i64) hown' (by simp)
  cases e;refine(Tryz.slices_Sort_int g 0 cap zs u hH aC (by omega)).mono ?_
  rintro e u' ⟨rfl,n,os,rfl⟩;refine⟨rfl,gJ.2 ?_,(Below.refl B u).grown (grownBy_sortedI _) hB (fun j hj=>by cases hj;exact hbase)⟩
  have:=ownsRow_sortedI (n:=n) (os:=os) hl2 hbase hblk h1 h2 h3;rw[hl2];exact this
theorem rK {B:Nat}{u:World}{v:Value}{zs:List Int}(ho:Own bX 3 B u v zs)(hB:B<=u.heap.size)(hl:zs.length<=1000) :
 Calls prog 149 #[v] u fun e u'=>∃p c,e=.returned (.slice p (Lib.compact zs).length c)/\(aL bX u' p (Lib.compact zs)/\(p=none->c=0))/\Below B u u':=by
 have hown':=gJ.1 ho;have aT:=D3 zs;rcases hown'.2 with ⟨rfl,h0⟩ | ⟨g,cap,cur,rfl,hbase,hblk,h1,h2,h3,h4⟩
 ·have hz:=List.eq_nil_of_length_eq_zero h0
  subst hz;refine(Tryz.slices_Compact_int_empty none 0 u).mono ?_;rintro e u' ⟨rfl,rfl⟩;exact⟨none,0,rfl,⟨.inl rfl,fun _=>rfl⟩,Below.refl _ _⟩
 ·obtain ⟨g',cap',e,_,aC,_,_,_,hH⟩:=Lib.holds_of_ownsRow (enc:=Value.int .i64) hown' (by simp)
  cases e;refine(Tryz.slices_Compact_int g 0 cap zs u hH (by omega) h1).mono ?_
  rintro e u' ⟨rfl,n,rfl⟩;have hsz:(Lib.compact zs++List.replicate (zs.length-(Lib.compact zs).length) 0).toArray.size=zs.toArray.size:=by simp;omega
  have XF:=holds_putRow (Value.int .i64) (Sort.ahead u n) g 0 zs.toArray _ (holds_ahead (Value.int .i64) u n g 0 zs.toArray hH) hsz;refine⟨_,_,rfl,⟨.inr ⟨g,0,rfl,fun j hj k w hw=> ?_⟩,fun e=>nomatch e⟩,(Below.refl B u).grown (row:=some g) ?_ hB (fun j hj=>by cases hj;exact hbase)⟩
  ·match k,hw with
   | 0,hw =>
     simp only[bX,List.getElem?_cons_zero,Option.some.injEq] at hw;subst hw;have:=(XF j (by rw[hsz];simp;omega)).1
     rw[show 0+j*bX.n+0=0+j by rw[show bX.n=1 from rfl];omega,this]
     congr 2
     have hj2:j<(Lib.compact zs++List.replicate (zs.length-(Lib.compact zs).length) 0).length:=by simp;omega
     rw[getElem!_pos _ j (by simpa using hj2)]
     simp[List.getD,hj,List.getElem_append_left hj]
  ·have:=grownBy_sortedI (w:=u) (g:=g) (n:=n) (os:= #[]) (Lib.compact zs++List.replicate (zs.length-(Lib.compact zs).length) 0).toArray
   rwa [grow_empty] at this
theorem oW {F:Nat->Prop}{B q:Nat}{w:World}{aw:Int}{l:List It}(h:Pq F B w q aw l)(hl:l.length<=16) :
 Calls prog 159 #[.pointer (some ⟨q,0,none⟩)] w fun e w'=>∃p c,e=.returned (.slice p (aR l).length c)/\(aL bX w' p (aR l)/\(p=none->c=0))/\Below w.heap.size w w':=by
 have ha:=iz h hl;have hk:=DZ l;have sg:(l.map It.key).length=l.length:=List.length_map _;have HM:=hid (show l.map It.key=(l.take l.length).map It.key by rw[List.take_length])
 generalize l.map It.key=ks at hk sg HM;have uR:=hid (fun(u:World) (v:Value) (ho:Own bX 3 w.heap.size u v ks) (hu:w.heap.size<=u.heap.size)=>oV ho hu (by omega))
 have Nd:(ks.mergeSort fun x y=>decide (x<=y)).length=l.length:=by rw[List.length_mergeSort];exact sg
 generalize(ks.mergeSort fun x y=>decide (x<=y))=zs at *
 have UM:=hid (fun(u:World) (v:Value) (ho:Own bX 3 w.heap.size u v zs) (hu:w.heap.size<=u.heap.size)=>rK ho hu (by omega))
 rw[hk] at UM;generalize aR l=R at *;clear h hk sg Nd;go_enter func159,ntmps159
 go_wp2_with (first
  |(go_at_call 36;(with_reducible refine ha.mono ?_);rintro e u1 ⟨y1,rfl,ho,hb⟩;obtain⟨p1,d1,rfl,iG,-⟩:=fG ho;have pz:=hid iG;have aO:=hid hb;clear ho hb iG ha))
 go_loopw [3,9] (fun y k wr=>∃(j:Nat) (p:Option Addr) (c:Nat),j<=l.length/\k=.int .i64 (j:Int)/\y=.slice p j c/\Hid (Own bX 3 u1.heap.size wr y ((l.take j).map It.key))/\Hid (Below u1.heap.size u1 wr)) (fun _ k _=>l.length-(intOf k).toNat)
 case atStart=>exact ⟨0,none,0,by omega,rfl,rfl,hid (Own.none _ _ _ _),hid (Below.refl _ _)⟩
 case round =>
  obtain⟨j,p,c,hj,rfl,rfl,HO,HB⟩:=hrel;by_cases aC:j<l.length
  ·have bE:(j:Int)<(l.length:Int):=by omega
   obtain⟨b,o,rfl,ha⟩:=bj (pz.out.below HB.out) aC;obtain⟨k0,k1,k2,k3,k4⟩:=xu ha;have HE:=hid (show(l.take (j+1)).map It.key=(l.take j).map It.key++[(l.getD j z).key] by rw[aA z aC];simp)
   have HN:=hid (show((l.take j).map It.key).length=j by simp;omega)
   generalize(l.take j).map It.key=L at *;generalize l.getD j z=x at *;have HX:=hid (fun(o':Obj)=>(cQ wr (.cells #[.int .i64 x.id,.int .i64 x.key,.int .i64 x.cost,.int .i64 x.bU,.int .i64 x.cJ] 136)).alloc (cQ wr (.cells #[.int .i64 x.id,.int .i64 x.key,.int .i64 x.cost,.int .i64 x.bU,.int .i64 x.cJ] 136)).size o')
   have HG:=hid (fun(o o':Obj)=>show ((wr.alloc o).alloc o').heap[wr.heap.size+1]? =some o' from by have:=heap_alloc_new (wr.alloc o) o';simpa using this)
   obtain⟨xi,xk,xc,xs,xt⟩:=x;simp only at k0 k1 k2 k3 k4 HE HX;clear ha pz HM;go_wp2_with (at_builtin;refine Zp.push iF rfl _ _ rfl u1 wr (.slice p j c) rfl L j HN.out HO.out HB.out (HX.out _) (wr.heap.size+1) xk rfl (HG.out _ _) (by omega) ?_;intro p4 c4 w4 R4 B4)
   go_roundw
   case rel=>exact ⟨j+1,p4,c4,by omega,by go_num,rfl,by rw[HE.out];exact R4,hid B4⟩
   case measure=>simp only[intOf];omega
  ·have bE:¬(j:Int)<(l.length:Int):=by omega
   obtain rfl:j=l.length:=by omega
   rw[<-HM.out] at HO;have cA:=hid (aO.out.trans (HB.out.mono aO.out.size));have kX:=hid (Own.lower HO.out aO.out.size);clear pz HM;go_wp2_with (first
    |(go_at_call 148;(with_reducible refine(uR.out _ _ kX.out cA.out.size).mono ?_);rintro e u3 ⟨rfl,ho,hb⟩;have cH:=hid (cA.out.trans hb);have jK:=hid ho;clear hb ho uR)
    |(go_at_call 149;(with_reducible refine(UM.out _ _ jK.out cH.out.size).mono ?_);rintro e u4 ⟨p4,d4,rfl,hl4,hb⟩;have fp:=hid (cH.out.trans hb);have Aw:=hid hl4;clear hb hl4 UM))
   go_ret;exact⟨_,_,rfl,Aw.out,fp.out⟩
theorem LU (w:World):Calls prog 159 #[.pointer none] w fun e w'=>∃p c,e=.returned (.slice p 0 c)/\Below w.heap.size w w':=by
 have ha:=wC w;have hs:=fun u=>Tryz.slices_Sort_int_none none 0 u
 have hc:=fun u=>Tryz.slices_Compact_int_empty none 0 u
 go_enter func159,ntmps159
 go_wp2_with (go_at_call 36;(with_reducible refine ha.mono ?_);rintro e u1 ⟨rfl,hb⟩;have aO:=hid hb;clear hb ha)
 refine wp_loop_rounds 1 ?_;rw[rounds_succ];go_wp2_with (first
  |(go_at_call 148;(with_reducible refine(hs _).mono ?_);rintro e u3 ⟨rfl,rfl⟩)
  |(go_at_call 149;(with_reducible refine(hc _).mono ?_);rintro e u4 ⟨rfl,rfl⟩))
 go_ret;exact⟨_,_,rfl,aO.out⟩
theorem zB:jz Pq where
 below:=fun ⟨y,hy⟩ hb=>⟨y,hy.below hb⟩
 kept:=fun ⟨y,hy⟩ hk _=>⟨y,hy.kept hk⟩
 sub:=fun ⟨y,hy⟩ hg=>⟨y,hy.sub hg⟩
 grow:=fun ⟨y,hy⟩ hb=>⟨y,hy.grow hb⟩
 new:=fun aw w h0 h1=>Uf aw w h0 h1
 Ii:=fun aw w h=>Ue aw w h
 put:=fun h hB _ hl x _=>wA h hB hl x
 take:=fun h hB hg hl id _=>KX h hB hg hl id
 first:=fun h hg hl key _=>xf _ key _ _ fun _ hu=>iX (by obtain⟨y,hy⟩:=h;exact⟨y,hy.below hu⟩) hg hl key
 of:=fun h hg hl key _=>iX h hg hl key
 aR:=fun h _ hl=>(oW h hl).mono fun _ _ ⟨p,c,he,hli,hb⟩=>⟨p,c,he,hli.1,hb⟩
 sum:=fun {_ _ _ _ _ l} h hg hl key _=>DX _ key _ (of l key) (Nat.le_trans (lR l key) (by omega)) (iX h hg hl key)
 all:=fun h _ hl=>(iz h hl).mono fun e w' ⟨y,he,ho,hb⟩=>by
  obtain⟨p,c,rfl,hli,-⟩:=fG ho;exact⟨p,c,he,hli,hb⟩
 aaL:=O9
 VX:=KY
 Tn:=fun key w=>xf _ key w [] fun u _=>(Ba key u).mono fun e w' ⟨p,c,he,hb⟩=>⟨p,c,he,.inl rfl,hb⟩
 nof:=Ba
 VY:=LU
 aaM:=fun key w=>DX _ key w [] (by simp) ((Ba key w).mono fun e w' ⟨p,c,he,hb⟩=>⟨p,c,he,.inl rfl,hb⟩)
 aaN:=fun w=>(wC w).mono fun e w' ⟨he,hb⟩=>⟨_,_,he,hb⟩
end Zu
end Go.Proofs.YtbgdlokegibkmaaGreat
