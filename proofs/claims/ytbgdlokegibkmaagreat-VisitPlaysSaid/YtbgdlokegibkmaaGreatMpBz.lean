/-
  A part of the proof of VisitPlays.
-/
import Derived.Test.YtbgdlokegibkmaaGreatMpBy
import Derived.Test.YtbgdlokegibkmaaGreatShelf
set_option maxRecDepth 100000
set_option maxHeartbeats 1000000
namespace Go.Proofs.YtbgdlokegibkmaaGreat
open Tryz
open Lib (hid)
namespace Zw
open Go.RowKit Go.Maps Go.Shelf Go.Sort
instance:Inhabited Lz:=⟨z⟩
def mU (x y:Int):Int:=if x<y then -1 else if y<x then 1 else 0
theorem tz (x:Int)(w:World):Calls prog 177 #[.int .i64 x] w fun e w'=>e=.returned (.bool false)/\w=w':=by
 have h:(x != x)=false:=by simp
 go_enter func177,ntmps177
 go_wp2;go_ret;exact⟨rfl,rfl⟩
theorem A8 (x y:Int)(w:World):Calls prog 130 #[.int .i64 x,.int .i64 y] w fun e w'=>e=.returned (.int .i64 (mU x y))/\w=w':=by
 have b9:(x<y/\mU x y= -1)∨(¬x<y/\y<x/\mU x y=1)∨(¬x<y/\¬y<x/\mU x y=0):=by
  unfold mU;by_cases h1:x<y <;>by_cases h2:y<x <;>simp [h1,h2]
 generalize mU x y=R at *;rcases b9 with ⟨h1,rfl⟩ | ⟨h1,h2,rfl⟩ | ⟨h1,h2,rfl⟩
 all_goals
  go_enter func130,ntmps130
  go_wp2_with (go_at_call 177;(with_reducible refine(tz _ _).mono ?_);rintro e w1 ⟨rfl,rfl⟩)
  go_ret;exact⟨rfl,rfl⟩
def xh (x y:Lz):Int:=mU x.key y.key
theorem rL (x y:Lz):Go.Proofs.ltOf xh x y=decide (x.key<y.key):=by
 unfold Go.Proofs.ltOf xh mU;by_cases h1:x.key<y.key
 ·simp [h1]
 ·by_cases h2:y.key<x.key <;>simp [h1,h2]
theorem L4:SWO (Go.Proofs.ltOf xh) where
 irrefl x:=by rw[rL];simp
 trans x y z h1 h2:=by rw[rL] at *;simp at *;omega
 ntrans x y z h1 h2:=by rw[rL] at *;simp at *;omega
theorem nZ (x y:Lz)(W:World):Calls prog 129 #[.agg (qU x).toArray,.agg (qU y).toArray] W fun e w'=>e=.returned (.int .i64 (xh x y))/\∃q os',w'=grow (W.drewN q) os':=by
 have hcon:=fun W'=>A8 x.key y.key W'
 unfold xh;generalize mU x.key y.key=r at hcon ⊢;simp only[qU];go_enter func129,ntmps129
 go_wp2_with (go_at_call 130;refine(hcon _).mono ?_;rintro e w' ⟨rfl,rfl⟩)
 go_ret;exact⟨rfl,0,_,by rw[alloc_eq_grow,alloc_eq_grow,grow_grow];rfl⟩
theorem qA (xs:List Lz):flatK qU 5 xs.toArray=(cV xs).toArray:=by
 refine ext_get! (by simp[vq]) fun t ht=> ?_
 have XB:t<xs.length*5:=by simpa using ht
 rw[get_flatK _ _ _ t (by simpa using XB)]
 have hj:t / 5<xs.length:=by omega
 obtain⟨h0,h1,h2,h3,h4⟩:=om xs (t / 5) hj;have hx:xs.toArray[t / 5]! =xs.getD (t / 5) z:=by simp[List.getD,hj]
 rw[hx];generalize xs.getD (t / 5) z=x at *;have hc:∀v,(cV xs)[t]? =some v->(cV xs).toArray[t]! =v:=fun v hv=>by simp[hv]
 have hm:t % 5=0∨t % 5=1∨t % 5=2∨t % 5=3∨t % 5=4:=by omega
 rcases hm with e | e | e | e | e
 ·rw [show t / 5*5=t by omega] at h0
  rw[hc _ h0,e];rfl
 ·rw [show t / 5*5+1=t by omega] at h1
  rw[hc _ h1,e];rfl
 ·rw [show t / 5*5+2=t by omega] at h2
  rw[hc _ h2,e];rfl
 ·rw [show t / 5*5+3=t by omega] at h3
  rw[hc _ h3,e];rfl
 ·rw [show t / 5*5+4=t by omega] at h4
  rw[hc _ h4,e];rfl
theorem Ho {w:World}{g B cap:Nat}{xs:List Lz}(h:Own 135 B w (.slice (some ⟨g,0,none⟩) xs.length cap) xs):HoldsK qU 5 w g 0 xs.toArray:=by
 intro j hj;rw[qA] at hj ⊢;have mG:j<(cV xs).length:=by simpa using hj
 have hc:=World.ownsRow.cells (g:=g) h rfl j _ (List.getElem?_eq_getElem mG);rw[Zq.gM] at hc;refine⟨by simpa[mG] using hc,?_⟩
 rcases h.2 with ⟨h0,_⟩ | ⟨g',cap',cur,hv,_,hb,_⟩
 ·cases h0
 ·cases hv
  simp[World.frozen?,hb]
theorem L8 {w:World}{g:Nat}{l:List Lz}(h:HoldsK qU 5 w g 0 l.toArray):aL w (some ⟨g,0,none⟩) l:=by
 refine .inr ⟨g,0,rfl,fun j hj=> ?_⟩
 obtain⟨h0,h1,h2,h3,h4⟩:=om l j hj;have key:∀t v,(cV l)[t]? =some v->w.cell? ⟨g,0+t,none⟩=some v:=fun t v hv=>by
  have ht:=(List.getElem?_eq_some_iff.1 hv).1;have:=(h t (by rw[qA];simpa using ht)).1
  rw[qA] at this;rw[this];simp[hv]
 exact⟨key _ _ h0,key _ _ h1,key _ _ h2,key _ _ h3,key _ _ h4⟩
theorem qx {w:World}{B g n:Nat}{d:Array Lz}{os:Array Obj}(hB:B<=w.heap.size)(hg:B<=g):Below B w (Go.Proofs.sortWorldK qU 5 w g 0 n d os):=by
 refine(Below.refl B w).grown (row:=some g) ⟨rfl,rfl,rfl,Go.Proofs.size_sortWorldK_c qU 5 w g 0 n d os,fun k hk hne=> ?_⟩ hB (fun k e=>by cases e;exact hg)
 unfold Go.Proofs.sortWorldK putRowK;rw[heap_grow_old _ _ (by simpa using hk)]
 have:g≠k:=fun e=>hne (by rw[e])
 simp[putRow,mapBlock,Sort.ahead,Array.getElem?_modify,this]
theorem tA {L:List Lz}(hr:cI L){xs:List Lz}(hp:xs.Perm L){d:Array Lz}(h1:PermIn 0 xs.toArray.size xs.toArray d)(h2:SortedIn (Go.Proofs.ltOf xh) 0 xs.toArray.size d):d=L.toArray:=by
 obtain⟨hs,-,DV⟩:=h1;have e1:(d.extract 0 xs.toArray.size).toList=d.toList:=by rw[<-hs];simp
 have e2:(xs.toArray.extract 0 xs.toArray.size).toList=xs:=by simp
 rw[e1,e2] at DV;have hdL:=DV.trans hp;have nU:d.toList.Pairwise fun a b=>a.key<=b.key:=by
  rw[List.pairwise_iff_getElem];intro i j hi hj og;have mG:j<d.size:=by simpa using hj
  have:=h2 i j (Nat.zero_le _) og (by rw[<-hs];exact mG)
  rw[rL] at this;have hn:=of_decide_eq_false this;rw[getElem!_pos d j mG,getElem!_pos d i (by omega)] at hn
  simp only[Array.getElem_toList];omega
 have hL:L.Pairwise fun a b=>a.key<=b.key:=hr.imp fun {a b} h=>by omega
 have e:=List.Perm.eq_of_pairwise (le:=fun a b:Lz=>a.key<=b.key) (fun a b ha hb hab hba=>D9 hr (hdL.mem_iff.1 ha) hb (by omega)) nU hL hdL
 apply Array.toList_inj.1;rw[e]
theorem rJ {L:List Lz}(hr:cI L){B:Nat}{u:World}{v:Value}{xs:List Lz}(hB:B<=u.heap.size)(ho:Own 135 B u v xs)(hp:xs.Perm L)(aT:L.length<=100) :
 Calls prog 175 #[v,.func (.func 129) #[] #[]] u fun e w'=>e=.returned (.tuple #[])/\∃p c,v=.slice p L.length c/\aL w' p L/\Below B u w':=by
 have hl:=hp.length_eq;rcases ho.2 with ⟨rfl,h0⟩ | ⟨g,cap,cur,rfl,hg,hb,-⟩
 ·have hL:L=[]:=List.eq_nil_of_length_eq_zero (by omega)
  subst hL;refine(Go.Proofs.AnyF.slices_SortFunc_none Tryz.sortLease none 0 _ u).mono ?_;rintro e w' ⟨rfl,rfl⟩;exact⟨rfl,none,0,rfl,.inl rfl,Below.refl _ _⟩
 ·have aC:g<u.heap.size:=Zq.ae hb
  have hH:=Ho ho;have hcon:=Go.Proofs.AnyQ.slices_SortFunc Tryz.sortLease 5 Tryz.isAgg135 Tryz.sizeOf135 qU (fun _=>rfl) (fun x v hv=>by simp[qU] at hv;rcases hv with rfl | rfl | rfl | rfl | rfl <;>rfl) xh L4 129 #[] g 0 cap xs.toArray u (enters_of func129 (by kernel_rfl) rfl) (fun _ _ _ _ x y=>nZ x y _) hH aC (by simp;omega)
  refine Calls.mono (P:=prog) hcon ?_;rintro e w' ⟨rfl,d,n,os,h1,h2,rfl⟩;have hd:=tA hr hp h1 h2;subst hd;refine⟨rfl,_,cap,by rw[hl],L8 (Go.Proofs.holdsK_sortWorldK qU 5 u g 0 n xs.toArray L.toArray os aC hH (by simp[hl])),qx hB hg⟩
theorem qz {L:List Lz}(hr:cI L)(aT:L.length<=100)(Bm:Nat)(w0 w:World)(hb0:Below w0.heap.size w0 w)
 (hseq:SeqStopsK Fence.wide 5 prog 176 #[.pointer (some ⟨Bm,0,none⟩)] (fun x:Lz=> #[val x]) KeepsWalks (fun xs=>xs.Perm L) (fun _=>True) L.length w0) :
 Calls prog 127 #[.func (.func 176) #[] #[.pointer (some ⟨Bm,0,none⟩)],.func (.func 129) #[] #[]] w fun e w' =>
  ∃p c,e=.returned (.slice p L.length c)/\aL w' p L/\Below w.heap.size w w':=by
 have ha:=n9 aT Bm w0 w hb0 hseq;have hs:=hid (fun u v xs (hb:Below w.heap.size w u) (ho:Own 135 w.heap.size u v xs) (hp:xs.Perm L)=>rJ hr hb.size ho hp aT)
 clear hseq aT;go_enter func127,ntmps127
 go_wp2_with (first
  |(go_at_call 174;refine ha.mono ?_;clear ha;rintro e u ⟨v,xs,rfl,hp,ho,hb⟩)
  |(go_at_call 175;refine(hs.out _ _ _ hb ho hp).mono ?_;clear hs;rintro e u2 ⟨rfl,p,c,rfl,hl,hb2⟩))
 go_ret;exact⟨p,c,rfl,hl,hb.trans hb2⟩
theorem iz {B q:Nat}{w:World}{l:List Lz}(h:Pm B w q l)(hg:bu l)(aT:l.length<=100) :
 Calls prog 68 #[.pointer (some ⟨q,0,none⟩)] w fun e w'=>∃p c,e=.returned (.slice p l.length c)/\aL w' p l/\Below w.heap.size w w':=by
 obtain⟨m,hc,-,hm⟩:=h.cell;have hr:=hg.en;have hv:=callsIn_wide.1 (Ea 5 m w);have hb1:=cQ w (.cells #[.map m] 192);have hz:=(MapKept.heap_alloc w (.cells #[.map m] 192)).1;have hs:=qz hr aT w.heap.size _ _ (Below.refl _ _) (Be 5 (by decide) (hm.below hb1) hr (by rw[cell_of_row _ _ 0 _ _ (0,0) hz];rfl) (by simp))
 clear hz hr aT hg;go_enter func68,ntmps68
 go_wp2_with (first
  |(go_at_call 128;refine hv.mono ?_;clear hv;rintro e u ⟨rfl,rfl⟩)
  |(go_at_call 127;refine hs.mono ?_;clear hs;rintro e u2 ⟨p,c,rfl,hl,hb2⟩))
 go_ret;exact⟨p,c,rfl,hl,hb1.trans (hb2.mono hb1.size)⟩
end Zw
end Go.Proofs.YtbgdlokegibkmaaGreat
