/-
  A part of the proof of VisitPlays.
-/
import Derived.Test.YtbgdlokegibkmaaGreatMpAy
import Derived.Test.YtbgdlokegibkmaaGreatShelf
set_option maxRecDepth 100000
set_option maxHeartbeats 2000000
namespace Go.Proofs.YtbgdlokegibkmaaGreat
open Go.RowKit
open Tryz
open Lib (hid)
namespace Zu
open Go.RowKit Go.Shelf Go.Sort
open Zq (ae aj ai aI)
open Zp (iE aL Own At bS eu fN af aD aA ag bQ bX dQ jo cells)
instance:Inhabited It:=⟨z⟩
def iD (x y:It):Int:=if x.bU<y.bU then -1 else if y.bU<x.bU then 1 else 0
theorem nY (x y:It):Go.Proofs.ltOf iD x y=decide (x.bU<y.bU):=by
 unfold Go.Proofs.ltOf iD;by_cases h1:x.bU<y.bU
 ·simp [h1]
 ·by_cases h2:y.bU<x.bU <;>simp [h1,h2]
theorem oT:SWO (Go.Proofs.ltOf iD) where
 irrefl x:=by rw[nY];simp
 trans x y z h1 h2:=by rw[nY] at *;simp at *;omega
 ntrans x y z h1 h2:=by rw[nY] at *;simp at *;omega
def eE (c:Int)(x:It):Bool:=x.bU==c
theorem Hb {d:Array It}{j:Nat}(hj:j+1<d.size)(hne:d[j+1]!.bU≠d[j]!.bU)(c:Int):(swp d (j+1) j).toList.filter (eE c)=d.toList.filter (eE c):=by
 have e:d.toList=d.toList.take j++[d[j]!,d[j+1]!]++d.toList.drop (j+2):=by
  apply List.ext_getElem?;intro i;have h1:j<d.toList.length:=by simp;omega
  have hl:(d.toList.take j).length=j:=by simp;omega
  rcases Nat.lt_trichotomy i j with h | h | h
  ·rw [List.append_assoc,List.getElem?_append_left (by omega),List.getElem?_take_of_lt h]
  ·subst h
   rw[List.append_assoc,List.getElem?_append_right (by omega),hl,Nat.sub_self]
   simp[getElem!_pos d i (by omega)]
  ·by_cases h2:i=j+1
   ·subst h2
    rw[List.append_assoc,List.getElem?_append_right (by omega),hl]
    simp[getElem!_pos d (j+1) hj]
   ·rw [List.getElem?_append_right (by simp;omega)]
    simp only[List.length_append,hl,List.length_cons,List.length_nil,List.getElem?_drop]
    congr 1
    omega
 have e2:(swp d (j+1) j).toList=d.toList.take j++[d[j+1]!,d[j]!]++d.toList.drop (j+2):=by
  apply List.ext_getElem?;intro i;have hl:(d.toList.take j).length=j:=by simp;omega
  unfold swp;rw[Array.toList_setIfInBounds,Array.toList_setIfInBounds];rcases Nat.lt_trichotomy i j with h | h | h
  ·rw [List.append_assoc,List.getElem?_append_left (by omega),List.getElem?_take_of_lt h,List.getElem?_set_ne (by omega),List.getElem?_set_ne (by omega)]
  ·subst h
   rw[List.append_assoc,List.getElem?_append_right (by omega),hl,Nat.sub_self,List.getElem?_set_self (by simp;omega)]
   rfl
  ·by_cases h2:i=j+1
   ·subst h2
    rw[List.append_assoc,List.getElem?_append_right (by omega),hl,List.getElem?_set_ne (by omega),List.getElem?_set_self (by simpa using hj)]
    simp
   ·rw [List.getElem?_append_right (by simp;omega),List.getElem?_set_ne (by omega),List.getElem?_set_ne (by omega)]
    simp only[List.length_append,hl,List.length_cons,List.length_nil,List.getElem?_drop]
    congr 1
    omega
 rw[e2]
 conv=>rhs;rw[e]
 simp only[List.filter_append]
 congr 2
 generalize d[j]! =a at *;generalize d[j+1]! =b at *;simp only[List.filter_cons,List.filter_nil];by_cases ha:a.bU=c
 ·have hb:b.bU≠c:=by omega
  simp[eE,ha,hb]
 ·simp [eE,ha]
theorem rH (c:Int)(a:Nat):∀(j:Nat)(d:Array It),j<d.size->(insInner (Go.Proofs.ltOf iD) a j d).toList.filter (eE c)=d.toList.filter (eE c)
 | 0,d,_=>rfl
 | j+1,d,h=>by
   unfold insInner;split
   ·rename_i hc
    simp only[Bool.and_eq_true,nY,decide_eq_true_eq] at hc;rw[rH c a j _ (by rw[swp_size];omega),Hb h (by omega)]
   ·rfl
theorem xd (a:Nat):∀(j:Nat)(d:Array It),(insInner (Go.Proofs.ltOf iD) a j d).size=d.size
 | 0,d=>rfl
 | j+1,d=>by
   unfold insInner;split
   ·rw [xd a j,swp_size]
   ·rfl
theorem rI (c:Int)(a b:Nat):∀(n i:Nat)(d:Array It),b-i=n->b<=d.size->(insOuter (Go.Proofs.ltOf iD) a b i d).toList.filter (eE c)=d.toList.filter (eE c)
 | 0,i,d,hn,_=>by rw[insOuter,if_neg (by omega)]
 | n+1,i,d,hn,hb=>by
   rw[insOuter,if_pos (by omega),rI c a b n (i+1) _ (by omega) (by rw[xd];exact hb),rH c a i d (by omega)]
theorem xe:∀(l:List It),(l.Pairwise fun a b=>a.bU<=b.bU)->(∀x∈l,0<=x.bU/\x.bU<=2)->l=l.filter (eE 0)++l.filter (eE 1)++l.filter (eE 2)
 | [],_,_=>rfl
 | x :: l,h,hc=>by
   obtain⟨h1,h2⟩:=List.pairwise_cons.1 h;have ih:=xe l h2 (fun y hy=>hc y (by simp[hy]))
   have hx:=hc x (by simp)
   have none:∀c:Int,c<x.bU->l.filter (eE c)=[]:=fun c aC=>List.filter_eq_nil_iff.2 fun y hy=>by
    have:=h1 y hy;simp only[eE,beq_iff_eq];omega
   have b9:x.bU=0∨x.bU=1∨x.bU=2:=by omega
   rcases b9 with e | e | e
   ·have f0:eE 0 x=true:=by simp[eE,e]
    have f1:eE 1 x=false:=by simp[eE,e]
    have f2:eE 2 x=false:=by simp[eE,e]
    simp only[List.filter_cons,f0,f1,f2,Bool.false_eq_true,if_false,if_true,List.cons_append];exact congrArg (x :: ·) ih
   ·have n0:=none 0 (by omega)
    rw[n0] at ih;have f0:eE 0 x=false:=by simp[eE,e]
    have f1:eE 1 x=true:=by simp[eE,e]
    have f2:eE 2 x=false:=by simp[eE,e]
    simp only[List.filter_cons,f0,f1,f2,Bool.false_eq_true,if_false,if_true,n0,List.nil_append,List.cons_append] at ih ⊢;exact congrArg (x :: ·) ih
   ·have n0:=none 0 (by omega)
    have n1:=none 1 (by omega)
    rw[n0,n1] at ih;have f0:eE 0 x=false:=by simp[eE,e]
    have f1:eE 1 x=false:=by simp[eE,e]
    have f2:eE 2 x=true:=by simp[eE,e]
    simp only[List.filter_cons,f0,f1,f2,Bool.false_eq_true,if_false,if_true,n0,n1,List.nil_append] at ih ⊢;exact congrArg (x :: ·) ih
theorem zA {l:List It}(key:Int)(hc:∀x∈l,0<=x.bU/\x.bU<=2):(insertionSort (Go.Proofs.ltOf iD) (l.filter fun x=>x.key==key).toArray 0 (l.filter fun x=>x.key==key).length).toList=of l key:=by
 generalize hm:(l.filter fun x=>x.key==key)=m
 have hmc:∀x∈m,0<=x.bU/\x.bU<=2:=fun x hx=>hc x (by rw[<-hm] at hx;exact(List.mem_filter.1 hx).1)
 obtain⟨⟨hs,-,DV⟩,nU⟩:=insertionSort_holds (lt:=Go.Proofs.ltOf iD) oT m.toArray 0 m.length (Nat.zero_le _) (by simp)
 have hf:=fun c=>rI c 0 m.length _ 1 m.toArray rfl (by simp)
 change ∀c,(insertionSort (Go.Proofs.ltOf iD) m.toArray 0 m.length).toList.filter (eE c)=m.filter (eE c) at hf;generalize insertionSort (Go.Proofs.ltOf iD) m.toArray 0 m.length=d at *;have e1:(d.extract 0 m.length).toList=d.toList:=by
  have:d.size=m.length:=by rw[hs];simp
  rw[<-this];simp
 have e2:(m.toArray.extract 0 m.length).toList=m:=by simp
 rw[e1,e2] at DV;have hp:d.toList.Pairwise fun a b=>a.bU<=b.bU:=by
  rw[List.pairwise_iff_getElem];intro i j hi hj og;have mG:j<d.size:=by simpa using hj
  have := nU i j (Nat.zero_le _) og (by have:d.size=m.length:=by rw[hs];simp
                                        omega)
  rw[nY] at this;have hn:=of_decide_eq_false this;rw[getElem!_pos d j mG,getElem!_pos d i (by omega)] at hn
  simp only[Array.getElem_toList];omega
 rw[xe d.toList hp (fun x hx=>hmc x (DV.mem_iff.1 hx)),hf,hf,hf,<-hm]
 unfold of xq;simp only[List.filter_filter];have k:∀c,(fun x:It=>eE c x&&(x.key==key))=ng key c:=fun c=>by funext x;unfold eE ng;rw[Bool.and_comm]
 rw[k,k,k]
theorem qp (xs:List It):flatK aN.cs 5 xs.toArray=(cells aN xs).toArray:=by
 refine ext_get! (by simp[Zp.lq,aN]) fun t ht=> ?_
 have XB:t<xs.length*5:=by simpa using ht
 rw[get_flatK _ _ _ t (by simpa using XB)]
 have hj:t / 5<xs.length:=by omega
 have hx:xs.toArray[t / 5]! =xs.getD (t / 5) z:=by simp[List.getD,hj]
 rw[hx];have hk:t % 5<(aN.cs (xs.getD (t / 5) z)).length:=by rw[show (aN.cs (xs.getD (t / 5) z)).length=5 from rfl];omega
 have h1:=Zp.nj (E:=aN) xs (t / 5) hj (t % 5) _ (List.getElem?_eq_getElem hk);rw[show t / 5*aN.n+t % 5=t by rw[show aN.n=5 from rfl];omega] at h1
 have h2:(aN.cs (xs.getD (t / 5) z))[t % 5]! =(aN.cs (xs.getD (t / 5) z))[t % 5]'hk:=getElem!_pos (aN.cs (xs.getD (t / 5) z)) (t % 5) hk;rw[h2];simp[h1]
theorem DW {w:World}{g B cap:Nat}{T:TypeId}{xs:List It}(h:Own aN T B w (.slice (some ⟨g,0,none⟩) xs.length cap) xs):HoldsK aN.cs 5 w g 0 xs.toArray:=by
 intro j hj;rw[qp] at hj ⊢;have mG:j<(cells aN xs).length:=by simpa using hj
 have hc:=World.ownsRow.cells (g:=g) h rfl j _ (List.getElem?_eq_getElem mG);rw[Zq.gM] at hc;refine⟨by simpa[mG] using hc,?_⟩
 rcases h.2 with ⟨h0,_⟩ | ⟨g',cap',cur,hv,_,hb,_⟩
 ·cases h0
 ·cases hv
  simp[World.frozen?,hb]
theorem LP {w:World}{g:Nat}{l:List It}(h:HoldsK aN.cs 5 w g 0 l.toArray):aL aN w (some ⟨g,0,none⟩) l:=by
 refine .inr ⟨g,0,rfl,fun j hj k u hu=> ?_⟩
 have hv:=Zp.nj (E:=aN) l j hj k u hu;have ht:=(List.getElem?_eq_some_iff.1 hv).1;have:=(h (j*aN.n+k) (by rw[qp];simpa using ht)).1
 rw[qp,<-Nat.add_assoc] at this;rw[this];simp[hv]
theorem qx {w:World}{B g n:Nat}{d:Array It}{os:Array Obj}(hB:B<=w.heap.size)(hg:B<=g):Below B w (Go.Proofs.sortWorldK aN.cs 5 w g 0 n d os):=by
 refine(Below.refl B w).grown (row:=some g) ⟨rfl,rfl,rfl,Go.Proofs.size_sortWorldK_c aN.cs 5 w g 0 n d os,fun k hk hne=> ?_⟩ hB (fun k e=>by cases e;exact hg)
 unfold Go.Proofs.sortWorldK putRowK;rw[heap_grow_old _ _ (by simpa using hk)]
 have:g≠k:=fun e=>hne (by rw[e])
 simp[putRow,mapBlock,Sort.ahead,Array.getElem?_modify,this]
theorem tz (x:Int)(w:World):Calls prog 177 #[.int .i64 x] w fun e w'=>e=.returned (.bool false)/\w=w':=by
 have h:(x != x)=false:=by simp
 go_enter func177,ntmps177
 go_wp2;go_ret;exact⟨rfl,rfl⟩
def mU (x y:Int):Int:=if x<y then -1 else if y<x then 1 else 0
theorem A8 (x y:Int)(w:World):Calls prog 130 #[.int .i64 x,.int .i64 y] w fun e w'=>e=.returned (.int .i64 (mU x y))/\w=w':=by
 have b9:(x<y/\mU x y= -1)∨(¬x<y/\y<x/\mU x y=1)∨(¬x<y/\¬y<x/\mU x y=0):=by
  unfold mU;by_cases h1:x<y <;>by_cases h2:y<x <;>simp [h1,h2]
 generalize mU x y=R at *;rcases b9 with ⟨h1,rfl⟩ | ⟨h1,h2,rfl⟩ | ⟨h1,h2,rfl⟩
 all_goals
  go_enter func130,ntmps130
  go_wp2_with (go_at_call 177;(with_reducible refine(tz _ _).mono ?_);rintro e w1 ⟨rfl,rfl⟩)
  go_ret;exact⟨rfl,rfl⟩
theorem nZ (x y:It)(W:World):Calls prog 182 #[.agg (aN.cs x).toArray,.agg (aN.cs y).toArray] W fun e w'=>e=.returned (.int .i64 (iD x y))/\∃q os',w'=grow (W.drewN q) os':=by
 have hcon:=fun W'=>A8 x.bU y.bU W'
 rw[show iD x y=mU x.bU y.bU from rfl]
 generalize mU x.bU y.bU=r at hcon ⊢;simp only[aN];go_enter func182,ntmps182
 go_wp2_with (go_at_call 130;refine(hcon _).mono ?_;rintro e w' ⟨rfl,rfl⟩)
 go_ret;exact⟨rfl,0,_,by rw[alloc_eq_grow,alloc_eq_grow,grow_grow];rfl⟩
abbrev Hc:Value:=.func (.func 182) #[] #[]
theorem RD {B g cap:Nat}{u:World}{m:List It}(ho:Own aN 136 B u (.slice (some ⟨g,0,none⟩) m.length cap) m)(hB:B<=u.heap.size)(hl:m.length<=16) :
 Calls prog 238 #[.slice (some ⟨g,0,none⟩) m.length cap,.int .i64 0,.int .i64 (m.length:Int),Hc] u fun e w'=>e=.returned (.tuple #[])/\aL aN w' (some ⟨g,0,none⟩) (insertionSort (Go.Proofs.ltOf iD) m.toArray 0 m.length).toList/\Below B u w':=by
 have aC:g<u.heap.size:=jo ho rfl;have hg:B<=g:=(World.ownsRow.lt ho g rfl).1;have hH:=DW ho;have hcon:=Go.Proofs.AnyQ.insertionSortCmpFunc Tryz.insItems 5 Tryz.isAgg136 Tryz.sizeOf136 aN.cs (fun _=>rfl) aN.one iD 182 #[] g 0 cap 0 m.length m.toArray u (enters_of func182 (by kernel_rfl) rfl) (fun _ _ _ _ x y=>nZ x y _) hH aC (Nat.zero_le _) (by simp) (by simp;omega)
 refine Calls.mono (P:=prog) hcon ?_;rintro e w' ⟨rfl,n,os,rfl⟩;have hs:(insertionSort (Go.Proofs.ltOf iD) m.toArray 0 m.length).size=m.toArray.size:=(insertionSort_holds (lt:=Go.Proofs.ltOf iD) oT m.toArray 0 m.length (Nat.zero_le _) (by simp)).1.1
 refine⟨rfl,LP ?_,qx hB hg⟩;rw[Array.toArray_toList];exact Go.Proofs.holdsK_sortWorldK_c aN.cs 5 u g 0 m.toArray _ n os hH aC hs
theorem O7 (p:Option Addr)(cap:Nat)(fv:Value)(u:World):Calls prog 238 #[.slice p 0 cap,.int .i64 0,.int .i64 0,fv] u fun e w'=>e=.returned (.tuple #[])/\u=w':=by
 go_enter func238,ntmps238
 go_wp2;refine wp_loop_rounds 1 ?_;rw[rounds_succ];go_wp2;go_end0
 exact⟨rfl,rfl⟩
theorem Hd (p:Option Addr)(cap n:Nat)(hn:n<=16)(u:World)(Q:World->Prop)
 (hi:Calls prog 238 #[.slice p n cap,.int .i64 0,.int .i64 (n:Int),Hc] u fun e w'=>e=.returned (.tuple #[])/\Q w') :
 Calls prog 210 #[.slice p n cap,.int .i64 (n:Int),Hc] u fun e w'=>e=.returned (.tuple #[])/\Q w':=by
 have h1:¬(20:Int)<=(n:Int):=by omega
 have h2:¬(20:Int)<(n:Int):=by omega
 go_enter func210,ntmps210
 go_wp2;refine wp_loop_rounds 1 ?_;rw[rounds_succ];go_wp2_with (go_at_call 238;(with_reducible refine hi.mono ?_);rintro e w2 ⟨rfl,hq⟩;have HQ:=hid hq;clear hq hi)
 refine wp_loop_rounds 1 ?_;rw[rounds_succ];go_wp2;go_end0
 exact⟨rfl,HQ.out⟩
theorem rJ (p:Option Addr)(cap n:Nat)(hn:n<=16)(u:World)(Q:World->Prop)
 (hi:Calls prog 238 #[.slice p n cap,.int .i64 0,.int .i64 (n:Int),Hc] u fun e w'=>e=.returned (.tuple #[])/\Q w') :
 Calls prog 181 #[.slice p n cap,Hc] u fun e w'=>e=.returned (.tuple #[])/\Q w':=by
 have hs:=Hd p cap n hn u Q hi;clear hi;go_enter func181,ntmps181
 go_wp2_with (go_at_call 210;(with_reducible refine hs.mono ?_);rintro e w2 ⟨rfl,hq⟩;have HQ:=hid hq;clear hq hs)
 go_end0
 exact⟨rfl,HQ.out⟩
theorem nS {B:Nat}{u:World}{y:Value}{m:List It}(ho:Own aN 136 B u y m)(hB:B<=u.heap.size)(hl:m.length<=16) :
 Calls prog 181 #[y,Hc] u fun e w'=>e=.returned (.tuple #[])/\((∃p c,y=.slice p m.length c/\aL aN w' p (insertionSort (Go.Proofs.ltOf iD) m.toArray 0 m.length).toList)/\Below B u w'):=by
 obtain⟨p,c,rfl,-,-⟩:=fG ho;rcases ho.2 with ⟨e,h0⟩ | ⟨g,cap,cur,e,-⟩
 ·have hm:m=[]:=List.eq_nil_of_length_eq_zero h0
  subst hm;refine rJ p c 0 (by omega) u _ ((O7 p c Hc u).mono ?_)
  rintro e w' ⟨rfl,rfl⟩;refine⟨rfl,⟨p,c,rfl,.inl ?_⟩,Below.refl _ _⟩;unfold insertionSort;rw[insOuter,if_neg (by simp)]
 ·simp only[Value.slice.injEq] at e
  obtain⟨rfl,-,rfl⟩:=e;refine rJ _ c m.length hl u _ ((RD ho hB hl).mono ?_);rintro e w' ⟨rfl,h1,h2⟩;exact⟨rfl,⟨_,_,rfl,h1⟩,h2⟩
theorem iX {F:Nat->Prop}{B q:Nat}{w:World}{aw:Int}{l:List It}(h:Pq F B w q aw l)(hg:bu aw l)(hl:l.length<=16)(key:Int) :
 Calls prog 138 #[.pointer (some ⟨q,0,none⟩),.int .i64 key] w fun e w'=>∃p c,e=.returned (.slice p (of l key).length c)/\aL aN w' p (of l key)/\Below w.heap.size w w':=by
 have hc:∀x∈l,0<=x.bU/\x.bU<=2:=fun x hx=>by have:=(hg.mO x hx).1;unfold cY at this;omega
 have hs:=zA key hc;have gH:=cQ w (.cells #[.int .i64 key] 3);obtain⟨y,hy⟩:=h;have ha:=iz (⟨y,hy.below gH⟩:Pq F B _ q aw l) hl;have hcell:=cell_of_row _ w.heap.size 0 _ _ (0,0) (heap_alloc_new w (.cells #[.int .i64 key] 3));have HB:=hid gH;have O8:=hid (fun(u:World) (p:Option Addr) (d:Nat) (hp:aL aN u p l) (hu:Below (w.alloc (.cells #[.int .i64 key] 3)).heap.size (w.alloc (.cells #[.int .i64 key] 3)) u)=>mq Gc (wB w.heap.size key) (d:=d) hp (by omega) (af hcell hu))
 rw[show l.filter (fI key)=l.filter (fun x=>x.key==key) from rfl] at O8
 have sg:(l.filter fun x=>x.key==key).length<=16:=Nat.le_trans (List.length_filter_le _ _) hl
 have aT:(of l key).length=(l.filter fun x=>x.key==key).length:=by
  rw[<-hs,Array.length_toList,(insertionSort_holds (lt:=Go.Proofs.ltOf iD) oT (l.filter fun x=>x.key==key).toArray 0 (l.filter fun x=>x.key==key).length (Nat.zero_le _) (by simp)).1.1]
  simp
 generalize(l.filter fun x=>x.key==key)=m at *
 have uR:=hid (fun(u:World) (y:Value) (ho:Own aN 136 w.heap.size u y m) (hu:w.heap.size<=u.heap.size)=>nS ho hu sg)
 rw[hs] at uR;rw[aT];generalize of l key=R at *;clear hy hcell gH hg hc hs;go_enter func138,ntmps138
 go_wp2_with (first
  |(go_at_call 36;(with_reducible refine ha.mono ?_);rintro e u1 ⟨y1,rfl,ho,hb⟩;obtain⟨p1,d1,rfl,iG,-⟩:=fG ho;have pz:=hid iG;have aO:=hid hb;clear ho hb iG ha)
  |(go_at_call 179;(with_reducible refine(O8.out _ _ _ pz.out aO.out).mono ?_);rintro e u2 ⟨y2,rfl,ho,hb⟩;have bJ:=hid (HB.out.trans ((aO.out.trans (hb.mono aO.out.size)).mono HB.out.size));have oY:=hid (Own.lower ho (Nat.le_trans HB.out.size aO.out.size));clear ho hb O8)
  |(go_at_call 181;(with_reducible refine(uR.out _ _ oY.out bJ.out.size).mono ?_);rintro e u3 ⟨rfl,⟨p3,d3,rfl,I0⟩,hb⟩;have cH:=hid (bJ.out.trans hb);have El:=hid I0;clear hb I0 uR))
 go_ret;exact⟨_,_,rfl,El.out,cH.out⟩
theorem xf (v:Value)(key:Int)(w:World)(R:List It)
 (ho:∀u,Below w.heap.size w u->Calls prog 138 #[v,.int .i64 key] u fun e w'=>∃p c,e=.returned (.slice p R.length c)/\aL aN w' p R/\Below u.heap.size u w') :
 Calls prog 86 #[v,.int .i64 key] w fun e w'=>e=.returned (.tuple #[val (head R).1,.bool (head R).2])/\Below w.heap.size w w':=by
 have HZ:=hid (cQ w (.cells #[.int .i64 0,.int .i64 0,.int .i64 0,.int .i64 0,.int .i64 0] 136));have KZ:=hid (heap_alloc_new w (.cells #[.int .i64 0,.int .i64 0,.int .i64 0,.int .i64 0,.int .i64 0] 136));have ko:=ho _ HZ.out;have HH:=hid (fun(u:World) (p:Option Addr) (d:Nat) (hp:aL aN u p R)=>wG (d:=d) hp)
 generalize head R=hd at *;obtain⟨⟨xi,xk,xc,xs,xt⟩,ok⟩:=hd;simp only[val] at *;clear ho;go_enter func86,ntmps86
 go_wp2_with (first
  |(go_at_call 138;(with_reducible refine ko.mono ?_);rintro e u2 ⟨p2,d2,rfl,hl2,hb⟩;have bJ:=hid (HZ.out.trans (hb.mono HZ.out.size));have Ek:=hid hl2;have lX:=hid ((hb.block _ (aD KZ.out)).trans KZ.out);clear hl2 hb ko)
  |(go_at_call 137;(with_reducible refine(HH.out _ _ _ Ek.out).mono ?_);rintro e u3 ⟨rfl,hb⟩;have rN:=hid ((hb.block _ (aD lX.out)).trans lX.out);have cH:=hid (bJ.out.trans (hb.mono bJ.out.size));obtain⟨b0,b1,b2,b3,b4⟩:=bQ rN.out;obtain⟨f0,f1,f2,f3,f4⟩:=Zp.ou rN.out;clear hb HH))
 rw[show ((((u3.setCell ⟨w.heap.size,0,none⟩ (.int .i64 xi)).setCell ⟨w.heap.size,1,none⟩ (.int .i64 xk)).setCell ⟨w.heap.size,2,none⟩ (.int .i64 xc)).setCell ⟨w.heap.size,3,none⟩ (.int .i64 xs)).setCell ⟨w.heap.size,4,none⟩ (.int .i64 xt)=lV u3 w.heap.size ⟨xi,xk,xc,xs,xt⟩ from rfl]
 obtain⟨e0,e1,e2,e3,e4⟩:=bQ (jU rN.out ⟨xi,xk,xc,xs,xt⟩);have HE:=hid (iI cH.out (Nat.le_refl _) ⟨xi,xk,xc,xs,xt⟩);generalize lV u3 w.heap.size ⟨xi,xk,xc,xs,xt⟩=u4 at *;refine bodyPost_ret (v:=.tuple #[val ⟨xi,xk,xc,xs,xt⟩,.bool ok]) (by simp[results,results86,go_sem,val,e0,e1,e2,e3,e4]) rfl ⟨rfl,HE.out⟩
theorem DX (v:Value)(key:Int)(w:World)(R:List It)(hR:R.length<=1000)
 (ho:Calls prog 138 #[v,.int .i64 key] w fun e w'=>∃p c,e=.returned (.slice p R.length c)/\aL aN w' p R/\Below w.heap.size w w') :
 Calls prog 200 #[v,.int .i64 key] w fun e w'=>e=.returned (.int .i64 (nh R))/\Below w.heap.size w w':=by
 have HS:=hid (fun(j:Nat) (hj:j<R.length)=>zP hj)
 have H0:=hid (show nh []=0 from rfl)
 have HF:=hid (show nh R=nh (R.take R.length) by rw[List.take_length])
 generalize hq:nh R=S at *;clear hq;generalize nh=SU at *;have ca:=Zr.qL;go_enter func200,ntmps200
 go_wp2_with (go_at_call 138;(with_reducible refine ho.mono ?_);rintro e u1 ⟨p1,d1,rfl,iG,hb⟩;have aO:=hid hb;have pz:=hid iG;clear iG hb ho)
 go_loopw [5,12] (fun s i wr=>∃j:Nat,j<=R.length/\i=.int .i64 (j:Int)/\s=.int .i64 (SU (R.take j))/\Hid (Below u1.heap.size u1 wr)) (fun _ i _=>R.length-(intOf i).toNat)
 case atStart=>exact ⟨0,by omega,rfl,by rw[List.take_zero,H0.out],hid (Below.refl _ _)⟩
 case round =>
  obtain⟨j,hj,rfl,rfl,HB⟩:=hrel;by_cases aC:j<R.length
  ·obtain ⟨b,o,rfl,ha⟩:=bj (pz.out.below HB.out) aC
   obtain⟨k0,k1,k2,k3,k4⟩:=xu ha;have bE:(j:Int)<(R.length:Int):=by omega
   have HE:=hid (HS.out j aC);generalize R.getD j z=x at *;generalize SU (R.take j)=s0 at *;have hc:=ca s0 x.cost (wr.alloc (.cells #[.int .i64 x.id,.int .i64 x.key,.int .i64 x.cost,.int .i64 x.bU,.int .i64 x.cJ] 136)) (wr.heap.size+1) (by simp)
   have HX:=hid (fun(o':Obj)=>(cQ wr (.cells #[.int .i64 x.id,.int .i64 x.key,.int .i64 x.cost,.int .i64 x.bU,.int .i64 x.cJ] 136)).alloc (cQ wr (.cells #[.int .i64 x.id,.int .i64 x.key,.int .i64 x.cost,.int .i64 x.bU,.int .i64 x.cJ] 136)).size o')
   obtain⟨xi,xk,xc,xs,xt⟩:=x;simp only at k0 k1 k2 k3 k4 HE hc HX;clear ha HS ca pz;go_wp2_with (go_at_call 88;(with_reducible refine hc.mono ?_);rintro e w2 ⟨rfl,rfl⟩;clear hc)
   go_roundw
   case rel=>exact ⟨j+1,by omega,by go_num,by rw[HE.out],hid (HB.out.trans ((HX.out _).mono HB.out.size))⟩
   case measure=>simp only[intOf];omega
  ·have bE:¬(j:Int)<(R.length:Int):=by omega
   obtain rfl:j=R.length:=by omega
   have HE:=hid HF.out.symm;generalize SU (R.take R.length)=s0 at *;clear HS ca pz HF;go_wp2;go_ret;exact⟨by simp;exact HE.out,aO.out.trans (HB.out.mono aO.out.size)⟩
theorem Ba (key:Int)(w:World):Calls prog 138 #[.pointer none,.int .i64 key] w fun e w'=>∃p c,e=.returned (.slice p 0 c)/\Below w.heap.size w w':=by
 have HB:=hid (cQ w (.cells #[.int .i64 key] 3));have ha:=wC (w.alloc (.cells #[.int .i64 key] 3));have hcell:=cell_of_row _ w.heap.size 0 _ _ (0,0) (heap_alloc_new w (.cells #[.int .i64 key] 3));have O8:=hid (fun(u:World) (hu:Below (w.alloc (.cells #[.int .i64 key] 3)).heap.size (w.alloc (.cells #[.int .i64 key] 3)) u)=>mq Gc (wB w.heap.size key) (l:=[]) (p:=none) (d:=0) (.inl rfl) (by simp) (af hcell hu))
 simp only[List.length_nil,List.filter_nil] at O8;have uR:=hid (fun(u:World) (y:Value) (ho:Own aN 136 w.heap.size u y []) (hu:w.heap.size<=u.heap.size)=>nS ho hu (by simp))
 clear hcell;go_enter func138,ntmps138
 go_wp2_with (first
  |(go_at_call 36;(with_reducible refine ha.mono ?_);rintro e u1 ⟨rfl,hb⟩;have aO:=hid hb;clear hb ha)
  |(go_at_call 179;(with_reducible refine(O8.out _ aO.out).mono ?_);rintro e u2 ⟨y2,rfl,ho,hb⟩;have bJ:=hid (HB.out.trans ((aO.out.trans (hb.mono aO.out.size)).mono HB.out.size));have oY:=hid (Own.lower ho (Nat.le_trans HB.out.size aO.out.size));clear ho hb O8)
  |(go_at_call 181;(with_reducible refine(uR.out _ _ oY.out bJ.out.size).mono ?_);rintro e u3 ⟨rfl,⟨p3,d3,rfl,-⟩,hb⟩;have cH:=hid (bJ.out.trans hb);clear hb uR))
 go_ret;exact⟨_,_,rfl,cH.out⟩
end Zu
end Go.Proofs.YtbgdlokegibkmaaGreat
