/-
  A part of the proof of VisitPlays.
-/
import Derived.Test.YtbgdlokegibkmaaGreatMpBj
set_option maxRecDepth 100000
set_option maxHeartbeats 4000000
namespace Go.Proofs.YtbgdlokegibkmaaGreat
open Go.RowKit
open Tryz
open Lib (hid)
namespace Zv
open Zx (Rw Tb aq ak af)
theorem ki:(prog.info? 80).map (·.size)=some 4:=by kernel_rfl
theorem LC (p:Option Addr)(n c i k:Nat)(rk ra rm:Int)(pr:Option Addr)(nr cr:Nat)(w:World)(CA CB:List Value)(hn:n<=1000)
 (b9:(i<n/\k=i+1/\∀u,Below w.heap.size w u->Calls prog 189 #[.slice p n (c+n),.int .i64 rk] u fun e u'=>e=.returned (.int .i64 (i:Int))/\u'=u)∨
   (i<=n/\k=i/\(∀u,Below w.heap.size w u->Calls prog 189 #[.slice p n (c+n),.int .i64 rk] u fun e u'=>e=.returned (.int .i64 (n:Int))/\u'=u)/\∀u,Below w.heap.size w u->Calls prog 193 #[.slice p n (c+n),.int .i64 rk] u fun e u'=>e=.returned (.int .i64 (i:Int))/\Below u.heap.size u u'))
 (hA:rA w p CA) (lA:CA.length=i*4) (oA:∀v∈CA,v.oneCell'=true) (hB:CB=[]∨∃b o,p=some ⟨b,o,none⟩/\w.rangeAt b (o+k*4) CB) (lB:CB.length=(n-k)*4) (oB:∀v∈CB,v.oneCell'=true) :
 Calls prog 156 #[.slice p n (c+n),.agg #[.int .i64 rk,.int .i64 ra,.int .i64 rm,.slice pr nr (cr+nr)]] w fun e w'=>∃g N,e=.returned (.slice (some ⟨g,0,none⟩) N N)/\N=i+1+(n-k)/\w.heap.size<=g/\w'.rangeAt g 0 (CA++([.int .i64 rk,.int .i64 ra,.int .i64 rm,.slice pr nr (cr+nr)]++CB))/\Below w.heap.size w w':=by
 obtain⟨i0,hi,hz0,hz1,hz2⟩:=info_parts Ms;have M0:=hid ((Mem.start w).box #[.int .i64 rk,.int .i64 ra,.int .i64 rm,.slice pr nr (cr+nr)] 80);obtain⟨r0,r1,r2,r3,-⟩:=dG (M0.out.boxes 0 _ _ _ rfl);have S1:=fun u=>Dz prog 26 80 4 underlying26 ki p n (c+n) i (by omega) u
 rcases b9 with ⟨Bp,rfl,hat⟩ | ⟨Bp,rfl,hat,hab⟩
 ·obtain ⟨q3,S3,Q3⟩:=lM prog 26 80 4 underlying26 ki p n (c+n) (i+1) ((i:Int)+1) (by omega) (by omega) (by omega)
  have XJ:(i:Int)<(n:Int):=by omega
  have hne:((i:Int)==(n:Int))=false:=by simp;omega
  have HS:Hid (∀g,∃q2,(∀w,(Instr.slice 26 (.slice (some ⟨g,0,none⟩) n n) (some (.int .i64 ((i:Int)+1))) none none).run prog w=.ok (.slice q2 (n-(i+1)) (n-(i+1))) w)/\(n-(i+1)=0∨q2=(some (⟨g,0,none⟩:Addr)).map (·.add ((i+1)*4)))):=fun g =>
   lM prog 26 80 4 underlying26 ki (some ⟨g,0,none⟩) n n (i+1) ((i:Int)+1) (by omega) (by omega) (by omega)
  have qE:CA.length=Nat.min i n*4:=by rw[lA];congr 1;exact(Nat.min_eq_left (by omega)).symm
  have jJ:CB.length=Nat.min (n-(i+1)) (n-(i+1))*4:=by rw[lB];congr 1;exact(Nat.min_self _).symm
  have QO:=fun u (hb:Below w.heap.size w u)=>hA.on hb
  have Vi:Hid (∀u,Below w.heap.size w u->rA u q3 CB):=fun u hb=>by
   rcases hB with hB | ⟨b,o,rfl,hB⟩
   ·exact .inl hB
   ·rcases Q3 with h | rfl
    ·exact .inl (List.eq_nil_of_length_eq_zero (by omega))
    ·exact .inr ⟨b,o+(i+1)*4,by simp[Addr.add_mid],nV hB hb⟩
  have Ro:Hid (∀g q2,(n-(i+1)=0∨q2=(some (⟨g,0,none⟩:Addr)).map (·.add ((i+1)*4)))->CB=[]∨q2=some ⟨g,(i+1)*4,none⟩):=fun g q2 h=>by
   rcases h with h | rfl
   ·exact .inl (List.eq_nil_of_length_eq_zero (by omega))
   ·exact .inr (by simp[Addr.add_mid])
  have Ax:i*4+[Value.int .i64 rk,.int .i64 ra,.int .i64 rm,.slice pr nr (cr+nr)].length<=n*4:=by simp;omega
  have hi4:(prog.info? 80).map (·.size)=some [Value.int .i64 rk,.int .i64 ra,.int .i64 rm,.slice pr nr (cr+nr)].length:=ki
  have oX:∀v∈[Value.int .i64 rk,.int .i64 ra,.int .i64 rm,.slice pr nr (cr+nr)],v.oneCell'=true:=by
   intro v hv;simp at hv;rcases hv with rfl | rfl | rfl | rfl <;>rfl
  clear hB Q3 hA;go_enter func156,ntmps156
  go_wp2_with (first
   |(go_at_call 189;(with_reducible refine(hat _ M0.out.below).mono ?_);rintro e u ⟨rfl,rfl⟩)
   |(at_make;refine iC rfl (.tmp 29) (.tmp 29) 26 rfl 80 i0 (.agg #[.int .i64 0,.int .i64 0,.int .i64 0,.slice none 0 0]) 4 underlying26 hi hz0 hz1 .i64 .i64 _ _ n rfl rfl (by omega) (by omega) (by rw[hz2];omega) (by omega) ?_;intro w1 b1 s1 t1;obtain⟨q2,S2,Q2⟩:=HS.out (w.heap.size+1);have F1:=hid (rD.mk (X:=[]) t1 (fun j v hv=>by simp at hv) b1 (Nat.le_refl _));rw[size_alloc] at F1;clear t1 b1 s1)
   |((with_reducible refine iB (o:=⟨some 35,_,_,_,_,_⟩) rfl (.tmp 31) (.tmp 34) 26 26 rfl 80 4 underlying26 ki (some ⟨w.heap.size+1,0,none⟩) p n n i (c+n) rfl rfl (w.heap.size+1) 0 CA qE (QO _ (M0.out.below.trans (F1.out.below.mono (by simp)))) (.inr rfl) (F1.out.sub 0 _ (by omega)) oA ?_);intro w2 e2;have F2:=hid (F1.out.step e2.out rfl (by omega));clear r0 r1 r2 r3 F1 e2;obtain⟨r0,r1,r2,r3,-⟩:=dG ((M0.out.on F2.out.below).boxes 0 _ _ _ rfl);obtain⟨z0,y0,f0⟩:=F2.out.cell (o:=i*4) (by omega);obtain⟨z1,y1,f1⟩:=F2.out.cell (o:=i*4+1) (by omega);obtain⟨z2,y2,f2⟩:=F2.out.cell (o:=i*4+2) (by omega);obtain⟨z3,y3,f3⟩:=F2.out.cell (o:=i*4+3) (by omega)))
  have F3:=F2.out.step (u':=(((w2.setCell ⟨w.heap.size+1,i*4,none⟩ (.int .i64 rk)).setCell ⟨w.heap.size+1,i*4+1,none⟩ (.int .i64 ra)).setCell ⟨w.heap.size+1,i*4+2,none⟩ (.int .i64 rm)).setCell ⟨w.heap.size+1,i*4+3,none⟩ (.slice pr nr (cr+nr))) (cs:=[.int .i64 rk,.int .i64 ra,.int .i64 rm,.slice pr nr (cr+nr)]) rfl lA Ax;generalize(((w2.setCell ⟨w.heap.size+1,i*4,none⟩ (.int .i64 rk)).setCell ⟨w.heap.size+1,i*4+1,none⟩ (.int .i64 ra)).setCell ⟨w.heap.size+1,i*4+2,none⟩ (.int .i64 rm)).setCell ⟨w.heap.size+1,i*4+3,none⟩ (.slice pr nr (cr+nr))=w3 at *;have I0:=Vi.out w3 (M0.out.below.trans (F3.below.mono (by simp)))
  have SC:=Ro.out _ _ Q2;have mN:(i+1)*4+CB.length<=n*4:=by rw[lB];omega
  have N3:=F3.sub ((i+1)*4) CB.length mN;have OQ:=hid F3;clear F3 F2 y0 y1 y2 y3 f0 f1 f2 f3 r0 r1 r2 r3 Vi Ro Q2 HS S1 QO qE;have e1:IntKind.i64.wrap ((i:Int)+1)=(i:Int)+1:=IntWalk.i64_in _ (by omega)
  go_region_law (refine jw rfl (.tmp 43) (.tmp 46) 26 26 rfl 80 4 underlying26 ki q2 q3 (n-(i+1)) (n-(i+1)) (n-(i+1)) (c+n-(i+1)) (by simp[Act.eval,Act.put]) (by simp[Act.eval,Act.put]) (w.heap.size+1) ((i+1)*4) CB jJ (wV rfl I0) SC (qj rfl N3) oB ?_;intro w4 e4)
  all_goals
   have F4:=hid ((OQ.out.same (Below.refl _ _).drew).step e4.out (by simp[lA];omega) mN)
   clear e4 S2 S3 e1 I0 SC N3;go_wp2;go_ret;exact⟨w.heap.size+1,n,rfl,by omega,by omega,(by have h:=F4.out.has;rw[List.append_assoc] at h;exact h),M0.out.below.trans (F4.out.below.mono (by simp))⟩
 ·obtain ⟨q3,S3,Q3⟩:=lM prog 26 80 4 underlying26 ki p n (c+n) k (k:Int) (by omega) (by omega) (by omega)
  have XJ:(k:Int)<=(n:Int):=by omega
  have HS:Hid (∀g,∃q2,(∀w,(Instr.slice 26 (.slice (some ⟨g,0,none⟩) (n+1) (n+1)) (some (.int .i64 ((k:Int)+1))) none none).run prog w=.ok (.slice q2 (n+1-(k+1)) (n+1-(k+1))) w)/\(n+1-(k+1)=0∨q2=(some (⟨g,0,none⟩:Addr)).map (·.add ((k+1)*4)))):=fun g =>
   lM prog 26 80 4 underlying26 ki (some ⟨g,0,none⟩) (n+1) (n+1) (k+1) ((k:Int)+1) (by omega) (by omega) (by omega)
  have qE:CA.length=Nat.min k (n+1)*4:=by rw[lA];congr 1;exact(Nat.min_eq_left (by omega)).symm
  have jJ:CB.length=Nat.min (n-k) (n+1-(k+1))*4:=by rw[lB];congr 1;exact(Nat.min_eq_left (by omega)).symm
  have QO:=fun u (hb:Below w.heap.size w u)=>hA.on hb
  have Vi:Hid (∀u,Below w.heap.size w u->rA u q3 CB):=fun u hb=>by
   rcases hB with hB | ⟨b,o,rfl,hB⟩
   ·exact .inl hB
   ·rcases Q3 with h | rfl
    ·exact .inl (List.eq_nil_of_length_eq_zero (by omega))
    ·exact .inr ⟨b,o+k*4,by simp[Addr.add_mid],nV hB hb⟩
  have Ro:Hid (∀g q2,(n+1-(k+1)=0∨q2=(some (⟨g,0,none⟩:Addr)).map (·.add ((k+1)*4)))->CB=[]∨q2=some ⟨g,(k+1)*4,none⟩):=fun g q2 h=>by
   rcases h with h | rfl
   ·exact .inl (List.eq_nil_of_length_eq_zero (by omega))
   ·exact .inr (by simp[Addr.add_mid])
  have Ax:k*4+[Value.int .i64 rk,.int .i64 ra,.int .i64 rm,.slice pr nr (cr+nr)].length<=(n+1)*4:=by simp;omega
  have hi4:(prog.info? 80).map (·.size)=some [Value.int .i64 rk,.int .i64 ra,.int .i64 rm,.slice pr nr (cr+nr)].length:=ki
  have oX:∀v∈[Value.int .i64 rk,.int .i64 ra,.int .i64 rm,.slice pr nr (cr+nr)],v.oneCell'=true:=by
   intro v hv;simp at hv;rcases hv with rfl | rfl | rfl | rfl <;>rfl
  clear hB Q3 hA;go_enter func156,ntmps156
  go_wp2_with (first
   |(go_at_call 189;(with_reducible refine(hat _ M0.out.below).mono ?_);rintro e u ⟨rfl,rfl⟩)
   |(go_at_call 193;(with_reducible refine(hab _ M0.out.below).mono ?_);rintro e u1 ⟨rfl,hb1⟩;have M1:=hid (M0.out.on hb1);obtain⟨r0,r1,r2,r3,-⟩:=dG (M1.out.boxes 0 _ _ _ rfl);clear hb1)
   |(at_make;refine iC rfl (.tmp 29) (.tmp 29) 26 rfl 80 i0 (.agg #[.int .i64 0,.int .i64 0,.int .i64 0,.slice none 0 0]) 4 underlying26 hi hz0 hz1 .i64 .i64 _ _ (n+1) rfl rfl (by omega) (by omega) (by rw[hz2];omega) (by omega) ?_;intro w1 b1 s1 t1;obtain⟨q2,S2,Q2⟩:=HS.out u1.heap.size;have F1:=hid (rD.mk (X:=[]) t1 (fun j v hv=>by simp at hv) b1 (Nat.le_refl _));clear t1 b1 s1)
   |((with_reducible refine iB (o:=⟨some 35,_,_,_,_,_⟩) rfl (.tmp 31) (.tmp 34) 26 26 rfl 80 4 underlying26 ki (some ⟨u1.heap.size,0,none⟩) p (n+1) (n+1) k (c+n) rfl rfl u1.heap.size 0 CA qE (QO _ (M1.out.below.trans (F1.out.below.mono M1.out.below.size))) (.inr rfl) (F1.out.sub 0 _ (by omega)) oA ?_);intro w2 e2;have F2:=hid (F1.out.step e2.out rfl (by omega));clear r0 r1 r2 r3 F1 e2;obtain⟨r0,r1,r2,r3,-⟩:=dG ((M1.out.on F2.out.below).boxes 0 _ _ _ rfl);obtain⟨z0,y0,f0⟩:=F2.out.cell (o:=k*4) (by omega);obtain⟨z1,y1,f1⟩:=F2.out.cell (o:=k*4+1) (by omega);obtain⟨z2,y2,f2⟩:=F2.out.cell (o:=k*4+2) (by omega);obtain⟨z3,y3,f3⟩:=F2.out.cell (o:=k*4+3) (by omega)))
  have F3:=F2.out.step (u':=(((w2.setCell ⟨u1.heap.size,k*4,none⟩ (.int .i64 rk)).setCell ⟨u1.heap.size,k*4+1,none⟩ (.int .i64 ra)).setCell ⟨u1.heap.size,k*4+2,none⟩ (.int .i64 rm)).setCell ⟨u1.heap.size,k*4+3,none⟩ (.slice pr nr (cr+nr))) (cs:=[.int .i64 rk,.int .i64 ra,.int .i64 rm,.slice pr nr (cr+nr)]) rfl lA Ax;generalize(((w2.setCell ⟨u1.heap.size,k*4,none⟩ (.int .i64 rk)).setCell ⟨u1.heap.size,k*4+1,none⟩ (.int .i64 ra)).setCell ⟨u1.heap.size,k*4+2,none⟩ (.int .i64 rm)).setCell ⟨u1.heap.size,k*4+3,none⟩ (.slice pr nr (cr+nr))=w3 at *;have I0:=Vi.out w3 (M1.out.below.trans (F3.below.mono M1.out.below.size));have SC:=Ro.out _ _ Q2;have mN:(k+1)*4+CB.length<=(n+1)*4:=by rw[lB];omega
  have N3:=F3.sub ((k+1)*4) CB.length mN;have OQ:=hid F3;clear F3 F2 y0 y1 y2 y3 f0 f1 f2 f3 r0 r1 r2 r3 Vi Ro Q2 HS S1 QO qE;have e1:IntKind.i64.wrap ((k:Int)+1)=(k:Int)+1:=IntWalk.i64_in _ (by omega)
  go_region_law (refine jw rfl (.tmp 43) (.tmp 46) 26 26 rfl 80 4 underlying26 ki q2 q3 (n+1-(k+1)) (n+1-(k+1)) (n-k) (c+n-k) (by simp[Act.eval,Act.put]) (by simp[Act.eval,Act.put]) u1.heap.size ((k+1)*4) CB jJ (wV rfl I0) SC (qj rfl N3) oB ?_;intro w4 e4)
  all_goals
   have F4:=hid ((OQ.out.same (Below.refl _ _).drew).step e4.out (by simp[lA];omega) mN)
   clear e4 S2 S3 e1 I0 SC N3;go_wp2;go_ret;exact⟨u1.heap.size,n+1,rfl,by omega,M1.out.below.size,(by have h:=F4.out.has;rw[List.append_assoc] at h;exact h),M1.out.below.trans (F4.out.below.mono M1.out.below.size)⟩
theorem DL (x:Rp)(m:List Rp):bp (x :: m)=[.int .i64 x.1.key,.int .i64 x.1.ay,.int .i64 x.1.mark,.slice x.2.1 x.1.out.length (x.2.2+x.1.out.length)]++bp m:=by simp[bp]
theorem OS (m:List Rp)(p:Option Addr)(c:Nat)(x:Rp)(w:World)(hn:m.length<=1000)(h:ar w p (m.map (·.1)))(hm:rA w p (bp m))(hu:Up (m.map (·.1))) :
 Calls prog 156 #[.slice p m.length (c+m.length),.agg #[.int .i64 x.1.key,.int .i64 x.1.ay,.int .i64 x.1.mark,.slice x.2.1 x.1.out.length (x.2.2+x.1.out.length)]] w fun e w'=>∃g n M,e=.returned (.slice (some ⟨g,0,none⟩) n n)/\M.length=n/\M.map (·.1)=dr (m.map (·.1)) x.1/\(∀y∈M,y=x∨y∈m)/\w.heap.size<=g/\w'.rangeAt g 0 (bp M)/\Below w.heap.size w w':=by
 have aT:(m.map (·.1)).length=m.length:=by simp
 have hat:=fun u (hb:Below w.heap.size w u)=>AX (m.map (·.1)) p (c+m.length) x.1.key u (h.below hb) (by rw[aT];exact hn)
 have hab:=fun u (hb:Below w.heap.size w u)=>Lu (m.map (·.1)) p (c+m.length) x.1.key u (h.below hb) (by rw[aT];exact hn)
 rw[aT] at hat hab;have key:∀(i k:Nat),i<=k->k<=m.length->(k=i+1/\i<m.length∨k=i)->GX (m.map (·.1)) x.1.key=(if k=i then m.length else i)->(k=i->gt (m.map (·.1)) x.1.key=i) ->
  dr (m.map (·.1)) x.1=(m.take i++x :: m.drop k).map (·.1) ->
  Calls prog 156 #[.slice p m.length (c+m.length),.agg #[.int .i64 x.1.key,.int .i64 x.1.ay,.int .i64 x.1.mark,.slice x.2.1 x.1.out.length (x.2.2+x.1.out.length)]] w fun e w'=>∃g n M,e=.returned (.slice (some ⟨g,0,none⟩) n n)/\M.length=n/\M.map (·.1)=dr (m.map (·.1)) x.1/\(∀y∈M,y=x∨y∈m)/\w.heap.size<=g/\w'.rangeAt g 0 (bp M)/\Below w.heap.size w w':=by
  intro i k hik hk UE hp hg hs;have e1:m=m.take i++m.drop i:=(List.take_append_drop i m).symm;have e2:m=m.take k++m.drop k:=(List.take_append_drop k m).symm;have lA:(bp (m.take i)).length=i*4:=by rw[gQ,List.length_take,Nat.min_eq_left (by omega)]
  have lK:(bp (m.take k)).length=k*4:=by rw[gQ,List.length_take,Nat.min_eq_left (by omega)]
  have lB:(bp (m.drop k)).length=(m.length-k)*4:=by rw[gQ,List.length_drop]
  have hA:rA w p (bp (m.take i)):=by
   rw[e1,lh] at hm;exact hm.left
  have hB:bp (m.drop k)=[]∨∃b o,p=some ⟨b,o,none⟩/\w.rangeAt b (o+k*4) (bp (m.drop k)):=by
   rw[e2,lh] at hm;rcases hm with hm | ⟨b,o,e,hm⟩
   ·exact .inl (List.append_eq_nil_iff.1 hm).2
   ·refine .inr ⟨b,o,e,?_⟩
    have:=(jI.1 hm).2;rwa [lK] at this
  refine(LC p m.length c i k x.1.key x.1.ay x.1.mark x.2.1 x.1.out.length x.2.2 w _ _ hn ?_ hA lA (vA _) hB lB (vA _)).mono ?_
  ·rcases UE with ⟨UE,aC⟩ | UE
   ·refine .inl ⟨aC,UE,fun u hb=> ?_⟩
    have:=hat u hb;rwa [hp,if_neg (by omega)] at this
   ·refine .inr ⟨by omega,UE,fun u hb=> ?_,fun u hb=> ?_⟩
    ·have:=hat u hb
     rwa [hp,if_pos UE] at this
    ·have:=hab u hb
     rwa [hg UE] at this
  ·rintro e w' ⟨g,N,rfl,hN,hg,hr,hb⟩
   refine⟨g,N,m.take i++x :: m.drop k,rfl,?_,hs.symm,?_,hg,?_,hb⟩
   ·rw [List.length_append,List.length_cons,List.length_take,List.length_drop,Nat.min_eq_left (by omega)]
    omega
   ·intro y hy
    rcases List.mem_append.1 hy with hy | hy
    ·exact .inr (List.mem_of_mem_take hy)
    ·rcases List.mem_cons.1 hy with hy | hy
     ·exact .inl hy
     ·exact .inr (List.mem_of_mem_drop hy)
   ·rw [lh,DL]
    exact hr
 have up:=List.pairwise_iff_getElem.1 hu;have getD:∀j (hj:j<m.length),(m.map (·.1)).getD j aq=m[j].1:=fun j hj=>by simp[List.getD,hj]
 have lt:∀i j (og:i<j) (hj:j<m.length),(m[i]'(by omega)).1.key<m[j].1.key:=fun i j og hj=>by
  have:=up i j (by simp;omega) (by simpa using hj) og
  simpa using this
 rcases oP (m.map (·.1)) x.1.key with ⟨-,hp,hne⟩ | ⟨j,-,hp,hj,hk⟩
 ·have Mb:gt (m.map (·.1)) x.1.key<=m.length/\(∀i (hi:i<m.length),i<gt (m.map (·.1)) x.1.key->m[i].1.key<x.1.key)/\(∀i (hi:i<m.length),gt (m.map (·.1)) x.1.key<=i->x.1.key<m[i].1.key):=by
   rcases bA (fun r:Rw=>decide (x.1.key<r.key)) aq (m.map (·.1)) with ⟨h1,h2⟩ | ⟨j,h1,h2,h3,h4⟩
   ·have e:gt (m.map (·.1)) x.1.key=m.length:=by unfold gt;rw[h1,if_pos (by omega),aT]
    rw[e];refine⟨Nat.le_refl _,fun i hi _=> ?_,fun i hi h=>by omega⟩
    have h5:=h2 i (by rw[aT];exact hi)
    have h6:=hne i (by rw[aT];exact hi)
    rw[getD i hi] at h5 h6;simp only[decide_eq_false_iff_not] at h5;omega
   ·have e:gt (m.map (·.1)) x.1.key=j:=by unfold gt;rw[h1,if_neg (by omega),Int.toNat_natCast]
    rw[aT] at h2;rw[e];rw[getD j h2] at h3;simp only[decide_eq_true_eq] at h3;refine⟨by omega,fun i hi og=> ?_,fun i hi og=> ?_⟩
    ·have h5:=h4 i og
     have h6:=hne i (by rw[aT];exact hi)
     rw[getD i hi] at h5 h6;simp only[decide_eq_false_iff_not] at h5;omega
    ·by_cases e:i=j
     ·subst e;exact h3
     ·have:=lt j i (by omega) hi
      omega
  generalize JO:gt (m.map (·.1)) x.1.key=i at *
  obtain⟨g1,g2,g3⟩:=Mb;refine key i i (Nat.le_refl _) g1 (.inr rfl) (by rw[hp,if_pos rfl,aT]) (fun _=>rfl) ?_
  have e1:m.map (·.1)=(m.take i).map (·.1)++(m.drop i).map (·.1):=by rw[<-List.map_append,List.take_append_drop]
  rw[e1,List.map_append,List.map_cons];refine tQ (fun y hy=> ?_) (fun y hy=> ?_)
  ·obtain ⟨z,hz,rfl⟩:=List.mem_map.1 hy
   obtain⟨q,hq,rfl⟩:=List.mem_iff_getElem.1 hz;simp only[List.length_take] at hq;rw[List.getElem_take];exact g2 q (by omega) (by omega)
  ·obtain ⟨z,hz,rfl⟩:=List.mem_map.1 hy
   obtain⟨q,hq,rfl⟩:=List.mem_iff_getElem.1 hz;simp only[List.length_drop] at hq;rw[List.getElem_drop];exact g3 (i+q) (by omega) (by omega)
 ·rw [aT] at hj
  rw[getD j hj] at hk;refine key j (j+1) (by omega) (by omega) (.inl ⟨rfl,hj⟩) (by rw[hp,if_neg (by omega)]) (fun h=>by omega) ?_
  have e1:m.map (·.1)=(m.take j).map (·.1)++m[j].1 :: (m.drop (j+1)).map (·.1):=by rw[<-List.map_cons,<-List.drop_eq_getElem_cons hj,<-List.map_append,List.take_append_drop]
  rw[e1,List.map_append,List.map_cons];refine pS (fun y hy=> ?_) hk (fun y hy=> ?_)
  ·obtain ⟨z,hz,rfl⟩:=List.mem_map.1 hy
   obtain⟨q,hq,rfl⟩:=List.mem_iff_getElem.1 hz;simp only[List.length_take] at hq;rw[List.getElem_take];have:=lt q j (by omega) hj
   omega
  ·obtain ⟨z,hz,rfl⟩:=List.mem_map.1 hy
   obtain⟨q,hq,rfl⟩:=List.mem_iff_getElem.1 hz;simp only[List.length_drop] at hq;rw[List.getElem_drop];have:=lt j (j+1+q) (by omega) (by omega)
   omega
open Zq (aI cO ae aj ai)
theorem bq.to {S S':Nat->Prop}{w w':World}{p:Option Addr}{l:List (Int×Int)}(h:bq S w p l)(hb:Below w.heap.size w w')(hS:∀b,S b->S' b):bq S' w' p l:=h.on (fun b hb _=>hS b hb) fun b _ aC=>hb.block b aC
def AY (w:World)(p:Option Addr)(L0 L:List Rw)(u:World)(q:Option Addr):Prop:=ar u q L/\∀S,cz S w p L0->cz (fun b=>S b∨w.heap.size<=b) u q L
theorem tu (w:World)(p:Option Addr)(L0 L:List Rw):J8 (AY w p L0 L):=NN L (fun S=>cz S w p L0) (fun S b=>S b∨w.heap.size<=b)
theorem qo (w:World)(p:Option Addr)(L0:List Rw)(m:List Rp)(pm:Option Addr)(c:Nat)(x:Rp)(u:World)(hu:Below w.heap.size w u)(hn:m.length<=1000)(hm:rA u pm (bp m))(sg:∀y∈m,ak u y.2.1 y.1.out)(OT:∀S,cz S w p L0->∀y∈m,bq (fun b=>S b∨w.heap.size<=b) u y.2.1 y.1.out)
 (hx:ak u x.2.1 x.1.out) (Vw:∀S,cz S w p L0->bq (fun b=>S b∨w.heap.size<=b) u x.2.1 x.1.out) (SD:Up (m.map (·.1))) :
 Calls prog 156 #[.slice pm m.length (c+m.length),DI x] u fun e u'=>∃p' n' c',e=.returned (.slice p' n' (c'+n'))/\n'=(dr (m.map (·.1)) x.1).length/\AY w p L0 (dr (m.map (·.1)) x.1) u' p'/\Below u.heap.size u u':=by
 refine(OS m pm c x u hn (tq hm sg) hm SD).mono ?_;rintro e u' ⟨g,n,M,rfl,hMn,hM,Bp,hg,hr,hb⟩;refine⟨some ⟨g,0,none⟩,n,0,by rw[Nat.zero_add],by rw[<-hM,List.length_map,hMn],⟨?_,fun S hS=> ?_⟩,hb⟩
 ·rw [<-hM]
  refine tq (.inr ⟨g,0,rfl,hr⟩) fun y hy=> ?_
  rcases Bp y hy with rfl | hy
  ·exact hx.below hb
  ·exact (sg y hy).below hb
 ·rw [<-hM]
  refine Dy hr (.inr (Nat.le_trans hu.size hg)) fun y hy=> ?_
  rcases Bp y hy with rfl | hy
  ·exact (Vw S hS).to hb fun b h=>h
  ·exact (OT S hS y hy).to hb fun b h=>h
theorem cE {u:World}{b o g:Nat}{v0 v1 z:Value}(hne:b≠g)(h:u.cell? ⟨b,o,none⟩=some z):((u.setCell ⟨g,0,none⟩ v0).setCell ⟨g,1,none⟩ v1).cell? ⟨b,o,none⟩=some z:=by
 rw[World.cell?_setCell_other _ _ _ _ (by intro e;simp only[Addr.mk.injEq] at e;exact hne e.1.symm),World.cell?_setCell_other _ _ _ _ (by intro e;simp only[Addr.mk.injEq] at e;exact hne e.1.symm)]
 exact h
theorem G6 (start key now:Int)(p:Option Addr)(nm c:Nat)(n sk tl va lo he ke qu:Int)(pf:Option Addr)(nz cf:Nat)(w:World)(R B:Int)(q:Bool)(rk ra rm:Int)(px:Option Addr)(nx cx:Nat)(Mk:Nat)(X:World->Option Addr->Prop)(hX:J8 X)(NT ns:Nat)(er:Int)(hnm:nm<=1000)(_:ns<=1000)
 (dF:∀u,Below w.heap.size w u->Calls prog 83 #[.agg #[.int .i64 n,.int .i64 sk,.int .i64 tl,.int .i64 va,.int .i64 lo,.int .i64 he,.int .i64 ke,.int .i64 qu,.slice pf nz cf],.int .i64 key] u fun e u'=>e=.returned (.tuple #[.agg #[.int .i64 R,.int .i64 B],.bool q])/\Below u.heap.size u u')
 (jA:∀u,Below w.heap.size w u->Calls prog 188 #[.agg #[.int .i64 start,.slice p nm (c+nm)],.int .i64 key,.int .i64 now,.agg #[.int .i64 R,.int .i64 B]] u fun e u'=>e=.returned (.agg #[.int .i64 rk,.int .i64 ra,.int .i64 rm,.slice px nx (cx+nx)])/\Below u.heap.size u u')
 (hat:∀u,Below w.heap.size w u->Calls prog 189 #[.slice p nm (c+nm),.int .i64 key] u fun e u'=>e=.returned (.int .i64 (Mk:Int))/\u'=u) (Rt:Mk<=nm)
 (zx:q=true->Mk=nm->ke<=nm->∀u,Below w.heap.size w u->Calls prog 190 #[.agg #[.int .i64 start,.slice p nm (c+nm)],.int .i64 now,.agg #[.int .i64 n,.int .i64 sk,.int .i64 tl,.int .i64 va,.int .i64 lo,.int .i64 he,.int .i64 ke,.int .i64 qu,.slice pf nz cf]] u fun e u'=>∃p' c',e=.returned (.slice p' ns (c'+ns))/\(ns<ke->∀v,Below u'.heap.size u' v->Calls prog 156 #[.slice p' ns (c'+ns),.agg #[.int .i64 rk,.int .i64 ra,.int .i64 rm,.slice px nx (cx+nx)]] v fun e v'=>∃p' c',e=.returned (.slice p' NT (c'+NT))/\X v' p'/\Below v.heap.size v v')/\Below u.heap.size u u')
 (DM:q=true->(Mk<nm∨(nm:Int)<ke)->∀u,Below w.heap.size w u->Calls prog 156 #[.slice p nm (c+nm),.agg #[.int .i64 rk,.int .i64 ra,.int .i64 rm,.slice px nx (cx+nx)]] u fun e u'=>∃p' c',e=.returned (.slice p' NT (c'+NT))/\X u' p'/\Below u.heap.size u u')
 (kj:(q=false∨q=true/\Mk=nm/\ke<=nm/\ke<=ns)->NT=nm/\X w p)
 (her:(q=false/\er=4)∨(q=true/\(Mk<nm∨(nm:Int)<ke)/\er=0)∨(q=true/\Mk=nm/\ke<=nm/\ke<=ns/\er=3)∨(q=true/\Mk=nm/\ke<=nm/\(ns:Int)<ke/\er=0)) :
 Calls prog 150 #[.agg #[.int .i64 start,.slice p nm (c+nm)],.int .i64 key,.int .i64 now,.agg #[.int .i64 n,.int .i64 sk,.int .i64 tl,.int .i64 va,.int .i64 lo,.int .i64 he,.int .i64 ke,.int .i64 qu,.slice pf nz cf]] w fun e w'=>∃p' c',e=.returned (.tuple #[.agg #[.int .i64 start,.slice p' NT (c'+NT)],.int .i64 er])/\X w' p'/\Below w.heap.size w w':=by
 have M0:=hid ((((Mem.start w).box #[.int .i64 start,.slice p nm (c+nm)] 28).box #[.int .i64 n,.int .i64 sk,.int .i64 tl,.int .i64 va,.int .i64 lo,.int .i64 he,.int .i64 ke,.int .i64 qu,.slice pf nz cf] 24).box #[.int .i64 0,.slice none 0 0] 28);simp only[size_alloc] at M0;have hr1:=dF _ M0.out.below;obtain⟨t0,t1,-⟩:=eB (M0.out.boxes 2 _ _ _ rfl);obtain⟨c0,c1,c2,c3,c4,c5,c6,c7,c8⟩:=aG (M0.out.boxes 1 _ _ _ rfl);clear dF;rcases her with ⟨rfl,rfl⟩ | ⟨rfl,hk,rfl⟩ | ⟨rfl,xj,hk2,hk3,rfl⟩ | ⟨rfl,xj,hk2,hk3,rfl⟩
 ·obtain ⟨rfl,hx⟩:=kj (.inl rfl)
  have HX:=hid hx;clear kj hx DM zx hat jA;go_enter func150,ntmps150
  go_wp2_with (go_at_call 83;(with_reducible refine hr1.mono ?_);rintro e u1 ⟨rfl,hb⟩;have M1:=hid ((M0.out.on hb).box #[.int .i64 R,.int .i64 B] 77);clear hb t0 t1 c0 c1 c2 c3 c4 c5 c6 c7 c8 hr1;obtain⟨t0,t1,-⟩:=eB (M1.out.boxes 3 _ _ _ rfl);obtain⟨d0,d1,ff⟩:=eB (M1.out.boxes 1 _ _ _ rfl);have f0:=ff 0;have f1:=ff 1;clear ff)
  refine bodyPost_ret (v:=.tuple #[.agg #[.int .i64 start,.slice p NT (c+NT)],.int .i64 4]) (by simp[results,results150,go_sem,d0,d1]) rfl ?_
  exact fR hX _ (by omega) (M1.out.boxes 1 _ _ _ rfl) (hX.on HX.out M1.out.below) M1.out.below (fun v=>.tuple #[v,.int .i64 4])
 ·have hw:=DM rfl hk
  clear kj DM zx;go_enter func150,ntmps150
  go_wp2_with (first
   |(go_at_call 83;(with_reducible refine hr1.mono ?_);rintro e u1 ⟨rfl,hb⟩;have M1:=hid ((M0.out.on hb).box #[.int .i64 R,.int .i64 B] 77);clear hb t0 t1 c0 c1 c2 c3 c4 c5 c6 c7 c8 hr1;obtain⟨t0,t1,-⟩:=eB (M1.out.boxes 3 _ _ _ rfl);obtain⟨z0,z1,-⟩:=eB (M1.out.boxes 0 _ _ _ rfl))
   |(go_at_call 188;(with_reducible refine(jA _ M1.out.below).mono ?_);rintro e u2 ⟨rfl,hb⟩;have aC:=ae ((M1.out.on hb).boxes 1 _ _ _ rfl);have M2:=hid ((M1.out.on hb).box #[.int .i64 rk,.int .i64 ra,.int .i64 rm,.slice px nx (cx+nx)] 80);clear hb t0 t1 z0 z1 jA;obtain⟨t0,t1,-⟩:=eB (M2.out.boxes 4 _ _ _ rfl);obtain⟨c0,c1,c2,c3,c4,c5,c6,c7,c8⟩:=aG (M2.out.boxes 3 _ _ _ rfl);obtain⟨r0,r1,r2,r3,-⟩:=dG (M2.out.boxes 0 _ _ _ rfl))
   |(go_at_call 189;(with_reducible refine(hat _ M2.out.below).mono ?_);rintro e u3 ⟨rfl,rfl⟩))
  all_goals
   have MD:=hid M2.out.drew;go_region_held3 (fun u=>u.cell? ⟨w.heap.size,0,none⟩=some (.int .i64 start)/\u.cell? ⟨u2.heap.size,0,none⟩=some (.int .i64 rk)/\u.cell? ⟨u2.heap.size,1,none⟩=some (.int .i64 ra)/\u.cell? ⟨u2.heap.size,2,none⟩=some (.int .i64 rm)/\u.cell? ⟨u2.heap.size,3,none⟩=some (.slice px nx (cx+nx))) (first | assumption | exact SN.out | exact⟨t0,r0,r1,r2,r3⟩ | exact⟨cE (by omega) SN.out.1,cE (by omega) SN.out.2.1,cE (by omega) SN.out.2.2.1,cE (by omega) SN.out.2.2.2.1,cE (by omega) SN.out.2.2.2.2⟩) (first
    |(go_at_call 156;(with_reducible refine(hw _ MD.out.below).mono ?_);rintro e u9 ⟨p9,c9,rfl,OU,OV⟩;have M9:=hid (MD.out.on OV);have UF:=hid OU;have SN:=hid (And.intro (eB (M9.out.boxes 4 _ _ _ rfl)).1 (And.intro (dG (M9.out.boxes 0 _ _ _ rfl)).1 (And.intro (dG (M9.out.boxes 0 _ _ _ rfl)).2.1 (And.intro (dG (M9.out.boxes 0 _ _ _ rfl)).2.2.1 (dG (M9.out.boxes 0 _ _ _ rfl)).2.2.2.1))));obtain⟨d0,d1,ff⟩:=eB (M9.out.boxes 2 _ _ _ rfl);have f0:=ff 0;have f1:=ff 1;clear ff OU OV))
   all_goals
    go_wp2;refine bodyPost_ret (v:=.tuple #[.agg #[.int .i64 start,.slice p9 NT (c9+NT)],.int .i64 0]) (by simp[results,results150,go_sem,d0,d1]) rfl ?_
    exact fR hX _ (by omega) (M9.out.boxes 2 _ _ _ rfl) UF.out M9.out.below (fun v=>.tuple #[v,.int .i64 0])
 ·obtain ⟨rfl,hx⟩:=kj (.inr ⟨rfl,xj,hk2,hk3⟩)
  have HX:=hid hx;have ab7:(Mk:Int)=(NT:Int):=by omega
  have XK:=zx rfl xj hk2;clear kj hx DM xj zx;go_enter func150,ntmps150
  go_wp2_with (first
   |(go_at_call 83;(with_reducible refine hr1.mono ?_);rintro e u1 ⟨rfl,hb⟩;have M1:=hid ((M0.out.on hb).box #[.int .i64 R,.int .i64 B] 77);clear hb t0 t1 c0 c1 c2 c3 c4 c5 c6 c7 c8 hr1;obtain⟨t0,t1,-⟩:=eB (M1.out.boxes 3 _ _ _ rfl);obtain⟨z0,z1,-⟩:=eB (M1.out.boxes 0 _ _ _ rfl))
   |(go_at_call 188;(with_reducible refine(jA _ M1.out.below).mono ?_);rintro e u2 ⟨rfl,hb⟩;have aC:=ae ((M1.out.on hb).boxes 1 _ _ _ rfl);have M2:=hid ((M1.out.on hb).box #[.int .i64 rk,.int .i64 ra,.int .i64 rm,.slice px nx (cx+nx)] 80);clear hb t0 t1 z0 z1 jA;obtain⟨t0,t1,-⟩:=eB (M2.out.boxes 4 _ _ _ rfl);obtain⟨c0,c1,c2,c3,c4,c5,c6,c7,c8⟩:=aG (M2.out.boxes 3 _ _ _ rfl);obtain⟨r0,r1,r2,r3,-⟩:=dG (M2.out.boxes 0 _ _ _ rfl))
   |(go_at_call 189;(with_reducible refine(hat _ M2.out.below).mono ?_);rintro e u3 ⟨rfl,rfl⟩)
   |(go_at_call 190;(with_reducible refine(XK _ M2.out.below).mono ?_);rintro e u4 ⟨p4,k4,rfl,hw4,hb⟩;have M4:=hid (M2.out.on hb);have Mm:=hid hw4;clear hb hw4 XK t0 t1 c0 c1 c2 c3 c4 c5 c6 c7 c8 r0 r1 r2 r3;obtain⟨t0,t1,-⟩:=eB (M4.out.boxes 4 _ _ _ rfl);obtain⟨c0,c1,c2,c3,c4,c5,c6,c7,c8⟩:=aG (M4.out.boxes 3 _ _ _ rfl);obtain⟨r0,r1,r2,r3,-⟩:=dG (M4.out.boxes 0 _ _ _ rfl);obtain⟨d0,d1,ff⟩:=eB (M4.out.boxes 2 _ _ _ rfl);have f0:=ff 0;have f1:=ff 1;clear ff))
  refine bodyPost_ret (v:=.tuple #[.agg #[.int .i64 start,.slice p NT (c+NT)],.int .i64 3]) (by simp[results,results150,go_sem,d0,d1]) rfl ?_
  exact fR hX _ (by omega) (M4.out.boxes 2 _ _ _ rfl) (hX.on HX.out M4.out.below) M4.out.below (fun v=>.tuple #[v,.int .i64 3])
 ·have ab7:(Mk:Int)=(nm:Int):=by omega
  have XK:=zx rfl xj hk2;have HK:=hid (show ns<ke from hk3)
  clear kj DM xj zx;go_enter func150,ntmps150
  go_wp2_with (first
   |(go_at_call 83;(with_reducible refine hr1.mono ?_);rintro e u1 ⟨rfl,hb⟩;have M1:=hid ((M0.out.on hb).box #[.int .i64 R,.int .i64 B] 77);clear hb t0 t1 c0 c1 c2 c3 c4 c5 c6 c7 c8 hr1;obtain⟨t0,t1,-⟩:=eB (M1.out.boxes 3 _ _ _ rfl);obtain⟨z0,z1,-⟩:=eB (M1.out.boxes 0 _ _ _ rfl))
   |(go_at_call 188;(with_reducible refine(jA _ M1.out.below).mono ?_);rintro e u2 ⟨rfl,hb⟩;have aC:=ae ((M1.out.on hb).boxes 1 _ _ _ rfl);have M2:=hid ((M1.out.on hb).box #[.int .i64 rk,.int .i64 ra,.int .i64 rm,.slice px nx (cx+nx)] 80);clear hb t0 t1 z0 z1 jA;obtain⟨t0,t1,-⟩:=eB (M2.out.boxes 4 _ _ _ rfl);obtain⟨c0,c1,c2,c3,c4,c5,c6,c7,c8⟩:=aG (M2.out.boxes 3 _ _ _ rfl);obtain⟨r0,r1,r2,r3,-⟩:=dG (M2.out.boxes 0 _ _ _ rfl))
   |(go_at_call 189;(with_reducible refine(hat _ M2.out.below).mono ?_);rintro e u3 ⟨rfl,rfl⟩)
   |(go_at_call 190;(with_reducible refine(XK _ M2.out.below).mono ?_);rintro e u4 ⟨p4,k4,rfl,hw4,hb⟩;have M4:=hid (M2.out.on hb);have Mm:=hid hw4;clear hb hw4 XK t0 t1 c0 c1 c2 c3 c4 c5 c6 c7 c8 r0 r1 r2 r3;obtain⟨t0,t1,-⟩:=eB (M4.out.boxes 4 _ _ _ rfl);obtain⟨c0,c1,c2,c3,c4,c5,c6,c7,c8⟩:=aG (M4.out.boxes 3 _ _ _ rfl);obtain⟨r0,r1,r2,r3,-⟩:=dG (M4.out.boxes 0 _ _ _ rfl);obtain⟨d0,d1,ff⟩:=eB (M4.out.boxes 2 _ _ _ rfl);have f0:=ff 0;have f1:=ff 1;clear ff))
  clear d0 d1 f0 f1;have MD:=hid M4.out.drew;have HW5:=hid (Mm.out HK.out);go_region_held3 (fun u=>u.cell? ⟨w.heap.size,0,none⟩=some (.int .i64 start)/\u.cell? ⟨u2.heap.size,0,none⟩=some (.int .i64 rk)/\u.cell? ⟨u2.heap.size,1,none⟩=some (.int .i64 ra)/\u.cell? ⟨u2.heap.size,2,none⟩=some (.int .i64 rm)/\u.cell? ⟨u2.heap.size,3,none⟩=some (.slice px nx (cx+nx))) (first | assumption | exact SN.out | exact⟨t0,r0,r1,r2,r3⟩ | exact⟨cE (by omega) SN.out.1,cE (by omega) SN.out.2.1,cE (by omega) SN.out.2.2.1,cE (by omega) SN.out.2.2.2.1,cE (by omega) SN.out.2.2.2.2⟩) (first
   |(go_at_call 156;(with_reducible refine(HW5.out _ (Below.refl _ _).drew).mono ?_);rintro e u9 ⟨p9,c9,rfl,OU,OV⟩;have M9:=hid (MD.out.on OV);have UF:=hid OU;have SN:=hid (And.intro (eB (M9.out.boxes 4 _ _ _ rfl)).1 (And.intro (dG (M9.out.boxes 0 _ _ _ rfl)).1 (And.intro (dG (M9.out.boxes 0 _ _ _ rfl)).2.1 (And.intro (dG (M9.out.boxes 0 _ _ _ rfl)).2.2.1 (dG (M9.out.boxes 0 _ _ _ rfl)).2.2.2.1))));obtain⟨d0,d1,ff⟩:=eB (M9.out.boxes 2 _ _ _ rfl);have f0:=ff 0;have f1:=ff 1;clear ff OU OV))
  all_goals
   go_wp2;refine bodyPost_ret (v:=.tuple #[.agg #[.int .i64 start,.slice p9 NT (c9+NT)],.int .i64 0]) (by simp[results,results150,go_sem,d0,d1]) rfl ?_
   exact fR hX _ (by omega) (M9.out.boxes 2 _ _ _ rfl) UF.out M9.out.below (fun v=>.tuple #[v,.int .i64 0])
theorem LG (l:List Rw)(key:Int):(au l key<0/\GX l key=l.length)∨(0<=au l key/\GX l key<l.length):=by
 rcases oP l key with ⟨h1,h2,-⟩ | ⟨j,h1,h2,h3,-⟩
 ·exact .inl ⟨by omega,h2⟩
 ·exact .inr ⟨by omega,by omega⟩
theorem G7 {t:Tb}{key:Int}(h:au t.rows key<0)(now:Int)(f:Cf):ah (dc t now f) key=ah t key:=by
 have h1:au (dc t now f).rows key= -1:=by
  refine cP _ aq _ fun j hj=> ?_
  have hm:(dc t now f).rows.getD j aq∈(dc t now f).rows:=by simp[List.getD,hj]
  have Ax:=oG hm;generalize(dc t now f).rows.getD j aq=y at *;obtain⟨k,hk,e⟩:=List.mem_iff_getElem.1 Ax;rcases bA (fun r:Rw=>r.key==key) aq t.rows with ⟨-,h3⟩ | ⟨i,h3,-⟩
  ·have:=h3 k hk
   simpa[List.getD,hk,e] using this
  ·unfold au at h;omega
 unfold ah;rw[h1,if_pos (by omega),if_pos h]
 rfl
theorem G8 {n:Nat}{t:Tb}(p:Option Addr)(c:Nat)(key now:Int)(f:Cf)(pf:Option Addr)(cf:Nat)(w:World)(h:cI n t)(hn:n<=61)(hr:ar w p t.rows)(hz:iU w pf f.aH) :
 Calls prog 150 #[bN t p c,.int .i64 key,.int .i64 now,gD f pf cf] w (kO w p t (bV t key now f).1 (fun v=>.tuple #[v,.int .i64 (bV t key now f).2])):=by
 obtain⟨hl,ho⟩:=lF h.dJ hn;obtain⟨m,hm,LH,sg,OT⟩:=zw hr;have aT:t.rows.length=m.length:=by rw[<-hm];simp
 have hmo:∀x∈m,ak w x.2.1 x.1.out/\x.1.out.length<=1000:=fun x hx=>⟨sg x hx,ho x.1 (by rw[<-hm];exact List.mem_map_of_mem hx)⟩
 have XL:ar w p (m.map (·.1)):=by rw[hm];exact hr
 have SD:Up (m.map (·.1)):=by rw[hm];exact h.up
 have hmf:∀S,cz S w p t.rows->∀y∈m,bq (fun b=>S b∨w.heap.size<=b) w y.2.1 y.1.out:=fun S hS y hy=>(OT S hS y hy).to (Below.refl _ _) fun b hb=>.inl hb
 have Bg:∀R B,ak w (lN t.start m key now R B).2.1 (lN t.start m key now R B).1.out:=fun R B=>by
  show ak w (bw t.start m key).2.1 (bw t.start m key).1.out
  rcases oQ t.start m key with e | e
  ·rw [e];exact .inl rfl
  ·exact sg _ e
 have Vw:∀R B S,cz S w p t.rows->bq (fun b=>S b∨w.heap.size<=b) w (lN t.start m key now R B).2.1 (lN t.start m key now R B).1.out:=fun R B S hS=>by
  show bq _ w (bw t.start m key).2.1 (bw t.start m key).1.out
  rcases oQ t.start m key with e | e
  ·rw [e];exact .inl rfl
  ·exact hmf S hS _ e
 have jA:∀R B,(lN t.start m key now R B).1=gZ t key now R B:=fun R B=>by
  show jn (bw t.start m key).1 now R B=jn (ah t key) now R B
  rw[ql t m key hm]
 have hpl:=LG t.rows key;have hat:=fun u (hb:Below w.heap.size w u)=>AX t.rows p (c+t.rows.length) key u (hr.below hb) hl
 rw[aT] at hat hpl;have Nd:(eD t.start now f m).length=(dc t now f).rows.length:=by
  show _=(dU t.start now f t.rows).length
  rw[<-hm,<-wY];simp
 have agJ:=sq t now f;have kj:AY w p t.rows t.rows w p:=⟨hr,fun S hS=>hS.on (fun b hb _=>.inl hb) fun b _ _=>rfl⟩
 have tx:=fun (R B:Int) (q:Bool) (NT:Nat) (er:Int) (L:List Rw)=>G6 t.start key now p m.length c f.n f.js f.Qg f.fW f.zR f.zS f.aR f.qM pf f.aH.length cf w R B q (lN t.start m key now R B).1.key (lN t.start m key now R B).1.ay (lN t.start m key now R B).1.mark (lN t.start m key now R B).2.1 (lN t.start m key now R B).1.out.length (lN t.start m key now R B).2.2 (GX t.rows key) (AY w p t.rows L) (tu w p t.rows L) NT (eD t.start now f m).length er (by omega) (by omega)
 have dF:=fun u (hb:Below w.heap.size w u)=>lJ f pf cf key u (hz.below hb)
 have hlk:=fun R B u (hb:Below w.heap.size w u)=>Lx t.start m p c key now R B u (by omega) (XL.below hb) (LH.on hb) (fun x hx=>⟨(hmo x hx).1.below hb,(hmo x hx).2⟩)
 have tv:bN t p c=.agg #[.int .i64 t.start,.slice p m.length (c+m.length)]:=by unfold bN;rw[aT]
 rw[tv];by_cases h1:cB f.aH key<0
 ·have e:bV t key now f=(t,4):=by unfold bV;rw[if_pos h1]
  rw[e];rw[show (if 0<=cB f.aH key then (aX f key).1 else 0)=0 from if_neg (by omega),show(if 0<=cB f.aH key then (aX f key).2 else 0)=0 from if_neg (by omega),decide_eq_false (show ¬0<=cB f.aH key by omega)] at dF
  refine(tx 0 0 false t.rows.length 4 t.rows dF (hlk 0 0) hat (by omega) (fun h=>by cases h) (fun h=>by cases h) (fun _=>⟨aT,kj⟩) (.inl ⟨rfl,rfl⟩)).mono ?_
  rintro e w' ⟨p',c',rfl,hx,hb⟩;exact⟨p',c',rfl,hx,hb⟩
 ·rw [if_pos (show 0<=cB f.aH key by omega),if_pos (show 0<=cB f.aH key by omega),decide_eq_true (show 0<=cB f.aH key by omega)] at dF
  have hlk:=hlk (aX f key).1 (aX f key).2;have jA:=jA (aX f key).1 (aX f key).2;have Bg:=Bg (aX f key).1 (aX f key).2;have Vw:=Vw (aX f key).1 (aX f key).2;have tx:=tx (aX f key).1 (aX f key).2;generalize lN t.start m key now (aX f key).1 (aX f key).2=x at *;by_cases h2:0<=au t.rows key∨(t.rows.length:Int)<f.aR
  ·have e:bV t key now f=(setRow t x.1,0):=by unfold bV;rw[if_neg h1,if_pos h2,jA]
   rw[e];refine(tx true (setRow t x.1).rows.length 0 (setRow t x.1).rows dF hlk hat (by omega) (fun _ ha hk=>by omega) (fun _ _ u hb=> ?_) (fun h=>by
    rcases h with h | ⟨-,ha,hk,-⟩
    ·cases h
    ·omega) (.inr (.inl ⟨rfl,by omega,rfl⟩))).mono ?_
   ·refine (qo w p t.rows m p c x u hb (by omega) (LH.on hb) (fun y hy=>(sg y hy).below hb) (fun S hS y hy=>(hmf S hS y hy).to hb fun b h=>h) (Bg.below hb) (fun S hS=>(Vw S hS).to hb fun b h=>h) SD).mono ?_
    rintro e u' ⟨p',n',c',rfl,zO,OW,hb'⟩;rw[hm] at zO OW;subst zO;exact⟨p',c',rfl,OW,hb'⟩
   ·rintro e w' ⟨p',c',rfl,hx,hb⟩
    exact⟨p',c',rfl,hx,hb⟩
  ·have XM:GX t.rows key=m.length:=by omega
   by_cases h3:f.aR<=((dc t now f).rows.length:Int)
   ·have e:bV t key now f=(t,3):=by unfold bV;rw[if_neg h1,if_neg h2,if_pos h3]
    rw[e];refine(tx true t.rows.length 3 t.rows dF hlk hat (by omega) (fun _ _ _ u hb=> ?_) (fun _ h=>by omega) (fun _=>⟨aT,kj⟩) (.inr (.inr (.inl ⟨rfl,XM,by omega,by omega,rfl⟩)))).mono ?_
    ·refine (DK t.start m p c now f pf cf u (by omega) (LH.on hb) (hz.below hb)).mono ?_
     rintro e u' ⟨p',c',rfl,-,hb'⟩;exact⟨p',c',rfl,fun h=>by omega,hb'⟩
    ·rintro e w' ⟨p',c',rfl,hx,hb⟩
     exact⟨p',c',rfl,hx,hb⟩
   ·have hfs:gZ (dc t now f) key now (aX f key).1 (aX f key).2=x.1:=by
     rw[jA];unfold gZ;rw[G7 (by omega)]
    have e:bV t key now f=(setRow (dc t now f) x.1,0):=by unfold bV;rw[if_neg h1,if_neg h2,if_neg h3,hfs]
    rw[e];refine(tx true (setRow (dc t now f) x.1).rows.length 0 (setRow (dc t now f) x.1).rows dF hlk hat (by omega) (fun _ _ _ u hb=> ?_) (fun _ h=>by omega) (fun h=>by
     rcases h with h | ⟨-,-,-,hk⟩
     ·cases h
     ·omega) (.inr (.inr (.inr ⟨rfl,XM,by omega,by omega,rfl⟩)))).mono ?_
    ·refine (DK t.start m p c now f pf cf u (by omega) (LH.on hb) (hz.below hb)).mono ?_
     rintro e u' ⟨p4,c4,rfl,hl4,hb4⟩;have lO:=hb.trans (hb4.mono hb.size);refine⟨p4,c4,rfl,fun _ v hv=> ?_,hb4⟩
     have XN:=lO.trans (hv.mono lO.size);have Bp:∀y∈eD t.start now f m,y∈m:=fun y hy=>(List.mem_filter.1 hy).1
     have tK:(eD t.start now f m).map (·.1)=(dc t now f).rows:=by rw[wY,hm];rfl
     refine(qo w p t.rows (eD t.start now f m) p4 c4 x v XN (by omega) (hl4.on hv) (fun y hy=>(sg y (Bp y hy)).below XN) (fun S hS y hy=>(hmf S hS y (Bp y hy)).to XN fun b h=>h) (Bg.below XN) (fun S hS=>(Vw S hS).to XN fun b h=>h) (by rw[tK];exact(l8 h now f).up)).mono ?_
     rintro e v' ⟨p',n',c',rfl,zO,OW,hb'⟩;rw[tK] at zO OW;subst zO;exact⟨p',c',rfl,OW,hb'⟩
    ·rintro e w' ⟨p',c',rfl,hx,hb⟩
     exact⟨p',c',rfl,hx,hb⟩
open Zr (dh add sub mul dD dM dN ft jE oC qL jN jm)
theorem Mem.uX {w u:World}{g:Nat}{vs:Array Value}{T:TypeId}{bs:List (Nat×Array Value×TypeId)}(h:Mem w ((g,vs,T) :: bs) [] [] u)(hg:w.heap.size<=g)(hd:∀x∈bs,x.1≠g)(i:Nat)(v:Value):Mem w ((g,vs.setIfInBounds i v,T) :: bs) [] [] (u.setCell ⟨g,i,none⟩ v):=by
 have h1:=h.boxes 0 _ _ _ rfl;refine⟨fun j g' U5 T' e=> ?_,fun i p l h=>by simp at h,fun i p l h=>by simp at h,h.below.setCell hg _⟩
 cases j with
 | zero =>
   simp only[List.getElem?_cons_zero,Option.some.injEq,Prod.mk.injEq] at e;obtain⟨rfl,rfl,rfl⟩:=e;rw[ai _ i _ _ h1]
 | succ j =>
   have e':bs[j]? =some (g',U5,T'):=by simpa using e
   have hne:g'≠g:=hd _ (List.mem_of_getElem? e');exact(Below.heap_setCell _ _ _ _ hne).trans (h.boxes (j+1) g' U5 T' e)
theorem Mem.tail {w u:World}{x:Nat×Array Value×TypeId}{bs:List (Nat×Array Value×TypeId)}{rs:List (Option Addr×List Rw)}{ls:List (Option Addr×List (Int×Int))}(h:Mem w (x :: bs) rs ls u):Mem w bs rs ls u:=⟨fun i g vs T e=>h.boxes (i+1) g vs T (by simpa using e),h.rows,h.dS,h.below⟩
theorem AZ (start key node spent:Int)(p:Option Addr)(nm c:Nat)(w:World)(fk fa fm:Int)(px:Option Addr)(nx cx:Nat)(fd q:Bool)(a jf bk av:Int)(X:World->Option Addr->Prop)(hX:J8 X)(NT rF:Nat)(tl:Int)(ha:0<=a/\a<=9223372036854775807)(hsp: -9223372036854775808<=spent/\spent<=9223372036854775807)
 (eH:∀u,Below w.heap.size w u->Calls prog 153 #[.agg #[.int .i64 start,.slice p nm (c+nm)],.int .i64 key] u fun e u'=>e=.returned (.tuple #[.agg #[.int .i64 fk,.int .i64 fa,.int .i64 fm,.slice px nx (cx+nx)],.bool fd])/\Below u.heap.size u u')
 (eU:∀u,Below w.heap.size w u->Calls prog 147 #[.agg #[.int .i64 fk,.int .i64 fa,.int .i64 fm,.slice px nx (cx+nx)],.int .i64 node] u fun e u'=>e=.returned (.tuple #[.int .i64 a,.bool q])/\Below u.heap.size u u')
 (ux:q=true->∀u,Below w.heap.size w u->Calls prog 155 #[.slice px nx (cx+nx),.int .i64 node] u fun e u'=>∃p' c',e=.returned (.slice p' rF (c'+rF))/\(∀v,Below w.heap.size w v->(∀b,u.heap.size<=b->v.heap[b]? =u'.heap[b]?)->Calls prog 156 #[.slice p nm (c+nm),.agg #[.int .i64 fk,.int .i64 av,.int .i64 fm,.slice p' rF (c'+rF)]] v fun e v'=>∃p' c',e=.returned (.slice p' NT (c'+NT))/\X v' p'/\Below v.heap.size v v')/\Below u.heap.size u u')
 (kj:q=false->NT=nm/\X w p/\tl=0) (OX:q=true->tl=jf/\jf=(if 0<=spent then min spent a else a)/\bk=sub a jf/\av=add [fa,bk]) :
 Calls prog 105 #[.agg #[.int .i64 start,.slice p nm (c+nm)],.int .i64 key,.int .i64 node,.int .i64 spent] w fun e w'=>∃p' c',e=.returned (.tuple #[.agg #[.int .i64 start,.slice p' NT (c'+NT)],.int .i64 tl])/\X w' p'/\Below w.heap.size w w':=by
 have M0:=hid (((Mem.start w).box #[.int .i64 start,.slice p nm (c+nm)] 28).box #[.int .i64 0,.slice none 0 0] 28);simp only[size_alloc] at M0;have zu:=eH _ M0.out.below;obtain⟨t0,t1,-⟩:=eB (M0.out.boxes 1 _ _ _ rfl);clear eH;cases q with
 | false =>
   obtain⟨rfl,hx,rfl⟩:=kj rfl;have HX:=hid hx;clear kj hx ux OX;go_enter func105,ntmps105
   go_wp2_with (first
    |(go_at_call 153;(with_reducible refine zu.mono ?_);rintro e u1 ⟨rfl,hb⟩;have M1:=hid ((M0.out.on hb).box #[.int .i64 fk,.int .i64 fa,.int .i64 fm,.slice px nx (cx+nx)] 80);clear hb t0 t1 zu;obtain⟨r0,r1,r2,r3,-⟩:=dG (M1.out.boxes 0 _ _ _ rfl))
    |(go_at_call 147;(with_reducible refine(eU _ M1.out.below).mono ?_);rintro e u2 ⟨rfl,hb⟩;have M2:=hid (M1.out.on hb);clear hb eU r0 r1 r2 r3;obtain⟨t0,t1,-⟩:=eB (M2.out.boxes 2 _ _ _ rfl);obtain⟨d0,d1,ff⟩:=eB (M2.out.boxes 1 _ _ _ rfl);have f0:=ff 0;have f1:=ff 1;clear ff))
   refine bodyPost_ret (v:=.tuple #[.agg #[.int .i64 start,.slice p NT (c+NT)],.int .i64 0]) (by simp[results,results105,go_sem,d0,d1]) rfl ?_
   exact fR hX _ (by omega) (M2.out.boxes 1 _ _ _ rfl) (hX.on HX.out M2.out.below) M2.out.below (fun v=>.tuple #[v,.int .i64 0])
 | true =>
   obtain⟨rfl,ht,XO,C4⟩:=OX rfl;have hot:=ux rfl;clear kj ux OX;have jr:=jE a tl;rw[<-XO] at jr;have kW:=qL fa bk;rw[<-C4] at kW;clear XO C4;have b9:(¬0<=spent/\tl=a)∨(0<=spent/\a<spent/\tl=a)∨(0<=spent/\¬a<spent/\tl=spent):=by
    split at ht <;>omega
   clear ht;rcases b9 with ⟨k1,rfl⟩ | ⟨k1,k2,rfl⟩ | ⟨k1,k2,rfl⟩
   all_goals
    go_enter func105,ntmps105
    go_wp2_with (first
     |(go_at_call 153;(with_reducible refine zu.mono ?_);rintro e u1 ⟨rfl,hb⟩;have aC:=ae ((M0.out.on hb).boxes 0 _ _ _ rfl);have M1:=hid ((M0.out.on hb).box #[.int .i64 fk,.int .i64 fa,.int .i64 fm,.slice px nx (cx+nx)] 80);clear hb t0 t1 zu;obtain⟨r0,r1,r2,r3,-⟩:=dG (M1.out.boxes 0 _ _ _ rfl))
     |(go_at_call 147;(with_reducible refine(eU _ M1.out.below).mono ?_);rintro e u2 ⟨rfl,hb⟩;have M2:=hid (M1.out.on hb);clear hb eU r0 r1 r2 r3;obtain⟨r0,r1,r2,r3,ff⟩:=dG (M2.out.boxes 0 _ _ _ rfl);have f1:=ff 1;have f3:=ff 3;clear ff))
    have hl2:u1.heap.size<u2.heap.size:=ae (M2.out.boxes 0 _ _ _ rfl);have SH:Calls prog 88 #[.slice (some ⟨u2.heap.size,0,none⟩) 2 2] ((u2.alloc (.cells #[.int .i64 fa,.int .i64 bk] 3)).drew) fun e w'=>e=.returned (.int .i64 av)/\(u2.alloc (.cells #[.int .i64 fa,.int .i64 bk] 3)).drew=w':=kW u2.drew u2.heap.size rfl
    go_region_with (first
     |(go_at_call 154;(with_reducible refine(jr _).mono ?_);rintro e u3 ⟨rfl,rfl⟩)
     |(go_at_call 88;(with_reducible refine SH.mono ?_);rintro e u3 ⟨rfl,rfl⟩))
    all_goals
     have M3:=hid (((M2.out.uX (by omega) (by intro x hx;simp at hx;rcases hx with rfl | rfl <;>simp <;>omega) 1 (.int .i64 av)).box #[.int .i64 fa,.int .i64 bk] 3).drew)
     clear r0 r1 r2 r3 f1 f3 kW SH jr;obtain⟨r0,r1,r2,r3,ff⟩:=dG (M3.out.boxes 1 _ _ _ rfl);have f3:=ff 3;clear ff;have agM:=ae (M3.out.boxes 1 _ _ _ rfl);generalize hW3:(((u2.setCell ⟨u1.heap.size,1,none⟩ (.int .i64 av)).alloc (.cells #[.int .i64 fa,.int .i64 bk] 3)).drew)=W3 at *;clear hW3;go_wp2_with (go_at_call 155;(with_reducible refine(hot _ M3.out.below).mono ?_);rintro e u4 ⟨p4,c4,rfl,hw4,hb⟩;have M4:=hid (M3.out.on hb);have Mm:=hid hw4;clear hb hw4 r0 r1 r2 r3 f3;obtain⟨r0,r1,r2,r3,ff⟩:=dG (M4.out.boxes 1 _ _ _ rfl);have f3:=ff 3;clear ff)
     have M5:=hid ((M4.out.tail.uX (by omega) (by intro x hx;simp at hx;rcases hx with rfl | rfl <;>simp <;>omega) 3 (.slice p4 rF (c4+rF))))
     have hv5:Hid (∀b,W3.heap.size<=b->(u4.setCell ⟨u1.heap.size,3,none⟩ (.slice p4 rF (c4+rF))).heap[b]? =u4.heap[b]?):=fun b hb=>Below.heap_setCell _ _ _ _ (by simp;omega)
     clear r0 r1 r2 r3 f3;generalize(u4.setCell ⟨u1.heap.size,3,none⟩ (.slice p4 rF (c4+rF)))=u5 at *;have hw:=Mm.out u5.drew M5.out.drew.below hv5.out;have MD:=hid M5.out.drew;obtain⟨r0,r1,r2,r3,-⟩:=dG (M5.out.boxes 0 _ _ _ rfl);obtain⟨t0,t1,-⟩:=eB (M5.out.boxes 2 _ _ _ rfl);clear Mm hv5 M3 M4;go_region_held3 (fun u=>u.cell? ⟨w.heap.size,0,none⟩=some (.int .i64 start)/\u.cell? ⟨w.heap.size,1,none⟩=some (.slice p nm (c+nm))/\u.cell? ⟨u1.heap.size,0,none⟩=some (.int .i64 fk)/\u.cell? ⟨u1.heap.size,1,none⟩=some (.int .i64 av)/\u.cell? ⟨u1.heap.size,2,none⟩=some (.int .i64 fm)/\u.cell? ⟨u1.heap.size,3,none⟩=some (.slice p4 rF (c4+rF))) (first | assumption | exact SN.out | exact⟨t0,t1,r0,r1,r2,r3⟩ | exact⟨cE (by omega) SN.out.1,cE (by omega) SN.out.2.1,cE (by omega) SN.out.2.2.1,cE (by omega) SN.out.2.2.2.1,cE (by omega) SN.out.2.2.2.2.1,cE (by omega) SN.out.2.2.2.2.2⟩) (first
      |(go_at_call 156;(with_reducible refine hw.mono ?_);rintro e u9 ⟨p9,c9,rfl,OU,OV⟩;have M9:=hid (MD.out.on OV);have UF:=hid OU;have SN:=hid (And.intro (eB (M9.out.boxes 2 _ _ _ rfl)).1 (And.intro (eB (M9.out.boxes 2 _ _ _ rfl)).2.1 (And.intro (dG (M9.out.boxes 0 _ _ _ rfl)).1 (And.intro (dG (M9.out.boxes 0 _ _ _ rfl)).2.1 (And.intro (dG (M9.out.boxes 0 _ _ _ rfl)).2.2.1 (dG (M9.out.boxes 0 _ _ _ rfl)).2.2.2.1)))));obtain⟨d0,d1,ff⟩:=eB (M9.out.boxes 1 _ _ _ rfl);have f0:=ff 0;have f1:=ff 1;clear ff OU OV))
     all_goals
      go_wp2;refine bodyPost_ret (v:=.tuple #[.agg #[.int .i64 start,.slice p9 NT (c9+NT)],.int .i64 tl]) (by simp[results,results105,go_sem,d0,d1]) rfl ?_
      exact fR hX _ (by omega) (M9.out.boxes 1 _ _ _ rfl) UF.out M9.out.below (fun v=>.tuple #[v,.int .i64 tl])
theorem Rx (t:Tb)(key node:Int):has t key node=decide (0<=cF (ah t key).out node):=by
 unfold has;by_cases h:0<=au t.rows key
 ·have:et t key=true:=by unfold et;exact decide_eq_true h
  rw[this,Bool.true_and]
 ·have h1:et t key=false:=by unfold et;exact decide_eq_false h
  have h2:(ah t key).out=[]:=by unfold ah;rw[if_pos (by omega)]
  rw[h1,h2,Bool.false_and];rfl
structure A3 (t:Tb)(w:World)(p:Option Addr)(m:List Rp):Prop where
 row:m.map (·.1)=t.rows
 cQ:rA w p (bp m)
 dS:∀x∈m,ak w x.2.1 x.1.out
 JE:∀S,cz S w p t.rows->∀x∈m,bq S w x.2.1 x.1.out
theorem A3.len {t:Tb}{w:World}{p:Option Addr}{m:List Rp}(h:A3 t w p m):t.rows.length=m.length:=by rw[<-h.row];simp
theorem I1 {t:Tb}{w:World}{p:Option Addr}(hr:ar w p t.rows):∃m,A3 t w p m:=by
 obtain⟨m,hm,LH,sg,OT⟩:=zw hr;exact⟨m,hm,LH,sg,OT⟩
theorem A3.found {t:Tb}{w:World}{p:Option Addr}{m:List Rp}(h:A3 t w p m)(key:Int):ak w (bw t.start m key).2.1 (bw t.start m key).1.out:=by
 rcases oQ t.start m key with e | e
 ·rw [e];exact .inl rfl
 ·exact h.dS _ e
theorem A3.OY {t:Tb}{w:World}{p:Option Addr}{m:List Rp}(h:A3 t w p m):AY w p t.rows t.rows w p:=by
 refine⟨?_,fun S hS=>hS.on (fun b hb _=>.inl hb) fun b _ _=>rfl⟩
 rw[<-h.row];exact tq h.cQ h.dS
theorem A3.put {t:Tb}{w:World}{p:Option Addr}{m:List Rp}(h:A3 t w p m)(c:Nat)(x:Rp)(u u' v:World)(hu:w.heap.size<=u.heap.size)(hv:Below w.heap.size w v)(hk:∀b,u.heap.size<=b->v.heap[b]? =u'.heap[b]?)(hn:m.length<=1000)(hx:bq (fun b=>u.heap.size<=b) u' x.2.1 x.1.out)(SD:Up t.rows) :
 Calls prog 156 #[.slice p m.length (c+m.length),DI x] v fun e v'=>∃p' c',e=.returned (.slice p' (setRow t x.1).rows.length (c'+(setRow t x.1).rows.length))/\AY w p t.rows (setRow t x.1).rows v' p'/\Below v.heap.size v v':=by
 have hx2:bq (fun b=>u.heap.size<=b) v x.2.1 x.1.out:=hx.on (fun b hb _=>hb) fun b hb _=>hk b hb
 refine(qo w p t.rows m p c x v hv hn (h.cQ.on hv) (fun y hy=>(h.dS y hy).below hv) (fun S hS y hy=>(h.JE S hS y hy).to hv fun b hb=>.inl hb) hx2.rest (fun S hS=>hx2.to (Below.refl _ _) fun b hb=>.inr (by omega)) (by rw[h.row];exact SD)).mono ?_
 rintro e v' ⟨p',n',c',rfl,zO,OW,hb'⟩;rw[h.row] at zO OW;subst zO;exact⟨p',c',rfl,OW,hb'⟩
theorem A7 {n:Nat}{t:Tb}(p:Option Addr)(c:Nat)(key node spent:Int)(w:World)(h:cI n t)(hn:n<=61)(hk:bC key)(hsp:bC spent)(hr:ar w p t.rows) :
 Calls prog 105 #[bN t p c,.int .i64 key,.int .i64 node,.int .i64 spent] w (kO w p t (settle t key node spent).1 (fun v=>.tuple #[v,.int .i64 (settle t key node spent).2])):=by
 obtain⟨hl,ho⟩:=lF h.dJ hn;obtain⟨m,hO⟩:=I1 hr;have aT:=hO.len;have XL:ar w p (m.map (·.1)):=by rw[hO.row];exact hr
 have hF:=ql t m key hO.row;have Ee:=hO.found key;have hB:=iM h.dJ hk;have hU:=lG h key;have eH:=fun u (hb:Below w.heap.size w u)=>tr t.start m p c key u (by omega) (XL.below hb) (hO.cQ.on hb)
 have hL:(bw t.start m key).1.out.length<=1000:=by rw[hF];have:=hB.len;omega
 have eU:=fun u (hb:Below w.heap.size w u)=>wX (bw t.start m key).1 (bw t.start m key).2.1 (bw t.start m key).2.2 node u (Ee.below hb) hL
 have ux:=fun u (hb:Below w.heap.size w u)=>G1 (bw t.start m key).1.out (bw t.start m key).2.1 ((bw t.start m key).2.2+(bw t.start m key).1.out.length) node u (Ee.below hb) hL
 have tv:bN t p c=.agg #[.int .i64 t.start,.slice p m.length (c+m.length)]:=by unfold bN;rw[aT]
 rw[tv];generalize bw t.start m key=x at *;obtain⟨F,q,cx⟩:=x;simp only at hF Ee hL eU ux;subst hF;have Vx:=wW hU node fun y hy=>(hB.out y hy).2
 have tx:=fun (qq:Bool) (a jf bk av:Int) (NT rF:Nat) (tl:Int) (L:List Rw)=>AZ t.start key node spent p m.length c w (ah t key).key (ah t key).ay (ah t key).mark q (ah t key).out.length cx (decide (0<=au (m.map (·.1)) key)) qq a jf bk av (AY w p t.rows L) (tu w p t.rows L) NT rF tl
 have XP:=Rx t key node;rcases Vx with ⟨h1,h2⟩ | ⟨h1,h2⟩
 ·rw [decide_eq_false (by omega)] at XP
  have e:settle t key node spent=(t,0):=by unfold settle;rw[if_neg (by simp[XP])]
  rw[e];rw[h2] at eU;refine(tx false 0 0 0 0 t.rows.length 0 0 t.rows (by omega) hsp eH eU (fun h=>by cases h) (fun _=>⟨aT,hO.OY,rfl⟩) (fun h=>by cases h)).mono ?_
  rintro e w' ⟨p',c',rfl,hx,hb⟩;exact⟨p',c',rfl,hx,hb⟩
 ·rw [decide_eq_true h1] at XP
  have PD:=yI h.dJ hk XP;have ha:((ah t key).out.getD (cF (ah t key).out node).toNat (0,0)).2=bF t key node:=rfl;rw[ha] at h2;rw[h2] at eU;have BN:=G0 hU node h1;rw[BN] at ux;have e:settle t key node spent=(setRow t (aP (ah t key) (cF (ah t key).out node).toNat (bF t key node-eZ (bF t key node) spent)),eZ (bF t key node) spent):=by unfold settle;rw[if_pos XP]
  rw[e];have hst:eZ (bF t key node) spent=(if 0<=spent then min spent (bF t key node) else bF t key node):=by
   unfold eZ;by_cases k1:0<=spent
   ·rw [if_pos k1]
    by_cases k2:bF t key node<spent
    ·rw [if_pos (.inr k2)];omega
    ·rw [if_neg (by omega)];omega
   ·rw [if_neg k1,if_pos (.inl (by omega))]
  have hsi:0<=eZ (bF t key node) spent/\eZ (bF t key node) spent<=bF t key node:=by rw[hst];split <;>omega
  have hback:sub (bF t key node) (eZ (bF t key node) spent)=bF t key node-eZ (bF t key node) spent:=by
   unfold sub;rw[dN (x:=bF t key node) (by omega) (by omega),dN (x:=eZ (bF t key node) spent) (by omega) (by omega),dN (by omega) (by omega)]
  generalize bF t key node=a at *;generalize eZ a spent=jf at *;generalize hbt:gI (ah t key).out (cF (ah t key).out node).toNat=L2 at *;have Jz:aP (ah t key) (cF (ah t key).out node).toNat (a-jf)=⟨(ah t key).key,add [(ah t key).ay,a-jf],(ah t key).mark,L2⟩:=by unfold aP;rw[hbt]
  rw[Jz];refine(tx true a jf (a-jf) (add [(ah t key).ay,a-jf]) (setRow t ⟨(ah t key).key,add [(ah t key).ay,a-jf],(ah t key).mark,L2⟩).rows.length L2.length jf (setRow t ⟨(ah t key).key,add [(ah t key).ay,a-jf],(ah t key).mark,L2⟩).rows (by omega) hsp eH eU (fun _ u hb=> ?_) (fun h=>by cases h) (fun _=>⟨rfl,hst,hback.symm,rfl⟩)).mono ?_
  ·refine (ux u hb).mono ?_
   rintro e u' ⟨p',c',rfl,h3,h4,h5⟩;exact⟨p',c',rfl,fun v hv hk=>hO.put c (⟨(ah t key).key,add [(ah t key).ay,a-jf],(ah t key).mark,L2⟩,(p',c')) u u' v hb.size hv hk (by omega) h4 h.up,h5⟩
  ·rintro e w' ⟨p',c',rfl,hx,hb⟩
   exact⟨p',c',rfl,hx,hb⟩
def lo (l:List (Int×Int))(node:Int):Nat:=if spot (fun y:Int×Int=>decide (node<=y.1)) l<0 then l.length else (spot (fun y:Int×Int=>decide (node<=y.1)) l).toNat
theorem XQ {l:List (Int×Int)}{node:Int}{j:Nat}(hj:j<l.length)(h:∀i,i<j->(l.getD i (0,0)).1<node)(h1:¬(l.getD j (0,0)).1<node):lo l node=j:=by
 have e:spot (fun y:Int×Int=>decide (node<=y.1)) l=(j:Int):=eL _ (0,0) l j hj (fun i hi=>by have:=h i hi;simpa using this) (decide_eq_true (by omega))
 unfold lo;rw[e,if_neg (by omega),Int.toNat_natCast]
theorem Ry {l:List (Int×Int)}{node:Int}(h:∀i,i<l.length->(l.getD i (0,0)).1<node):lo l node=l.length:=by
 have e:spot (fun y:Int×Int=>decide (node<=y.1)) l= -1:=cP _ (0,0) l fun i hi=>by have:=h i hi;simpa using this
 unfold lo;rw[e,if_pos (by omega)]
theorem wZ:(prog.info? 141).map (·.size)=some 2:=by kernel_rfl
theorem LI (l:List (Int×Int))(p:Option Addr)(n c i:Nat)(node am:Int)(w:World)(CA CB:List Value)(hl:l.length=n)(hn:n<=1000)(h:ak w p l)(hi:lo l node=i)(Bp:i<=n)
 (hA:rA w p CA) (lA:CA.length=i*2) (oA:∀v∈CA,v.oneCell'=true) (hB:CB=[]∨∃b o,p=some ⟨b,o,none⟩/\w.rangeAt b (o+i*2) CB) (lB:CB.length=(n-i)*2) (oB:∀v∈CB,v.oneCell'=true) :
 Calls prog 203 #[.slice p n (c+n),.agg #[.int .i64 node,.int .i64 am]] w fun e w'=>∃g,e=.returned (.slice (some ⟨g,0,none⟩) (n+1) (n+1))/\w.heap.size<=g/\w'.rangeAt g 0 (CA++([.int .i64 node,.int .i64 am]++CB))/\Below w.heap.size w w':=by
 obtain⟨i0,Ps,hz0,hz1,hz2⟩:=info_parts Hz;have M0:=hid ((Mem.start w).box #[.int .i64 node,.int .i64 am] 141);obtain⟨r0,r1,-⟩:=eB (M0.out.boxes 0 _ _ _ rfl);have S1:=fun u=>Dz prog 78 141 2 underlying78 wZ p n (c+n) i (by omega) u
 obtain⟨q3,S3,Q3⟩:=lM prog 78 141 2 underlying78 wZ p n (c+n) i (i:Int) rfl (by omega) (by omega)
 have GY:Hid (∀j:Nat,j<=n->(∀i,i<j->(l.getD i (0,0)).1<node)->(∃b o y,(j:Int)<(n:Int)/\p=some ⟨b,o,none⟩/\w.cell? ⟨b,o+j*2,none⟩=some (.int .i64 y)/\y<node/\Hid (∀i,i<j+1->(l.getD i (0,0)).1<node))∨
  (∃b o y,(j:Int)<(n:Int)/\p=some ⟨b,o,none⟩/\w.cell? ⟨b,o+j*2,none⟩=some (.int .i64 y)/\¬y<node/\Hid (i=j))∨(j=n/\Hid (i=j))):=by
  intro j hj hne;subst hl hi;by_cases aC:j<l.length
  ·obtain ⟨b,o,rfl,k0,-⟩:=cC h aC
   by_cases hk:(l.getD j (0,0)).1<node
   ·refine .inl ⟨b,o,_,by omega,rfl,k0,hk,fun i hi=> ?_⟩
    by_cases e:i<j
    ·exact hne i e
    ·rw [show i=j by omega];exact hk
   ·exact .inr (.inl ⟨b,o,_,by omega,rfl,k0,hk,XQ aC hne hk⟩)
  ·have e:j=l.length:=by omega
   exact .inr (.inr ⟨e,by subst e;exact Ry hne⟩)
 have qE:CA.length=Nat.min i (n+1)*2:=by rw[lA];congr 1;exact(Nat.min_eq_left (by omega)).symm
 have jJ:CB.length=Nat.min (n-i) (n+1-(i+1))*2:=by rw[lB];congr 1;exact(Nat.min_eq_left (by omega)).symm
 have VH:=hid (fun u (hb:Below w.heap.size w u)=>hA.on hb)
 have bJ:Hid (∀u,Below w.heap.size w u->rA u q3 CB):=fun u hb=>by
  rcases hB with hB | ⟨b,o,rfl,hB⟩
  ·exact .inl hB
  ·rcases Q3 with h | rfl
   ·exact .inl (List.eq_nil_of_length_eq_zero (by omega))
   ·exact .inr ⟨b,o+i*2,by simp[Addr.add_mid],nV hB hb⟩
 have HDP:Hid (∀g q2,(n+1-(i+1)=0∨q2=(some (⟨g,0,none⟩:Addr)).map (·.add ((i+1)*2)))->CB=[]∨q2=some ⟨g,(i+1)*2,none⟩):=fun g q2 h=>by
  rcases h with h | rfl
  ·exact .inl (List.eq_nil_of_length_eq_zero (by omega))
  ·exact .inr (by simp[Addr.add_mid])
 have HS:Hid (∀g,∃q2,(∀w,(Instr.slice 78 (.slice (some ⟨g,0,none⟩) (n+1) (n+1)) (some (.int .i64 ((i:Int)+1))) none none).run prog w=.ok (.slice q2 (n+1-(i+1)) (n+1-(i+1))) w)/\(n+1-(i+1)=0∨q2=(some (⟨g,0,none⟩:Addr)).map (·.add ((i+1)*2)))):=fun g =>
  lM prog 78 141 2 underlying78 wZ (some ⟨g,0,none⟩) (n+1) (n+1) (i+1) ((i:Int)+1) (by omega) (by omega) (by omega)
 have Ax:i*2+[Value.int .i64 node,.int .i64 am].length<=(n+1)*2:=by simp;omega
 have mN:(i+1)*2+CB.length<=(n+1)*2:=by rw[lB];omega
 have XJ:(i:Int)<=(n:Int):=by omega
 clear hB Q3 hA h hl hi;go_enter func203,ntmps203
 go_wp2;generalize w.alloc (.cells #[.int .i64 node,.int .i64 am] 141)=W1 at *;clear r0 r1;go_loopw [5] (fun v wr=>∃j:Nat,j<=n/\v=.int .i64 (j:Int)/\Hid (∀i,i<j->(l.getD i (0,0)).1<node)/\Below W1.heap.size W1 wr) (fun v _=>n-(intOf v).toNat)
 case atStart=>exact ⟨0,by omega,rfl,(fun i hi=>by omega),Below.refl _ _⟩
 case round =>
  obtain⟨j,hj,rfl,hne,aW⟩:=hrel;have M1:=hid (M0.out.on aW);obtain⟨r0,r1,-⟩:=eB (M1.out.boxes 0 _ _ _ rfl);rcases GY.out j hj hne.out with ⟨b,o,y,aC,rfl,U9,hk,hN⟩ | ⟨b,o,y,aC,hp,U9,hk,hR⟩ | ⟨hjn,hR⟩
  ·have k0:=af U9 M1.out.below
   have g1:decide ((j:Int)<(n:Int))=true:=by simp;omega
   have g2:decide (y<node)=true:=by simp;omega
   have cA:=hid aW;clear GY hne U9 VH bJ HDP HS S1 S3 qE jJ Ax mN aW;go_wp2;go_quiet (fail)
   go_wp2;go_roundw
   case rel=>exact ⟨j+1,by omega,by go_num,hN,cA.out.trans ((ag _ _).mono cA.out.size)⟩
   case measure=>simp only[intOf];omega
  case' inr.inl =>
   have k0:=af U9 M1.out.below;obtain rfl:=hR.out;subst hp;have g1:decide ((i:Int)<(n:Int))=true:=by simp;omega
   have g2:decide (y<node)=false:=by simp;omega
   clear U9 GY hne hR aW;go_wp2;go_quiet (fail)
   clear k0;generalize(some (⟨b,o,none⟩:Addr))=p at *
  case' inr.inr =>
   obtain rfl:=hR.out;have g1:decide (i<n)=false:=by simp;omega
   clear GY hne hR aW hjn;go_wp2;go_quiet (fail)
  all_goals
   clear r0 r1;go_wp2_with (first
    |(at_make;refine iC rfl (.tmp 25) (.tmp 25) 78 rfl 141 i0 (.agg #[.int .i64 0,.int .i64 0]) 2 underlying78 Ps hz0 hz1 .i64 .i64 _ _ (n+1) rfl rfl (by omega) (by omega) (by rw[hz2];omega) (by omega) ?_;intro w1 b1 s1 t1;obtain⟨q2,S2,Q2⟩:=HS.out wr.heap.size;have F1:Hid (rD wr wr.heap.size ((n+1)*2) [] w1):=hid (rD.mk t1 (fun j v hv=>by simp at hv) ((ag wr _).trans b1) (Nat.le_refl _));clear t1 b1 s1)
    |((with_reducible refine iB (o:=⟨some 31,_,_,_,_,_⟩) rfl (.tmp 27) (.tmp 30) 78 78 rfl 141 2 underlying78 wZ (some ⟨wr.heap.size,0,none⟩) p (n+1) (n+1) i (c+n) rfl rfl wr.heap.size 0 CA qE (VH.out _ (M1.out.below.trans (F1.out.below.mono M1.out.below.size))) (.inr rfl) (F1.out.sub 0 _ (by omega)) oA ?_);intro w2 e2;have F2:=hid (F1.out.step e2.out rfl (by omega));clear F1 e2;obtain⟨r0,r1,-⟩:=eB ((M1.out.on F2.out.below).boxes 0 _ _ _ rfl);obtain⟨z0,y0,f0⟩:=F2.out.cell (o:=i*2) (by omega);obtain⟨z1,y1,f1⟩:=F2.out.cell (o:=i*2+1) (by omega)))
   have F3:=F2.out.step (u':=(w2.setCell ⟨wr.heap.size,i*2,none⟩ (.int .i64 node)).setCell ⟨wr.heap.size,i*2+1,none⟩ (.int .i64 am)) (cs:=[.int .i64 node,.int .i64 am]) rfl lA Ax;generalize(w2.setCell ⟨wr.heap.size,i*2,none⟩ (.int .i64 node)).setCell ⟨wr.heap.size,i*2+1,none⟩ (.int .i64 am)=w3 at *;have I0:=bJ.out w3 (M1.out.below.trans (F3.below.mono M1.out.below.size));have SC:=HDP.out _ _ Q2;have N3:=F3.sub ((i+1)*2) CB.length mN;have OQ:=hid F3;clear F3 F2 y0 y1 f0 f1 r0 r1 bJ HDP Q2 HS S1 VH qE;have e1:IntKind.i64.wrap ((i:Int)+1)=(i:Int)+1:=IntWalk.i64_in _ (by omega)
   go_region_law (refine jw rfl (.tmp 39) (.tmp 42) 78 78 rfl 141 2 underlying78 wZ q2 q3 (n+1-(i+1)) (n+1-(i+1)) (n-i) (c+n-i) (by simp[Act.eval,Act.put]) (by simp[Act.eval,Act.put]) wr.heap.size ((i+1)*2) CB jJ (wV rfl I0) SC (qj rfl N3) oB ?_;intro w4 e4)
   all_goals
    have F4:=hid ((OQ.out.same (Below.refl _ _).drew).step e4.out (by simp[lA];omega) mN)
    clear e4 S2 S3 e1 I0 SC N3;go_wp2;go_ret;exact⟨wr.heap.size,rfl,M1.out.below.size,(by have h:=F4.out.has;rw[List.append_assoc] at h;exact h),M1.out.below.trans (F4.out.below.mono M1.out.below.size)⟩
theorem OZ (l:List (Int×Int))(p:Option Addr)(c:Nat)(node am:Int)(w:World)(hn:l.length<=1000)(h:ak w p l)(hu:Ei l)(h0:∀y∈l,y.1≠node) :
 Calls prog 203 #[.slice p l.length (c+l.length),.agg #[.int .i64 node,.int .i64 am]] w fun e w'=>∃g n,e=.returned (.slice (some ⟨g,0,none⟩) n n)/\n=(bL l (node,am)).length/\w.heap.size<=g/\ak w' (some ⟨g,0,none⟩) (bL l (node,am))/\Below w.heap.size w w':=by
 have hm:=GN h;have key:∀i,i<=l.length->lo l node=i->bL l (node,am)=l.take i++(node,am) :: l.drop i ->
  Calls prog 203 #[.slice p l.length (c+l.length),.agg #[.int .i64 node,.int .i64 am]] w fun e w'=>∃g n,e=.returned (.slice (some ⟨g,0,none⟩) n n)/\n=(bL l (node,am)).length/\w.heap.size<=g/\ak w' (some ⟨g,0,none⟩) (bL l (node,am))/\Below w.heap.size w w':=by
  intro i hi Vx hs;have e1:l=l.take i++l.drop i:=(List.take_append_drop i l).symm;have lA:(df (l.take i)).length=i*2:=by rw[mB,List.length_take,Nat.min_eq_left (by omega)]
  have lB:(df (l.drop i)).length=(l.length-i)*2:=by rw[mB,List.length_drop]
  have Ax:=hm;rw[e1,xO] at Ax;have hB:df (l.drop i)=[]∨∃b o,p=some ⟨b,o,none⟩/\w.rangeAt b (o+i*2) (df (l.drop i)):=by
   rcases Ax with Ax | ⟨b,o,e,Ax⟩
   ·exact .inl (List.append_eq_nil_iff.1 Ax).2
   ·refine .inr ⟨b,o,e,?_⟩
    have:=(jI.1 Ax).2;rwa [lA] at this
  refine(LI l p l.length c i node am w _ _ rfl hn h Vx hi Ax.left lA (wU _) hB lB (wU _)).mono ?_;rintro e w' ⟨g,rfl,hg,hr,hb⟩;refine⟨g,_,rfl,by rw[pk],hg,?_,hb⟩
  rw[hs];refine .inr ⟨g,0,rfl,GQ ?_⟩;have e2:df (l.take i++(node,am) :: l.drop i)=df (l.take i)++([.int .i64 node,.int .i64 am]++df (l.drop i)):=by simp[df]
  rw[e2];exact hr
 have getD:∀j (hj:j<l.length),l.getD j (0,0)=l[j]:=fun j hj=>by simp[List.getD,hj]
 have lt:∀i j (og:i<j) (hj:j<l.length),(l[i]'(by omega)).1<l[j].1:=fun i j og hj=>List.pairwise_iff_getElem.1 hu i j (by omega) hj og
 have Mb:lo l node<=l.length/\(∀i (hi:i<l.length),i<lo l node->l[i].1<node)/\(∀i (hi:i<l.length),lo l node<=i->node<l[i].1):=by
  rcases bA (fun y:Int×Int=>decide (node<=y.1)) (0,0) l with ⟨h1,h2⟩ | ⟨j,h1,h2,h3,h4⟩
  ·have e:lo l node=l.length:=by unfold lo;rw[h1,if_pos (by omega)]
   rw[e];refine⟨Nat.le_refl _,fun i hi _=> ?_,fun i hi h=>by omega⟩
   have h5:=h2 i hi;rw[getD i hi] at h5;simp only[decide_eq_false_iff_not] at h5;omega
  ·have e:lo l node=j:=by unfold lo;rw[h1,if_neg (by omega),Int.toNat_natCast]
   rw[e];rw[getD j h2] at h3;simp only[decide_eq_true_eq] at h3;refine⟨by omega,fun i hi og=> ?_,fun i hi og=> ?_⟩
   ·have h5:=h4 i og
    rw[getD i hi] at h5;simp only[decide_eq_false_iff_not] at h5;omega
   ·have hne:=h0 _ (List.getElem_mem h2)
    by_cases e:i=j
    ·subst e;omega
    ·have:=lt j i (by omega) hi
     omega
 obtain⟨g1,g2,g3⟩:=Mb;refine key _ g1 rfl ?_;generalize lo l node=i at *;have e1:bL l (node,am)=bL (l.take i++l.drop i) (node,am):=by rw[List.take_append_drop]
 rw[e1];refine xH (fun y hy=> ?_) (fun y hy=> ?_)
 ·obtain ⟨q,hq,rfl⟩:=List.mem_iff_getElem.1 hy
  simp only[List.length_take] at hq;rw[List.getElem_take];exact g2 q (by omega) (by omega)
 ·obtain ⟨q,hq,rfl⟩:=List.mem_iff_getElem.1 hy
  simp only[List.length_drop] at hq;rw[List.getElem_drop];exact g3 (i+q) (by omega) (by omega)
theorem DN (zs:List Int)(p:Option Addr)(c:Nat)(w:World)(hl:zs.length<=1000)(hc:∀k,k<zs.length->∃b o,p=some ⟨b,o,none⟩/\w.cell? ⟨b,o+k,none⟩=some (.int .i64 (zs.getD k 0)))(hu:∀k,k+1<zs.length->zs.getD k 0<zs.getD (k+1) 0) :
 Calls prog 149 #[.slice p zs.length c] w fun e w'=>e=.returned (.slice p zs.length c)/\Below w.heap.size w w':=by
 have HC:=hid hc;have HU:=hid hu;clear hc hu;generalize hn:zs.length=n at *;by_cases h2:(n:Int)<2
 ·go_enter func149,ntmps149
  go_wp2;go_ret;exact⟨rfl,Below.refl _ _⟩
 ·go_enter func149,ntmps149
  go_wp2;go_loopw [3] (fun v wr=>∃j:Nat,j+1<=n/\v=.int .i64 ((j:Int)+1)/\Below w.heap.size w wr) (fun v _=>n-(intOf v).toNat)
  case atStart=>exact ⟨0,by omega,rfl,Below.refl _ _⟩
  case round =>
   obtain⟨j,hj,rfl,aW⟩:=hrel;by_cases aC:j+1<n
   ·obtain ⟨b,o,rfl,qC⟩:=HC.out (j+1) (by omega)
    obtain⟨b',o',e,o9⟩:=HC.out j (by omega)
    simp only[Option.some.injEq,Addr.mk.injEq,and_true] at e;obtain⟨rfl,rfl⟩:=e;have x1:=Zx.af qC aW;have x0:=Zx.af o9 aW;have hne:=HU.out j aC;generalize zs.getD j 0=y0 at *;generalize zs.getD (j+1) 0=y1 at *;have bE:(j:Int)+1<(n:Int):=by omega
    have ku:(j:Int)<(n:Int):=by omega
    have e1:IntKind.i64.wrap ((j:Int)+1-1)=(j:Int):=by rw[Int.add_sub_cancel];exact IntWalk.i64_in _ (by omega)
    have e2:((j:Int)+1).toNat=j+1:=by omega
    have g1:(y1==y0)=false:=by simp;omega
    have cA:=hid aW;clear aW o9 qC;go_wp2;go_quiet (fail)
    go_wp2;go_roundw
    case rel=>exact ⟨j+1,by omega,by simp,cA.out.trans ((ag _ _).mono cA.out.size)⟩
    case measure=>simp only[intOf];omega
   ·have JO:¬((j:Int)+1<(n:Int)):=by omega
    have cA:=hid aW;clear aW;go_wp2;go_ret;exact⟨rfl,cA.out⟩
end Zv
end Go.Proofs.YtbgdlokegibkmaaGreat
