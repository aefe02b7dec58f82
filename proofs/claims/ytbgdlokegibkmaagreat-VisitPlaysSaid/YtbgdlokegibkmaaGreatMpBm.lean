/-
  A part of the proof of VisitPlays.
-/
import Derived.Test.YtbgdlokegibkmaaGreatMpBk
set_option maxRecDepth 100000
set_option maxHeartbeats 4000000
namespace Go.Proofs.YtbgdlokegibkmaaGreat
open Go.RowKit
open Tryz
open Lib (hid)
namespace Zv
open Zx (Rw Tb aq ak af)
open Zq (aI cO ae aj ai)
open Zr (dh add sub mul dD dM dN ft jE oC qL jN jm)
theorem DO (start key node aF:Int)(p:Option Addr)(nm c:Nat)(w:World)(fk fa fm:Int)(px:Option Addr)(nx cx:Nat)(fd q b:Bool)(sm fw f2 am av:Int)(X:World->Option Addr->Prop)(hX:J8 X)(NT rF:Nat)(tl:Int)
 (eH:∀u,Below w.heap.size w u->Calls prog 153 #[.agg #[.int .i64 start,.slice p nm (c+nm)],.int .i64 key] u fun e u'=>e=.returned (.tuple #[.agg #[.int .i64 fk,.int .i64 fa,.int .i64 fm,.slice px nx (cx+nx)],.bool fd])/\Below u.heap.size u u')
 (eU:∀u,Below w.heap.size w u->Calls prog 147 #[.agg #[.int .i64 fk,.int .i64 fa,.int .i64 fm,.slice px nx (cx+nx)],.int .i64 node] u fun e u'=>e=.returned (.tuple #[.int .i64 sm,.bool q])/\Below u.heap.size u u')
 (ur:∀u,Calls prog 202 #[.int .i64 node] u fun e u'=>e=.returned (.bool b)/\u'=u)
 (uu:¬am=0->q=false->b=true->∀u,Below w.heap.size w u->Calls prog 203 #[.slice px nx (cx+nx),.agg #[.int .i64 node,.int .i64 am]] u fun e u'=>∃p' c',e=.returned (.slice p' rF (c'+rF))/\(∀v,Below w.heap.size w v->(∀b,u.heap.size<=b->v.heap[b]? =u'.heap[b]?)->Calls prog 156 #[.slice p nm (c+nm),.agg #[.int .i64 fk,.int .i64 av,.int .i64 fm,.slice p' rF (c'+rF)]] v fun e v'=>∃p' c',e=.returned (.slice p' NT (c'+NT))/\X v' p'/\Below v.heap.size v v')/\Below u.heap.size u u')
 (hfw:fw=dh aF) (hf2:f2=dh fa) (PD:am=min (min fw f2) 2147483648) (C4:av=sub fa am)
 (b9:(am=0/\tl=0/\NT=nm/\X w p)∨(¬am=0/\q=true/\tl=0/\NT=nm/\X w p)∨(¬am=0/\q=false/\b=false/\tl=0/\NT=nm/\X w p)∨(¬am=0/\q=false/\b=true/\tl=am)) :
 Calls prog 163 #[.agg #[.int .i64 start,.slice p nm (c+nm)],.int .i64 key,.int .i64 node,.int .i64 aF] w fun e w'=>∃p' c',e=.returned (.tuple #[.agg #[.int .i64 start,.slice p' NT (c'+NT)],.int .i64 tl])/\X w' p'/\Below w.heap.size w w':=by
 have M0:=hid (((Mem.start w).box #[.int .i64 start,.slice p nm (c+nm)] 28).box #[.int .i64 0,.slice none 0 0] 28);simp only[size_alloc] at M0;have zu:=eH _ M0.out.below;have DR:=ft aF;have DS:=ft fa;rw[<-hfw] at DR;rw[<-hf2] at DS;have QD:=fun ts t w=>sI fw f2 am PD ts t w
 have jr:=jE fa am;rw[<-C4] at jr;obtain⟨t0,t1,-⟩:=eB (M0.out.boxes 1 _ _ _ rfl);clear eH hfw hf2 PD C4;rcases b9 with ⟨rfl,rfl,rfl,hx⟩ | ⟨h1,rfl,rfl,rfl,hx⟩ | ⟨h1,rfl,rfl,rfl,rfl,hx⟩ | ⟨h1,rfl,rfl,rfl⟩
 ·have HX:=hid hx
  clear hx uu;go_enter func163,ntmps163
  go_wp2_with (first
   |(go_at_call 153;(with_reducible refine zu.mono ?_);rintro e u1 ⟨rfl,hb⟩;have aC:=ae ((M0.out.on hb).boxes 0 _ _ _ rfl);have M1:=hid ((M0.out.on hb).box #[.int .i64 fk,.int .i64 fa,.int .i64 fm,.slice px nx (cx+nx)] 80);clear hb t0 t1 zu;obtain⟨r0,r1,r2,r3,-⟩:=dG (M1.out.boxes 0 _ _ _ rfl)))
  have MD:=hid M1.out.drew;go_region_held3 (fun u=>u.cell? ⟨u1.heap.size,1,none⟩=some (.int .i64 fa)) (first | assumption) (first
   |(go_at_call 100;(with_reducible refine(DR _).mono ?_);rintro e u2 ⟨rfl,rfl⟩)
   |(go_at_call 100;(with_reducible refine(DS _).mono ?_);rintro e u2 ⟨rfl,rfl⟩))
  all_goals
   clear r0 r1 r2 r3;obtain⟨r0,r1,r2,r3,-⟩:=dG (MD.out.boxes 0 _ _ _ rfl);go_wp2_with (first
    |(go_at_call 147;(with_reducible refine(eU _ MD.out.below).mono ?_);rintro e u3 ⟨rfl,hb⟩;have M2:=hid (MD.out.on hb);clear hb eU r0 r1 r2 r3;obtain⟨t0,t1,-⟩:=eB (M2.out.boxes 2 _ _ _ rfl);obtain⟨d0,d1,ff⟩:=eB (M2.out.boxes 1 _ _ _ rfl);have f0:=ff 0;have f1:=ff 1;clear ff)
    |(go_at_call 202;(with_reducible refine(ur _).mono ?_);rintro e u4 ⟨rfl,rfl⟩))
   refine bodyPost_ret (v:=.tuple #[.agg #[.int .i64 start,.slice p NT (c+NT)],.int .i64 0]) (by simp[results,results163,go_sem,d0,d1]) rfl ?_
   exact fR hX _ (by omega) (M2.out.boxes 1 _ _ _ rfl) (hX.on HX.out M2.out.below) M2.out.below (fun v=>.tuple #[v,.int .i64 0])
 ·have HX:=hid hx
  clear hx uu;go_enter func163,ntmps163
  go_wp2_with (first
   |(go_at_call 153;(with_reducible refine zu.mono ?_);rintro e u1 ⟨rfl,hb⟩;have aC:=ae ((M0.out.on hb).boxes 0 _ _ _ rfl);have M1:=hid ((M0.out.on hb).box #[.int .i64 fk,.int .i64 fa,.int .i64 fm,.slice px nx (cx+nx)] 80);clear hb t0 t1 zu;obtain⟨r0,r1,r2,r3,-⟩:=dG (M1.out.boxes 0 _ _ _ rfl)))
  have MD:=hid M1.out.drew;go_region_held3 (fun u=>u.cell? ⟨u1.heap.size,1,none⟩=some (.int .i64 fa)) (first | assumption) (first
   |(go_at_call 100;(with_reducible refine(DR _).mono ?_);rintro e u2 ⟨rfl,rfl⟩)
   |(go_at_call 100;(with_reducible refine(DS _).mono ?_);rintro e u2 ⟨rfl,rfl⟩))
  all_goals
   clear r0 r1 r2 r3;obtain⟨r0,r1,r2,r3,-⟩:=dG (MD.out.boxes 0 _ _ _ rfl);go_wp2_with (first
    |(go_at_call 147;(with_reducible refine(eU _ MD.out.below).mono ?_);rintro e u3 ⟨rfl,hb⟩;have M2:=hid (MD.out.on hb);clear hb eU r0 r1 r2 r3;obtain⟨t0,t1,-⟩:=eB (M2.out.boxes 2 _ _ _ rfl);obtain⟨d0,d1,ff⟩:=eB (M2.out.boxes 1 _ _ _ rfl);have f0:=ff 0;have f1:=ff 1;clear ff)
    |(go_at_call 202;(with_reducible refine(ur _).mono ?_);rintro e u4 ⟨rfl,rfl⟩))
   refine bodyPost_ret (v:=.tuple #[.agg #[.int .i64 start,.slice p NT (c+NT)],.int .i64 0]) (by simp[results,results163,go_sem,d0,d1]) rfl ?_
   exact fR hX _ (by omega) (M2.out.boxes 1 _ _ _ rfl) (hX.on HX.out M2.out.below) M2.out.below (fun v=>.tuple #[v,.int .i64 0])
 ·have HX:=hid hx
  clear hx uu;go_enter func163,ntmps163
  go_wp2_with (first
   |(go_at_call 153;(with_reducible refine zu.mono ?_);rintro e u1 ⟨rfl,hb⟩;have aC:=ae ((M0.out.on hb).boxes 0 _ _ _ rfl);have M1:=hid ((M0.out.on hb).box #[.int .i64 fk,.int .i64 fa,.int .i64 fm,.slice px nx (cx+nx)] 80);clear hb t0 t1 zu;obtain⟨r0,r1,r2,r3,-⟩:=dG (M1.out.boxes 0 _ _ _ rfl)))
  have MD:=hid M1.out.drew;go_region_held3 (fun u=>u.cell? ⟨u1.heap.size,1,none⟩=some (.int .i64 fa)) (first | assumption) (first
   |(go_at_call 100;(with_reducible refine(DR _).mono ?_);rintro e u2 ⟨rfl,rfl⟩)
   |(go_at_call 100;(with_reducible refine(DS _).mono ?_);rintro e u2 ⟨rfl,rfl⟩))
  all_goals
   clear r0 r1 r2 r3;obtain⟨r0,r1,r2,r3,-⟩:=dG (MD.out.boxes 0 _ _ _ rfl);go_wp2_with (first
    |(go_at_call 147;(with_reducible refine(eU _ MD.out.below).mono ?_);rintro e u3 ⟨rfl,hb⟩;have M2:=hid (MD.out.on hb);clear hb eU r0 r1 r2 r3;obtain⟨t0,t1,-⟩:=eB (M2.out.boxes 2 _ _ _ rfl);obtain⟨d0,d1,ff⟩:=eB (M2.out.boxes 1 _ _ _ rfl);have f0:=ff 0;have f1:=ff 1;clear ff)
    |(go_at_call 202;(with_reducible refine(ur _).mono ?_);rintro e u4 ⟨rfl,rfl⟩))
   refine bodyPost_ret (v:=.tuple #[.agg #[.int .i64 start,.slice p NT (c+NT)],.int .i64 0]) (by simp[results,results163,go_sem,d0,d1]) rfl ?_
   exact fR hX _ (by omega) (M2.out.boxes 1 _ _ _ rfl) (hX.on HX.out M2.out.below) M2.out.below (fun v=>.tuple #[v,.int .i64 0])
 ·have hle:=uu h1 rfl rfl
  have hz:(tl==0)=false:=by simpa using h1
  clear uu;go_enter func163,ntmps163
  go_wp2_with (first
   |(go_at_call 153;(with_reducible refine zu.mono ?_);rintro e u1 ⟨rfl,hb⟩;have aC:=ae ((M0.out.on hb).boxes 0 _ _ _ rfl);have M1:=hid ((M0.out.on hb).box #[.int .i64 fk,.int .i64 fa,.int .i64 fm,.slice px nx (cx+nx)] 80);clear hb t0 t1 zu;obtain⟨r0,r1,r2,r3,-⟩:=dG (M1.out.boxes 0 _ _ _ rfl)))
  have MD:=hid M1.out.drew;go_region_held3 (fun u=>u.cell? ⟨u1.heap.size,1,none⟩=some (.int .i64 fa)) (first | assumption) (first
   |(go_at_call 100;(with_reducible refine(DR _).mono ?_);rintro e u2 ⟨rfl,rfl⟩)
   |(go_at_call 100;(with_reducible refine(DS _).mono ?_);rintro e u2 ⟨rfl,rfl⟩))
  all_goals
   clear r0 r1 r2 r3;obtain⟨r0,r1,r2,r3,-⟩:=dG (MD.out.boxes 0 _ _ _ rfl);go_wp2_with (first
    |(go_at_call 147;(with_reducible refine(eU _ MD.out.below).mono ?_);rintro e u3 ⟨rfl,hb⟩;have M2:=hid (MD.out.on hb);clear hb eU r0 r1 r2 r3;obtain⟨r0,r1,r2,r3,ff⟩:=dG (M2.out.boxes 0 _ _ _ rfl);have f1:=ff 1;clear ff)
    |(go_at_call 202;(with_reducible refine(ur _).mono ?_);rintro e u4 ⟨rfl,hu⟩;subst hu)
    |(go_at_call 154;(with_reducible refine(jr _).mono ?_);rintro e u5 ⟨rfl,hu⟩;subst hu;have M3:=hid (M2.out.uX (by omega) (by intro x hx;simp at hx;rcases hx with rfl | rfl <;>simp <;>omega) 1 (.int .i64 av)))
    |(go_at_call 203;(with_reducible refine(hle _ M3.out.below).mono ?_);rintro e u6 ⟨p4,c4,rfl,hw4,hb⟩;have M4:=hid (M3.out.on hb);have Mm:=hid hw4;have agO:=ae (M3.out.boxes 0 _ _ _ rfl);clear hb hw4 r0 r1 r2 r3 f1;obtain⟨r0,r1,r2,r3,ff⟩:=dG (M4.out.boxes 0 _ _ _ rfl);have f3:=ff 3;clear ff))
   have M5:=hid ((M4.out.uX (by omega) (by intro x hx;simp at hx;rcases hx with rfl | rfl <;>simp <;>omega) 3 (.slice p4 rF (c4+rF))))
   have hw:=Mm.out (u6.setCell ⟨u1.heap.size,3,none⟩ (.slice p4 rF (c4+rF))).drew M5.out.drew.below (fun b hb=>Below.heap_setCell u6 _ _ _ (by simp;omega))
   clear r0 r1 r2 r3 f3 Mm M4;generalize(u6.setCell ⟨u1.heap.size,3,none⟩ (.slice p4 rF (c4+rF)))=u5 at *;have MD:=hid M5.out.drew;obtain⟨r0,r1,r2,r3,-⟩:=dG (M5.out.boxes 0 _ _ _ rfl);obtain⟨t0,t1,-⟩:=eB (M5.out.boxes 2 _ _ _ rfl);go_region_held3 (fun u=>u.cell? ⟨w.heap.size,0,none⟩=some (.int .i64 start)/\u.cell? ⟨w.heap.size,1,none⟩=some (.slice p nm (c+nm))/\u.cell? ⟨u1.heap.size,0,none⟩=some (.int .i64 fk)/\u.cell? ⟨u1.heap.size,1,none⟩=some (.int .i64 av)/\u.cell? ⟨u1.heap.size,2,none⟩=some (.int .i64 fm)/\u.cell? ⟨u1.heap.size,3,none⟩=some (.slice p4 rF (c4+rF))) (first | assumption | exact SN.out | exact⟨t0,t1,r0,r1,r2,r3⟩ | exact⟨cE (by omega) SN.out.1,cE (by omega) SN.out.2.1,cE (by omega) SN.out.2.2.1,cE (by omega) SN.out.2.2.2.1,cE (by omega) SN.out.2.2.2.2.1,cE (by omega) SN.out.2.2.2.2.2⟩) (first
    |(go_at_call 156;(with_reducible refine hw.mono ?_);rintro e u9 ⟨p9,c9,rfl,OU,OV⟩;have M9:=hid (MD.out.on OV);have UF:=hid OU;have SN:=hid (And.intro (eB (M9.out.boxes 2 _ _ _ rfl)).1 (And.intro (eB (M9.out.boxes 2 _ _ _ rfl)).2.1 (And.intro (dG (M9.out.boxes 0 _ _ _ rfl)).1 (And.intro (dG (M9.out.boxes 0 _ _ _ rfl)).2.1 (And.intro (dG (M9.out.boxes 0 _ _ _ rfl)).2.2.1 (dG (M9.out.boxes 0 _ _ _ rfl)).2.2.2.1)))));obtain⟨d0,d1,ff⟩:=eB (M9.out.boxes 1 _ _ _ rfl);have f0:=ff 0;have f1:=ff 1;clear ff OU OV))
   all_goals
    go_wp2;refine bodyPost_ret (v:=.tuple #[.agg #[.int .i64 start,.slice p9 NT (c9+NT)],.int .i64 tl]) (by simp[results,results163,go_sem,d0,d1]) rfl ?_
    exact fR hX _ (by omega) (M9.out.boxes 1 _ _ _ rfl) UF.out M9.out.below (fun v=>.tuple #[v,.int .i64 tl])
theorem DT {n:Nat}{t:Tb}(p:Option Addr)(c:Nat)(key node aF:Int)(w:World)(h:cI n t)(hn:n<=61)(hk:bC key)(hr:ar w p t.rows) :
 Calls prog 163 #[bN t p c,.int .i64 key,.int .i64 node,.int .i64 aF] w (kO w p t (aQ t key node aF).1 (fun v=>.tuple #[v,.int .i64 (aQ t key node aF).2])):=by
 obtain⟨hl,ho⟩:=lF h.dJ hn;obtain⟨m,hO⟩:=I1 hr;have aT:=hO.len;have XL:ar w p (m.map (·.1)):=by rw[hO.row];exact hr
 have hF:=ql t m key hO.row;have Ee:=hO.found key;have hB:=iM h.dJ hk;have hU:=lG h key;have eH:=fun u (hb:Below w.heap.size w u)=>tr t.start m p c key u (by omega) (XL.below hb) (hO.cQ.on hb)
 have hL:(bw t.start m key).1.out.length<=1000:=by rw[hF];have:=hB.len;omega
 have eU:=fun u (hb:Below w.heap.size w u)=>wX (bw t.start m key).1 (bw t.start m key).2.1 (bw t.start m key).2.2 node u (Ee.below hb) hL
 have uu:=fun (am:Int) (h0:∀y∈(bw t.start m key).1.out,y.1≠node) u (hb:Below w.heap.size w u)=>OZ (bw t.start m key).1.out (bw t.start m key).2.1 (bw t.start m key).2.2 node am u hL (Ee.below hb) (by rw[hF];exact hU) h0
 have ur:=fun u=>pL node u
 have tv:bN t p c=.agg #[.int .i64 t.start,.slice p m.length (c+m.length)]:=by unfold bN;rw[aT]
 rw[tv];generalize bw t.start m key=x at *;obtain⟨F,q,cx⟩:=x;simp only at hF Ee hL eU uu;subst hF;have Vx:=wW hU node fun y hy=>(hB.out y hy).2
 have Yk:dh (ah t key).ay=(ah t key).ay:=dN hB.lo hB.hi;have Kw:bT (ah t key) aF=min (min (dh aF) (dh (ah t key).ay)) 2147483648:=by unfold bT;rw[Yk]
 have hg0:0<=bT (ah t key) aF:=by have:=dD aF;have:=hB.lo;unfold bT;omega
 have EH:bT (ah t key) aF<=(ah t key).ay:=by unfold bT;omega
 have hfi:et t key=true∨bT (ah t key) aF=0:=by
  by_cases h1:0<=au t.rows key
  ·exact .inl (decide_eq_true h1)
  ·right
   have:(ah t key).ay=0:=by unfold ah;rw[if_pos (by omega)]
   omega
 have tx:=fun (qq:Bool) (sm av:Int) (NT rF:Nat) (tl:Int) (L:List Rw)=>DO t.start key node aF p m.length c w (ah t key).key (ah t key).ay (ah t key).mark q (ah t key).out.length cx (decide (0<=au (m.map (·.1)) key)) qq (decide (0<=node/\node<=63)) sm (dh aF) (dh (ah t key).ay) (bT (ah t key) aF) av (AY w p t.rows L) (tu w p t.rows L) NT rF tl
 have jr:sub (ah t key).ay (bT (ah t key) aF)=(ah t key).ay-bT (ah t key) aF:=by
  have:=hB.hi;unfold sub;rw[Yk,dN (x:=bT (ah t key) aF) (by omega) (by omega),dN (by omega) (by omega)]
 by_cases hm:fe t key node aF=true
 ·have Mi:=hm
  simp only[fe,Bool.and_eq_true,decide_eq_true_eq] at Mi;obtain⟨⟨⟨⟨m1,m2⟩,m3⟩,m4⟩,m5⟩:=Mi;have hl2:fP node (ah t key).out=(0,false):=by
   rcases Vx with ⟨-,h2⟩ | ⟨h1,-⟩
   ·exact h2
   ·omega
  rw[hl2] at eU;have hle:=uu (bT (ah t key) aF) (CC m5);have e:aQ t key node aF=(setRow t ⟨(ah t key).key,(ah t key).ay-bT (ah t key) aF,(ah t key).mark,bL (ah t key).out (node,bT (ah t key) aF)⟩,bT (ah t key) aF):=by unfold aQ;rw[if_pos hm];rfl
  rw[e];generalize bT (ah t key) aF=G at *;generalize bL (ah t key).out (node,G)=L2 at *;refine(tx false 0 ((ah t key).ay-G) (setRow t ⟨(ah t key).key,(ah t key).ay-G,(ah t key).mark,L2⟩).rows.length L2.length G (setRow t ⟨(ah t key).key,(ah t key).ay-G,(ah t key).mark,L2⟩).rows eH eU ur (fun _ _ _ u hb=> ?_) rfl rfl Kw jr.symm (.inr (.inr (.inr ⟨by omega,rfl,decide_eq_true ⟨m3,m4⟩,rfl⟩)))).mono ?_
  ·refine (hle u hb).mono ?_
   rintro e u' ⟨g,n',rfl,zO,hg,hl',hb'⟩;subst zO;refine⟨some ⟨g,0,none⟩,0,by rw[Nat.zero_add],fun v hv hk=> ?_,hb'⟩
   refine hO.put c (⟨(ah t key).key,(ah t key).ay-G,(ah t key).mark,L2⟩,(some ⟨g,0,none⟩,0)) u u' v hb.size hv hk (by omega) ?_ h.up
   rcases hl' with hl' | ⟨b,o,e,hc⟩
   ·exact .inl hl'
   ·simp only[Option.some.injEq,Addr.mk.injEq,and_true] at e
    obtain⟨rfl,rfl⟩:=e;exact .inr ⟨g,0,rfl,hg,hc⟩
  ·rintro e w' ⟨p',c',rfl,hx,hb⟩
   exact⟨p',c',rfl,hx,hb⟩
 ·have e:aQ t key node aF=(t,0):=by unfold aQ;rw[if_neg hm]
  rw[e];have hno:bT (ah t key) aF=0∨(¬bT (ah t key) aF=0/\(0<=cF (ah t key).out node∨cF (ah t key).out node<0/\¬(0<=node/\node<=63))):=by
   by_cases h1:bT (ah t key) aF=0
   ·exact .inl h1
   ·refine .inr ⟨h1,?_⟩
    by_cases h2:0<=cF (ah t key).out node
    ·exact .inl h2
    ·refine .inr ⟨by omega,fun h3=>hm ?_⟩
     simp only[fe,Bool.and_eq_true,decide_eq_true_eq];refine⟨⟨⟨⟨?_,by omega⟩,h3.1⟩,h3.2⟩,by omega⟩
     rcases hfi with h4 | h4
     ·exact h4
     ·exact absurd h4 h1
  have SJ:∀w',∀e,(∃p' c',e=Ending.returned (.tuple #[.agg #[.int .i64 t.start,.slice p' t.rows.length (c'+t.rows.length)],.int .i64 0])/\AY w p t.rows t.rows w' p'/\Below w.heap.size w w')->kO w p t (t,(0:Int)).1 (fun v=>.tuple #[v,.int .i64 (t,(0:Int)).2]) e w':=by
   rintro w' e ⟨p',c',rfl,hx,hb⟩;exact⟨p',c',rfl,hx,hb⟩
  rcases Vx with ⟨h1,h2⟩ | ⟨h1,h2⟩
  ·rw [h2] at eU
   refine(tx false 0 _ t.rows.length 0 0 t.rows eH eU ur (fun h5 h6 h7 u hb=> ?_) rfl rfl Kw rfl ?_).mono fun e w'=>SJ w' e
   ·exfalso
    rcases hno with h3 | ⟨h3,h4 | ⟨-,h4⟩⟩
    ·exact h5 h3
    ·omega
    ·exact h4 (of_decide_eq_true h7)
   ·rcases hno with h3 | ⟨h3,h4 | ⟨-,h4⟩⟩
    ·exact .inl ⟨h3,rfl,aT,hO.OY⟩
    ·omega
    ·exact .inr (.inr (.inl ⟨h3,rfl,decide_eq_false h4,rfl,aT,hO.OY⟩))
  ·rw [h2] at eU
   refine(tx true _ _ t.rows.length 0 0 t.rows eH eU ur (fun h5 h6 h7 u hb=> ?_) rfl rfl Kw rfl ?_).mono fun e w'=>SJ w' e
   ·cases h6
   ·rcases hno with h3 | ⟨h3,h4 | ⟨h5,-⟩⟩
    ·exact .inl ⟨h3,rfl,aT,hO.OY⟩
    ·exact .inr (.inl ⟨h3,rfl,rfl,aT,hO.OY⟩)
    ·omega
theorem O6 {zs:List Int}(h:zs.Pairwise (·<·)):Zj.o6 zs=zs:=by
 unfold Zj.o6;exact List.mergeSort_of_pairwise (List.Pairwise.imp (fun hab=>decide_eq_true (by omega)) h)
theorem RB {t:Tb}(h:Up t.rows)(node:Int):(held t node).Pairwise (·<·):=by
 unfold held bY;exact List.pairwise_map.2 (List.Pairwise.sublist List.filter_sublist h)
def mC (w:World)(l:List Int)(e:Ending)(w':World):Prop:=∃p c,e=.returned (.slice p l.length c)/\(∀k:Nat,k<l.length->∃b o,p=some ⟨b,o,none⟩/\w.heap.size<=b/\w'.cell? ⟨b,o+k,none⟩=some (.int .i64 (l.getD k 0)))/\Below w.heap.size w w'
theorem G9 (start:Int)(rows:List Rw)(p:Option Addr)(c:Nat)(node:Int)(w:World)(h:ar w p rows)(hl:rows.length<=1000)
 (eU:∀u j,j<rows.length->∀p' c',ak u p' (rows.getD j aq).out->Calls prog 147 #[dE (rows.getD j aq) p' c',.int .i64 node] u fun e u'=>∃sm,e=.returned (.tuple #[.int .i64 sm,.bool (decide (0<=cF (rows.getD j aq).out node))])/\Below u.heap.size u u')
 (nU:∀(u0 u:World) (v:Value),fj u0.heap.size u v (bY node rows)->Below u0.heap.size u0 u->Calls prog 148 #[v] u fun e u'=>e=.returned (.tuple #[])/\(∃p' c',v=.slice p' (bY node rows).length c'/\∀k,k<(bY node rows).length->∃b o,p'=some ⟨b,o,none⟩/\u'.cell? ⟨b,o+k,none⟩=some (.int .i64 ((bY node rows).getD k 0)))/\Below u0.heap.size u0 u')
 (SD:∀k,k+1<(bY node rows).length->(bY node rows).getD k 0<(bY node rows).getD (k+1) 0) :
 Calls prog 102 #[.agg #[.int .i64 start,.slice p rows.length (c+rows.length)],.int .i64 node] w (mC w (bY node rows)):=by
 obtain⟨i0,hi,hz0,hz1,hz2⟩:=info_parts vz;have XR:(bY node rows).length<=rows.length:=by have:=j5 node rows rows.length;rwa [List.take_length] at this
 have HV:Hid (∀j,j=rows.length->bY node rows=bY node (rows.take j)):=by rintro j rfl;rw[List.take_length]
 have HS:Hid (∀j,j<rows.length->bY node (rows.take (j+1))=bY node (rows.take j)++(if 0<=cF (rows.getD j aq).out node then [(rows.getD j aq).key] else [])):=fun j=>tF node rows j
 have HL:=fun j=>hid (j5 node rows j)
 have qB:bY node (rows.take 0)=[]:=by simp[bY]
 have I3:=fun (p:Option Addr) (c:Nat) (u:World) hc=>DN (bY node rows) p c u (by omega) hc SD
 generalize bY node rows=V at HV nU I3 XR ⊢;generalize hG:(fun j=>bY node (rows.take j))=G
 have MK:∀j,bY node (rows.take j)=G j:=fun j=>by rw[<-hG]
 simp only[MK] at HV HS HL qB;clear hG MK SD;have M0:=hid (((Mem.start w).Qm h).box #[.int .i64 start,.slice p rows.length (c+rows.length)] 28);obtain⟨t0,t1,-⟩:=eB (M0.out.boxes 0 _ _ _ rfl);clear h;go_enter func102,ntmps102
 go_wp2;generalize w.alloc (.cells #[.int .i64 start,.slice p rows.length (c+rows.length)] 28)=W1 at *;clear t0 t1;go_loopw [5,13] (fun v i wr=>∃j:Nat,j<=rows.length/\i=.int .i64 (j:Int)/\Hid (fj W1.heap.size wr v (G j))/\Below W1.heap.size W1 wr) (fun _ i _=>rows.length-(intOf i).toNat)
 case atStart=>exact ⟨0,by omega,rfl,(by rw[qB];exact World.ownsRow_nil _ _ _ _),Below.refl _ _⟩
 case round =>
  obtain⟨j,hj,rfl,ax,aW⟩:=hrel;have M1:=hid (M0.out.on aW);by_cases aC:j<rows.length
  ·obtain ⟨b,o,rfl,x0,x1,x2,px,cx,x3,Bg⟩:=gT (M1.out.rows 0 _ _ rfl) aC
   have bE:(j:Int)<(rows.length:Int):=by omega
   have hs:=HS.out j aC;have aT:=(HL j).out;have hle:=fun u p' c' hu=>eU u j aC p' c' hu
   generalize rows.getD j aq=x at *;obtain⟨xk,xa,xm,xo⟩:=x;simp only[dE] at x0 x1 x2 x3 Bg hle hs;generalize cF xo node=O at *;have M2:=hid ((M1.out.oH Bg).box #[.int .i64 xk,.int .i64 xa,.int .i64 xm,.slice px xo.length (cx+xo.length)] 80);have LJ:=hle _ px cx (M2.out.dS 0 _ _ rfl);have bJ:=hid ((Below.refl wr.heap.size wr).alloc (Nat.le_refl _) (.cells #[.int .i64 xk,.int .i64 xa,.int .i64 xm,.slice px xo.length (cx+xo.length)] 80));have HW:=hid ax.out;unfold fj at HW;have cA:=hid aW;clear ax aW hle Bg HV HS HL nU I3 eU qB;by_cases hO:0<=O
   ·rw [if_pos hO] at hs
    have SE:=hid hs;rw[decide_eq_true hO] at LJ;clear hs;generalize hn:(G j).length=n at *;have HN:=hid hn;clear hn;go_wp2_with (first
     |(go_at_call 147;(with_reducible refine LJ.mono ?_);rintro e u ⟨sm,rfl,lO⟩;have M3:=hid (M2.out.on lO);have qD:=hid (bJ.out.trans (lO.mono bJ.out.size));have ML:=hid (aI HW.out qD.out);have aO:=hid (cA.out.trans (qD.out.mono cA.out.size));clear LJ lO x0 x1 x2 x3;obtain⟨r0,r1,r2,r3,-⟩:=dG (M3.out.boxes 0 _ _ _ rfl))
     |(at_builtin;refine wpList_append_own _ rfl (.tmp 24) (.tmp 27) 25 rfl W1.heap.size 3 i0 (.int .i64 0) 1 8 underlying25 hi hz0 hz1 hz2 rfl (by decide) _ _ _ rfl (ML.out.alloc _) ⟨u.heap.size,0,none⟩ 1 1 [.int .i64 xk] rfl rfl ?c1 ?c2 ?c3 ?c4 ?c5 ?_))
    case c1=>intro j u hj;match j,hj with | 0,hj=>simp at hj;subst hj;simp[Addr.add]
    case c2=>intro u hu;simp at hu;subst hu;rfl
    case c3=>unfold maxLen;omega
    case c4=>omega
    case c5=>have:=aO.out.size;simp;omega
    intro v' w2 ko hg _;have xZ:fj W1.heap.size w2 v' (G (j+1)):=by
     rw[SE.out];refine fj.S9 (n:=1) (xs:=[xk]) ?_ rfl;rw[HN.out];exact ko
    have hb2:=(aO.out.alloc aO.out.size _).grown hg (by have:=aO.out.size;simp;omega) (fun k hk=>(ML.out.lt k hk).1)
    have R:=hid xZ;clear hg ko xZ HW ML;go_wp2;go_roundw
    case rel=>exact ⟨j+1,by omega,by go_num,R,hb2⟩
    case measure=>simp [intOf];omega
   ·rw [if_neg hO,List.append_nil] at hs
    have SE:=hid hs;rw[decide_eq_false hO] at LJ;clear hs;go_wp2_with (go_at_call 147;(with_reducible refine LJ.mono ?_);rintro e u ⟨sm,rfl,lO⟩;have qD:=hid (bJ.out.trans (lO.mono bJ.out.size));have ML:=hid (aI HW.out qD.out);clear LJ lO x0 x1 x2 x3)
    go_roundw
    case rel=>exact ⟨j+1,by omega,by go_num,by rw[SE.out];exact ML,cA.out.trans (qD.out.mono cA.out.size)⟩
    case measure=>simp [intOf];omega
  ·obtain rfl:j=rows.length:=by omega
   rw[<-HV.out _ rfl] at ax;obtain⟨pv,cv,rfl,-⟩:=ax.out.bX;have I2:=hid (show ∀b o,pv=some ⟨b,o,none⟩->w.heap.size<=b from fun b o e=>by
    have ho:=ax.out;have hs1:=M0.out.below.size;unfold fj at ho;rcases ho.2 with ⟨h1,-⟩ | ⟨g',cap',cur,h1,h2,-⟩
    ·simp only[Value.slice.injEq] at h1
     rw[h1.1] at e;cases e
    ·simp only[Value.slice.injEq] at h1
     rw[h1.1] at e;cases e;omega)
   have XS:=nU W1 wr _ ax.out aW;clear nU HV HS HL eU;go_wp2_with (first
    |(go_at_call 148;(with_reducible refine XS.mono ?_);rintro e u2 ⟨rfl,⟨p2,c2,hv2,sO⟩,hb2⟩;simp only[Value.slice.injEq,true_and] at hv2;obtain⟨rfl,rfl⟩:=hv2;have hco:=I3 pv cv u2 sO;have HC:=hid sO;have bJ:=hid hb2;clear XS I3 sO hb2)
    |(go_at_call 149;(with_reducible refine hco.mono ?_);rintro e u3 ⟨rfl,hb3⟩;have cH:=hid hb3;clear hco hb3))
   go_ret;refine⟨pv,cv,rfl,fun k hk=> ?_,M0.out.below.trans ((bJ.out.trans (cH.out.mono bJ.out.size)).mono M0.out.below.size)⟩
   obtain⟨b,o,e,hc⟩:=HC.out k hk;exact⟨b,o,e,I2.out b o e,af hc cH.out⟩
end Zv
end Go.Proofs.YtbgdlokegibkmaaGreat
