/-
  A part of the proof of VisitPlays.
-/
import Derived.Laws.Cover1
import Derived.Test.YtbgdlokegibkmaaGreatMpAg
set_option maxRecDepth 100000
set_option maxHeartbeats 8000000
namespace Go.Proofs.YtbgdlokegibkmaaGreat
open Go.RowKit
open Tryz
open Lib (hid)
namespace Zv
open Zx (Rw Tb aq ak af)
open Zq (aI cO ae aj ai)
open Zr (dh add sub mul fQ)
def bT (r:Rw)(aF:Int):Int:=min (min (dh aF) r.ay) 2147483648
def fe (t:Tb)(key node aF:Int):Bool:=et t key&&decide (1<=bT (ah t key) aF)&&decide (0<=node)&&decide (node<=63)&&decide (cF (ah t key).out node<0)
def aZ (x:Int×Int)(s:List (Int×Int)×Bool)(y:Int×Int):List (Int×Int)×Bool:=((if s.2=false/\x.1<y.1 then s.1++[x] else s.1)++[y],s.2||decide (x.1<y.1))
def dI (x:Int×Int)(l:List (Int×Int)):List (Int×Int)×Bool:=l.foldl (aZ x) ([],false)
def bL (l:List (Int×Int))(x:Int×Int):List (Int×Int):=if (dI x l).2=true then (dI x l).1 else (dI x l).1++[x]
def fY (r:Rw)(node n:Int):Rw:=⟨r.key,r.ay-n,r.mark,bL r.out (node,n)⟩
def aQ (t:Tb)(key node aF:Int):Tb×Int :=
 if fe t key node aF=true then (setRow t (fY (ah t key) node (bT (ah t key) aF)),bT (ah t key) aF) else (t,0)
theorem Ag (x:Int×Int)(l:List (Int×Int))(k:Nat)(h:k<l.length):dI x (l.take (k+1))=aZ x (dI x (l.take k)) (l.getD k (0,0)):=by
 have e:l.getD k (0,0)=l[k]:=by simp[List.getD,h]
 rw[e,List.take_succ_eq_append_getElem h];simp only[dI,List.foldl_append,List.foldl_cons,List.foldl_nil]
theorem qV (x:Int×Int):∀(l:List (Int×Int))(s:List (Int×Int)×Bool),(l.foldl (aZ x) s).1.length+rest (l.foldl (aZ x) s).2=s.1.length+rest s.2+l.length
 | [],s=>rfl
 | y :: l,(a,b)=>by
   refine Eq.trans (qV x l _) ?_;simp only[aZ,List.length_append,List.length_cons,List.length_nil];cases b <;>by_cases h1:x.1<y.1 <;>simp [h1,rest] <;>omega
theorem nG (x:Int×Int)(l:List (Int×Int)):(dI x l).1.length+rest (dI x l).2=l.length+1:=by
 have:(l.foldl (aZ x) ([],false)).1.length+rest (l.foldl (aZ x) ([],false)).2=0+1+l.length:=qV x l ([],false);unfold dI;omega
theorem pk (l:List (Int×Int))(x:Int×Int):(bL l x).length=l.length+1:=by
 have:=nG x l;unfold bL;split
 ·rename_i h
  rw[h] at this;simp only[rest] at this;omega
 ·rename_i h
  rw[Bool.not_eq_true] at h;rw[h] at this;simp only[rest] at this;simp;omega
theorem Cs (x:Int×Int)(s:List (Int×Int)×Bool)(y:Int×Int) :
 (s.2=true/\aZ x s y=(s.1++[y],true))∨(s.2=false/\x.1<y.1/\aZ x s y=(s.1++[x]++[y],true))∨(s.2=false/\y.1<=x.1/\aZ x s y=(s.1++[y],false)):=by
 obtain⟨a,b⟩:=s;cases b with
 | true=>exact .inl ⟨rfl,by simp[aZ]⟩
 | false =>
   by_cases h:x.1<y.1
   ·exact .inr (.inl ⟨rfl,h,by simp[aZ,h]⟩)
   ·exact .inr (.inr ⟨rfl,by omega,by simp[aZ,h]⟩)
theorem sI (f a N:Int)(h:N=min (min f a) 2147483648)(ts:Array TypeId)(t:TypeId)(w:World):(Builtin.min_ ts t #[.int .i64 f,.int .i64 a,.int .i64 2147483648]).run prog w=.ok (.int .i64 N) w:=by
 rw[run_min_int3];have:(if 2147483648<(if a<f then a else f) then 2147483648 else (if a<f then a else f))=N:=by
  by_cases h1:a<f
  ·rw [if_pos h1]
   split <;>omega
  ·rw [if_neg h1]
   split <;>omega
 rw[this]
theorem J6 (t:Tb)(p:Option Addr)(c:Nat)(key node aF:Int)(w:World)(h:ar w p t.rows)(hl:t.rows.length<=1000)(ho:∀r∈t.rows,r.out.length<=1000)(hn:fe t key node aF=true)(hA:(ah t key).ay<=9223372036854775807) :
 Calls prog 64 #[bN t p c,.int .i64 key,.int .i64 node,.int .i64 aF] w (ew w (aQ t key node aF).1 (fun v=>.tuple #[v,.int .i64 (aQ t key node aF).2])):=by
 have Px:=qN ho key;have Jz:aQ t key node aF=(setRow t (fY (ah t key) node (bT (ah t key) aF)),bT (ah t key) aF):=by
  unfold aQ;rw[if_pos hn]
 rw[Jz];unfold fe at hn;simp only[Bool.and_eq_true,decide_eq_true_eq] at hn;obtain⟨⟨⟨⟨hI,hN1⟩,YO⟩,afu⟩,hO⟩:=hn;have QD:=sI (dh aF) (ah t key).ay (bT (ah t key) aF) rfl;have hNa:bT (ah t key) aF<=(ah t key).ay:=by unfold bT;omega
 have Ah:=fQ aF;generalize dh aF=f at *;generalize bT (ah t key) aF=N at *;obtain⟨start,rows⟩:=t;obtain⟨k0,k1,hb⟩:=uG w (.cells #[.int .i64 start,.slice p rows.length (c+rows.length)] 28) (.cells #[.int .i64 0,.slice none 0 0] 28);have eH:=np ⟨start,rows⟩ p c key w ((w.alloc (.cells #[.int .i64 start,.slice p rows.length (c+rows.length)] 28)).alloc (.cells #[.int .i64 0,.slice none 0 0] 28)) h hb hl;have hout:=fun (u:World) (p':Option Addr) (c':Nat) (hu:ak u p' (ah ⟨start,rows⟩ key).out)=>qK (ah ⟨start,rows⟩ key) p' c' node u hu Px
 generalize cF (ah ⟨start,rows⟩ key).out node=O at *;rw[hI] at eH;generalize ah ⟨start,rows⟩ key=F at *;have mQ:=fun (u:World) (pr:Option Addr) (cr:Nat) (h1:ar u p rows) (h2:ak u pr (fY F node N).out)=>uF ⟨start,rows⟩ p c (fY F node N) pr cr u u h1 h2 (Below.refl _ _) hl
 have Py:Hid ((setRow ⟨start,rows⟩ (fY F node N)).start=start):=rfl;have VQ:Hid ((fY F node N)=⟨F.key,F.ay-N,F.mark,bL F.out (node,N)⟩):=rfl;generalize setRow ⟨start,rows⟩ (fY F node N)=T at *;rw[VQ.out] at mQ;obtain⟨fk,fa,fm,fo⟩:=F;simp only[bN,dE] at *;generalize Ib:fo.length=nf at *;generalize ym:rows.length=nr at *;have xn:=hid Ib;have Md:=hid ym;have fS:Calls prog 67 #[.agg #[.int .i64 start,.slice p nr (c+nr)],.int .i64 key] ((w.alloc (.cells #[.int .i64 start,.slice p nr (c+nr)] 28)).alloc (.cells #[.int .i64 0,.slice none 0 0] 28)) fun e w'=>∃p1 c1,e=.returned (.tuple #[.agg #[.int .i64 fk,.int .i64 fa,.int .i64 fm,.slice p1 nf (c1+nf)],.bool true])/\ak w p1 fo /\
  Ef w start p nr c w'.heap.size (.int .i64 fk) (.int .i64 fa) (.int .i64 fm) (.slice p1 nf (c1+nf)) (w'.alloc (.cells #[.int .i64 fk,.int .i64 fa,.int .i64 fm,.slice p1 nf (c1+nf)] 80)):=by
  refine eH.mono ?_;rintro e w' ⟨p1,c1,rfl,h1,h2⟩;have ba:=(Below.refl w'.heap.size w').alloc (Nat.le_refl _) (.cells #[.int .i64 fk,.int .i64 fa,.int .i64 fm,.slice p1 nf (c1+nf)] 80);have h3:=h2.trans (ba.mono h2.size);have hz:=h2.size;simp at hz;exact⟨p1,c1,by rw[<-xn.out];rfl,h1,(h3.block _ (ae k0)).trans k0,(h3.block _ (ae k1)).trans k1,heap_alloc_new _ _,hb.trans (h3.mono hb.size),by omega⟩
 have HH:=hid h;have HA:=hid hA;clear eH Ib ym k0 k1 hb h hl ho Jz hI VQ;go_enter func64,ntmps64
 go_wp2_with (go_at_call 67;(with_reducible refine fS.mono ?_);rintro e u1 ⟨p1,c1,rfl,iG,hx1⟩;have X1:=hid hx1;have L0:=hid iG;clear fS iG hx1)
 generalize u1.alloc (.cells #[.int .i64 fk,.int .i64 fa,.int .i64 fm,.slice p1 nf (c1+nf)] 80)=w3 at *;have X2:=hid (X1.out.on (Below.refl w3.heap.size w3).drew);obtain⟨-,r1,-⟩:=aV X2.out.row;go_region_held3 (fun u=>u.cell? ⟨u1.heap.size,1,none⟩=some (.int .i64 fa)) (first | assumption | exact r1) (first
  |(go_at_call 70;(with_reducible refine(Ah _).mono ?_);rintro e u2 ⟨rfl,rfl⟩))
 all_goals
  clear r1 QD Ah;obtain⟨r0,r1,r2,r3,-⟩:=aV X2.out.row;have L2:=hid (L0.out.below X2.out.below);go_wp2_with (go_at_call 124;(with_reducible refine(hout _ _ _ L2.out).mono ?_);rintro e u4 ⟨rfl,hb4⟩;have TN:=X2.out.on hb4;obtain⟨-,g1,-,-,gf⟩:=aV TN.row;have f1:=gf 1;have X4:=hid TN;clear hout hb4 TN gf X2 L2 r0 r1 r2 r3)
  have hX5:=X4.out.Qi (.int .i64 (fa-N));generalize u4.setCell ⟨u1.heap.size,1,none⟩ (.int .i64 (fa-N))=u5 at *;have X5:=hid hX5;clear hX5 X4 X1 g1 f1;go_loopw [13,14,15] (fun v d k wr=>∃j:Nat,j<=nf/\k=.int .i64 (j:Int)/\d=.bool (dI (node,N) (fo.take j)).2/\Hid (j7 u5.heap.size wr v (dI (node,N) (fo.take j)).1)/\Below u5.heap.size u5 wr) (fun _ _ k _=>nf-(intOf k).toNat)
  case atStart=>exact ⟨0,by omega,rfl,rfl,nw _ _,Below.refl _ _⟩
  case round =>
   obtain⟨j,hj,rfl,rfl,ax,aW⟩:=hrel;have hX:=X5.out.on aW;obtain⟨r0,r1,r2,r3,rf⟩:=aV hX.row;by_cases aC:j<nf
   ·obtain ⟨b',o',rfl,o9,qC⟩:=cC (L0.out.below X5.out.below) (show j<fo.length by rw[xn.out];exact aC)
    have x0:=af o9 aW;have x1:=af qC aW;have bE:(j:Int)<(nf:Int):=by omega
    have hst:=Ag (node,N) fo j (by rw[xn.out];exact aC)
    have hcs:=Cs (node,N) (dI (node,N) (fo.take j)) (fo.getD j (0,0));rw[<-hst] at hcs;have BJ:(dI (node,N) (fo.take j)).1.length<=1001:=by
     have h1:=nG (node,N) (fo.take j);have h2:(fo.take j).length<=1000:=by simp;omega
     omega
    generalize dI (node,N) (fo.take j)=S at *;generalize VN:dI (node,N) (fo.take (j+1))=S' at *;have rO:=hid VN;generalize fo.getD j (0,0)=y at *;obtain⟨y1,y2⟩:=y;obtain⟨l,D⟩:=S;simp only at BJ ax hcs x0 x1 o9 qC;have Qa:Hid (∀u,Below u5.heap.size u5 u->u.cell? ⟨b',o'+j*2,none⟩=some (.int .i64 y1)/\u.cell? ⟨b',o'+j*2+1,none⟩=some (.int .i64 y2)/\u.cell? ⟨u1.heap.size,3,none⟩=some (.slice (some ⟨b',o',none⟩) nf (c1+nf))):=fun u hu=>⟨af o9 hu,af qC hu,(aV (X5.out.on hu).row).2.2.2.1⟩
    have cA:=hid aW;clear VN hst o9 qC hX rf;obtain⟨pv,cv,rfl⟩:=ax.out.jx;generalize ny:l.length=nl at *;have yn:=hid ny;have kX:=hid ax.out;clear ny ax;rcases hcs with ⟨rfl,hS⟩ | ⟨rfl,hk,hS⟩ | ⟨rfl,hk,hS⟩
    ·have SE:=hid (rO.out.trans hS)
     clear hS rO;go_wp2_with (at_builtin;refine cW rfl (.tmp 78) (.tmp 84) rfl u5 wr (.slice pv nl cv) rfl l nl yn.out kX.out cA.out (Below.refl _ _) wr.heap.size y1 y2 rfl (heap_alloc_new _ _) (by omega) ?_;intro p4 c4 w4 R4 B4;clear r0 r1 r2 r3 x0 x1)
     go_roundw
     case rel=>exact ⟨j+1,by omega,by go_num,by rw[SE.out],by rw[SE.out];exact R4,B4⟩
     case measure=>simp [intOf];omega
    ·have SE:=hid (rO.out.trans hS)
     clear hS rO;go_wp2_with (first
      |(at_builtin;refine cW rfl (.tmp 72) (.tmp 76) rfl u5 wr (.slice pv nl cv) rfl l nl yn.out kX.out cA.out (Below.refl _ _) wr.heap.size node N rfl (heap_alloc_new _ _) (by omega) ?_;intro p4 c4 w4 R4 B4;clear r0 r1 r2 r3 x0 x1;obtain⟨x0,x1,r3⟩:=Qa.out _ B4)
      |(at_builtin;refine cW rfl (.tmp 78) (.tmp 84) rfl u5 w4 (.slice p4 (nl+1) c4) rfl (l++[(node,N)]) (nl+1) (by rw[List.length_append,yn.out];rfl) R4.out B4 (Below.refl _ _) w4.heap.size y1 y2 rfl (heap_alloc_new _ _) (by omega) ?_;intro p5 c5 w5 R5 B5;clear r3 x0 x1))
     go_roundw
     case rel=>exact ⟨j+1,by omega,by go_num,by rw[SE.out],by rw[SE.out];exact R5,B5⟩
     case measure=>simp [intOf];omega
    ·have SE:=hid (rO.out.trans hS)
     clear hS rO;go_wp2_with (at_builtin;refine cW rfl (.tmp 78) (.tmp 84) rfl u5 wr (.slice pv nl cv) rfl l nl yn.out kX.out cA.out (Below.refl _ _) wr.heap.size y1 y2 rfl (heap_alloc_new _ _) (by omega) ?_;intro p4 c4 w4 R4 B4;clear r0 r1 r2 r3 x0 x1)
     go_roundw
     case rel=>exact ⟨j+1,by omega,by go_num,by rw[SE.out],by rw[SE.out];exact R4,B4⟩
     case measure=>simp [intOf];omega
   ·obtain rfl:j=nf:=by omega
    have Tl:fo.take j=fo:=by rw[<-xn.out];exact List.take_length
    rw[Tl] at ax ⊢;have Qk:¬(u1.heap.size=w.heap.size):=by have:=hX.ge;omega
    have Tm:¬(w.heap.size=u1.heap.size):=by have:=hX.ge;omega
    have gH:u1.heap.size<u5.heap.size:=by have:=ae X5.out.row;omega
    have QE:Hid (∀(u:World) (pv:Option Addr) (n cv:Nat),Below u5.heap.size u5 u->j7 u5.heap.size u (.slice pv n cv) (bL fo (node,N)) ->
     Ef w start p nr c u1.heap.size (.int .i64 fk) (.int .i64 (fa-N)) (.int .i64 fm) (.slice pv n cv) (u.setCell ⟨u1.heap.size,3,none⟩ (.slice pv n cv)) /\
     Calls prog 121 #[.agg #[.int .i64 start,.slice p nr (c+nr)],.agg #[.int .i64 fk,.int .i64 (fa-N),.int .i64 fm,.slice pv n cv]] (u.setCell ⟨u1.heap.size,3,none⟩ (.slice pv n cv)) fun e w'=>∃p' c' nT,e=.returned (.agg #[.int .i64 start,.slice p' nT (c'+nT)])/\T.rows.length=nT/\ar w' p' T.rows/\Below (u.setCell ⟨u1.heap.size,3,none⟩ (.slice pv n cv)).heap.size (u.setCell ⟨u1.heap.size,3,none⟩ (.slice pv n cv)) w'):=by
     intro u pv n cv hb ho;have e6:=(X5.out.on hb).Qh (.slice pv n cv);obtain⟨p6,c6,Na,xC⟩:=(ho.set (b:=u1.heap.size) (o:=3) (u:=.slice pv n cv) gH).dS;simp only[Value.slice.injEq] at Na;obtain⟨rfl,rfl,rfl⟩:=Na;refine⟨e6,(mQ _ pv c6 (HH.out.below e6.below) xC).mono ?_⟩;rintro e w' ⟨p',c',rfl,g1,g2⟩;exact⟨p',c',_,by rw[<-Py.out];rfl,rfl,g1,g2⟩
    have hWL:Hid (bL fo (node,N)=if (dI (node,N) fo).2=true then (dI (node,N) fo).1 else (dI (node,N) fo).1++[(node,N)]):=rfl
    have BJ:(dI (node,N) fo).1.length<=1001:=by
     have h1:=nG (node,N) fo;rw[xn.out] at h1;omega
    generalize dI (node,N) fo=S at *;generalize bL fo (node,N)=WL at *;obtain⟨l,D⟩:=S;simp only at BJ ax;obtain⟨a0,a1,-⟩:=dg hX.oZ;have f3:=rf 3;obtain⟨pv,cv,rfl⟩:=ax.out.jx;generalize ny:l.length=nl at *;have yn:=hid ny;have kX:=hid ax.out;have cA:=hid aW;clear ny ax mQ hX rf;cases D with
    | true =>
      obtain⟨e6,BP⟩:=QE.out wr pv nl cv cA.out (by rw[hWL.out,if_pos rfl];exact kX.out)
      have E6:=hid e6;clear e6 QE;go_wp2_with (go_at_call 121;(with_reducible refine BP.mono ?_);rintro e u7 ⟨p7,c7,nT,rfl,Ih,g1,g2⟩;have E7:=hid (E6.out.on g2);clear a0 a1 r0 r1 r2 f3;obtain⟨d0,d1,ff⟩:=dg E7.out.gG;have f0:=ff 0;have f1:=ff 1;have JA:=hid (lD (c':=c7) E7.out.gG g1 E7.out.below Py.out Ih (fun v=>.tuple #[v,.int .i64 N]));clear ff BP Ih g1 g2)
      refine bodyPost_ret (v:=.tuple #[.agg #[.int .i64 start,.slice p7 nT (c7+nT)],.int .i64 N]) (by simp[results,results64,go_sem,d0,d1]) rfl JA.out
    | false =>
      have Wn:WL=l++[(node,N)]:=by rw[hWL.out];simp
      have HWL:=hid Wn;clear hWL Wn;go_wp2_with (first
       |(at_builtin;refine cW rfl (.tmp 88) (.tmp 92) rfl u5 wr (.slice pv nl cv) rfl l nl yn.out kX.out cA.out (Below.refl _ _) wr.heap.size node N rfl (heap_alloc_new _ _) (by omega) ?_;intro p4 c4 w4 R4 B4;obtain⟨e6,BP⟩:=QE.out w4 p4 (nl+1) c4 B4 (by rw[HWL.out];exact R4.out);have E6:=hid e6;clear r0 r1 r2 r3 a0 a1 f3 e6;have TN:=X5.out.on B4;obtain⟨a0,a1,-⟩:=dg TN.oZ;obtain⟨r0,r1,r2,r3,qf⟩:=aV TN.row;have f3:=qf 3;clear TN qf QE)
       |(go_at_call 121;(with_reducible refine BP.mono ?_);rintro e u7 ⟨p7,c7,nT,rfl,Ih,g1,g2⟩;have E7:=hid (E6.out.on g2);clear a0 a1 r0 r1 r2 f3;obtain⟨d0,d1,ff⟩:=dg E7.out.gG;have f0:=ff 0;have f1:=ff 1;have JA:=hid (lD (c':=c7) E7.out.gG g1 E7.out.below Py.out Ih (fun v=>.tuple #[v,.int .i64 N]));clear ff BP Ih g1 g2))
      refine bodyPost_ret (v:=.tuple #[.agg #[.int .i64 start,.slice p7 nT (c7+nT)],.int .i64 N]) (by simp[results,results64,go_sem,d0,d1]) rfl JA.out
theorem NM (t:Tb)(p:Option Addr)(c:Nat)(key node aF:Int)(w:World)(h:ar w p t.rows)(hl:t.rows.length<=1000)(ho:∀r∈t.rows,r.out.length<=1000)(hn:fe t key node aF=false) :
 Calls prog 64 #[bN t p c,.int .i64 key,.int .i64 node,.int .i64 aF] w (ew w t (fun v=>.tuple #[v,.int .i64 0])):=by
 have Px:=qN ho key;have QD:=sI (dh aF) (ah t key).ay (bT (ah t key) aF) rfl;have Ah:=fQ aF;have b9:et t key=false∨(et t key=true/\bT (ah t key) aF<1)∨(et t key=true/\1<=bT (ah t key) aF/\node<0)∨(et t key=true/\1<=bT (ah t key) aF/\0<=node/\63<node)∨(et t key=true/\1<=bT (ah t key) aF/\0<=node/\node<=63/\0<=cF (ah t key).out node):=by
  unfold fe at hn;cases hI:et t key with
  | false=>exact .inl rfl
  | true =>
    rw[hI] at hn;simp at hn;by_cases g1:bT (ah t key) aF<1
    ·exact .inr (.inl ⟨rfl,g1⟩)
    ·by_cases g2:node<0
     ·exact .inr (.inr (.inl ⟨rfl,by omega,g2⟩))
     ·by_cases g3:63<node
      ·exact .inr (.inr (.inr (.inl ⟨rfl,by omega,by omega,g3⟩)))
      ·exact .inr (.inr (.inr (.inr ⟨rfl,by omega,by omega,by omega,hn (by omega) (by omega) (by omega)⟩)))
 generalize dh aF=f at *;generalize bT (ah t key) aF=N at *;obtain⟨start,rows⟩:=t;obtain⟨k0,k1,hb⟩:=uG w (.cells #[.int .i64 start,.slice p rows.length (c+rows.length)] 28) (.cells #[.int .i64 0,.slice none 0 0] 28);have eH:=np ⟨start,rows⟩ p c key w ((w.alloc (.cells #[.int .i64 start,.slice p rows.length (c+rows.length)] 28)).alloc (.cells #[.int .i64 0,.slice none 0 0] 28)) h hb hl;have hout:=fun (u:World) (p':Option Addr) (c':Nat) (hu:ak u p' (ah ⟨start,rows⟩ key).out)=>qK (ah ⟨start,rows⟩ key) p' c' node u hu Px
 generalize cF (ah ⟨start,rows⟩ key).out node=O at *;generalize ah ⟨start,rows⟩ key=F at *;generalize et ⟨start,rows⟩ key=I at *;obtain⟨fk,fa,fm,fo⟩:=F;simp only[bN,dE] at *;generalize Ib:fo.length=nf at *;generalize ym:rows.length=nr at *;have xn:=hid Ib;have Md:=hid ym;have fS:Calls prog 67 #[.agg #[.int .i64 start,.slice p nr (c+nr)],.int .i64 key] ((w.alloc (.cells #[.int .i64 start,.slice p nr (c+nr)] 28)).alloc (.cells #[.int .i64 0,.slice none 0 0] 28)) fun e w'=>∃p1 c1,e=.returned (.tuple #[.agg #[.int .i64 fk,.int .i64 fa,.int .i64 fm,.slice p1 nf (c1+nf)],.bool I])/\ak w p1 fo /\
  Ef w start p nr c w'.heap.size (.int .i64 fk) (.int .i64 fa) (.int .i64 fm) (.slice p1 nf (c1+nf)) (w'.alloc (.cells #[.int .i64 fk,.int .i64 fa,.int .i64 fm,.slice p1 nf (c1+nf)] 80)):=by
  refine eH.mono ?_;rintro e w' ⟨p1,c1,rfl,h1,h2⟩;have ba:=(Below.refl w'.heap.size w').alloc (Nat.le_refl _) (.cells #[.int .i64 fk,.int .i64 fa,.int .i64 fm,.slice p1 nf (c1+nf)] 80);have h3:=h2.trans (ba.mono h2.size);have hz:=h2.size;simp at hz;exact⟨p1,c1,by rw[<-xn.out];rfl,h1,(h3.block _ (ae k0)).trans k0,(h3.block _ (ae k1)).trans k1,heap_alloc_new _ _,hb.trans (h3.mono hb.size),by omega⟩
 have HH:=hid h;clear eH Ib ym k0 k1 hb h hl ho hn Px;go_enter func64,ntmps64
 go_wp2_with (go_at_call 67;(with_reducible refine fS.mono ?_);rintro e u1 ⟨p1,c1,rfl,iG,hx1⟩;have X1:=hid hx1;have L0:=hid iG;clear fS iG hx1)
 generalize u1.alloc (.cells #[.int .i64 fk,.int .i64 fa,.int .i64 fm,.slice p1 nf (c1+nf)] 80)=w3 at *;have X2:=hid (X1.out.on (Below.refl w3.heap.size w3).drew);obtain⟨-,r1,-⟩:=aV X2.out.row;go_region_held3 (fun u=>u.cell? ⟨u1.heap.size,1,none⟩=some (.int .i64 fa)) (first | assumption | exact r1) (first
  |(go_at_call 70;(with_reducible refine(Ah _).mono ?_);rintro e u2 ⟨rfl,rfl⟩))
 all_goals
  clear r1 QD Ah;obtain⟨r0,r1,r2,r3,-⟩:=aV X2.out.row;have L2:=hid (L0.out.below X2.out.below);obtain⟨a0,a1,-⟩:=dg X2.out.oZ;obtain⟨d0,d1,ff⟩:=dg X2.out.gG;have f0:=ff 0;have f1:=ff 1;clear ff;obtain⟨i0,i1,ff⟩:=dg X1.out.gG;have l0:=ff 0;have l1:=ff 1;clear ff;rcases b9 with rfl | ⟨rfl,y1⟩ | ⟨rfl,y1,y2⟩ | ⟨rfl,y1,y2,y3⟩ | ⟨rfl,y1,y2,y3,y4⟩
  all_goals
   go_wp2_with (go_at_call 124;(with_reducible refine(hout _ _ _ L2.out).mono ?_);rintro e u4 ⟨rfl,hb4⟩;have X4:=hid (X2.out.on hb4);clear X2;have X2:=X4;clear X4 hout hb4 L2 a0 a1 d0 d1 f0 f1 r0 r1 r2 r3;obtain⟨a0,a1,-⟩:=dg X2.out.oZ;obtain⟨d0,d1,ff⟩:=dg X2.out.gG;have f0:=ff 0;have f1:=ff 1;clear ff)
   refine bodyPost_ret (v:=.tuple #[.agg #[.int .i64 start,.slice p nr (c+nr)],.int .i64 0]) (by simp[results,results64,go_sem,d0,d1,i0,i1]) rfl ?_
   have BE:=X2.out.out (.int .i64 start) (.slice p nr (c+nr));exact⟨p,c,by rw[<-Md.out];rfl,HH.out.below BE,BE⟩
open Zx (Rw Tb aq eh iY di cy fI dC)
open Zr (dh add sub mul jN jm dD dM)
def bC (x:Int):Prop:= -9223372036854775808<=x/\x<=9223372036854775807
structure Ac where
 zY:Int
 key:Int
 now:Int
 node:Int
 n:Int
def RO (f:Cf)(t:Tb)(a:Ac):Tb×Int :=
 if a.zY % 5<=1 then bV t a.key a.now f else if a.zY % 5=2 then settle t a.key a.node a.n else aQ t a.key a.node a.n
structure Ai (m:Nat)(r:Rw):Prop where
 len:r.out.length<=m
 lo:0<=r.ay
 hi:r.ay<=4611686018427387904
 mark:bC r.mark
 key:bC r.key
 out:∀x∈r.out,(0<=x.1/\x.1<=63)/\1<=x.2/\x.2<=2147483648
structure kz (n:Nat)(t:Tb):Prop where
 len:t.rows.length<=16+n
 lo:0<=t.start
 hi:t.start<=4611686018427387904
 rows:∀r∈t.rows,Ai (64+n) r
theorem Ai.more {m m':Nat}{r:Rw}(h:Ai m r)(hm:m<=m'):Ai m' r:=⟨Nat.le_trans h.len hm,h.lo,h.hi,h.mark,h.key,h.out⟩
theorem kz.more {n:Nat}{t:Tb}(h:kz n t):kz (n+1) t:=⟨by have:=h.len;omega,h.lo,h.hi,fun r hr=>(h.rows r hr).more (by omega)⟩
theorem Ct {x lo hi:Int}(h:cy x lo hi=true):lo<=x/\x<=hi:=by
 simpa[cy] using h
theorem Ff {t:Tb}(h:eh t=true):kz 0 t:=by
 simp only[eh,Bool.and_eq_true,decide_eq_true_eq] at h;obtain⟨⟨h1,h2⟩,h3⟩:=h;have h1:=Ct h1;refine⟨by omega,h1.1,h1.2,fun r hr=> ?_⟩
 obtain⟨j,hj,e⟩:=List.mem_iff_getElem.1 hr;have h4:Zx.iZ t.rows t.start j=true:=by
  rw[dC,List.all_eq_true] at h3;exact h3 j (List.mem_range.2 hj)
 have e2:t.rows.getD j aq=r:=by simp[List.getD,hj,e]
 simp only[Zx.iZ,e2,Bool.and_eq_true,iY,decide_eq_true_eq] at h4;obtain⟨⟨⟨⟨⟨k1,k2⟩,k3⟩,k4⟩,k5⟩,-⟩:=h4;have k2:=Ct k2;have k3:=Ct k3;have k1:0<=r.key/\r.key<524288:=by simpa[fI] using k1
 refine⟨by omega,k2.1,by omega,by unfold bC;omega,by unfold bC;omega,fun x hx=> ?_⟩
 obtain⟨i,hi,e3⟩:=List.mem_iff_getElem.1 hx;have h5:di r.out i=true:=by
  rw[dC,List.all_eq_true] at k5;exact k5 i (List.mem_range.2 hi)
 have e4:r.out.getD i (0,0)=x:=by simp[List.getD,hi,e3]
 simp only[di,e4,Bool.and_eq_true] at h5;have m1:=Ct h5.1.1;have m2:=Ct h5.1.2;omega
theorem Ir (t:Tb)(key:Int):ah t key=⟨key,0,t.start,[]⟩∨ah t key∈t.rows:=by
 unfold ah;split
 ·exact .inl rfl
 ·rename_i h
  rcases bA (fun r=>r.key==key) aq t.rows with ⟨h1,-⟩ | ⟨j,h1,h2,-⟩
  ·exact absurd (show au t.rows key<0 by unfold au;omega) h
  ·have:(au t.rows key).toNat=j:=by unfold au;omega
   rw[this];exact .inr (by simp[List.getD,h2])
theorem iM {n:Nat}{t:Tb}(h:kz n t){key:Int}(hk:bC key):Ai (64+n) (ah t key):=by
 rcases Ir t key with e | e
 ·rw [e]
  have:=h.lo;have:=h.hi;exact⟨by simp,Int.le_refl _,by simp,by simp only[bC];omega,hk,fun x hx=>by cases hx⟩
 ·exact h.rows _ e
theorem Cu {m:Nat}{r:Rw}(h:Ai m r){now:Int}(hn:bC now)(R B:Int):Ai m (jn r now R B):=by
 have h1:=h.mark;refine⟨h.len,jN _,jm _,?_,h.key,h.out⟩;simp only[jn,bC] at *;omega
theorem yG {n:Nat}{t:Tb}(h:kz n t){key now:Int}(hk:bC key)(hn:bC now)(R B:Int):Ai (64+n) (gZ t key now R B):=Cu (iM h hk) hn R B
theorem yH (r x:Rw):∀(l:List Rw)(s:List Rw×Bool),x∈(l.foldl (cN r) s).1->x=r∨x∈s.1∨x∈l
 | [],s,h=>.inr (.inl h)
 | y :: l,(a,b),h=>by
   rcases yH r x l _ h with h1 | h1 | h1
   ·exact .inl h1
   ·simp only[cN,List.mem_append] at h1
    rcases h1 with h1 | h1
    ·split at h1
     ·rcases List.mem_append.1 h1 with h2 | h2
      ·exact .inr (.inl h2)
      ·simp only[List.mem_singleton] at h2
       exact .inl h2
     ·exact .inr (.inl h1)
    ·split at h1
     ·cases h1
     ·simp only[List.mem_singleton] at h1
      exact .inr (.inr (by rw[h1];exact List.mem_cons_self))
   ·exact .inr (.inr (List.mem_cons_of_mem _ h1))
theorem tO {r x:Rw}{l:List Rw}(h:x∈dr l r):x=r∨x∈l:=by
 have key:x∈(gj r l).1->x=r∨x∈l:=fun h=>by
  rcases yH r x l ([],false) h with h1 | h1 | h1
  ·exact .inl h1
  ·cases h1
  ·exact .inr h1
 unfold dr at h;split at h
 ·exact key h
 ·rcases List.mem_append.1 h with h1 | h1
  ·exact key h1
  ·simp only[List.mem_singleton] at h1
   exact .inl h1
theorem qW {n:Nat}{t:Tb}(h:kz n t){r:Rw}(hr:Ai (64+n+1) r):kz (n+1) (setRow t r):=by
 have h1:=nc t.rows r;have h2:=h.len;refine⟨by simp only[setRow];omega,h.lo,h.hi,fun x hx=> ?_⟩
 rcases tO hx with e | e
 ·rw [e];exact hr
 ·exact (h.rows x e).more (by omega)
theorem pP {n:Nat}{t:Tb}(h:kz n t)(now:Int)(f:Cf):kz n (dc t now f):=⟨Nat.le_trans (sq t now f) h.len,h.lo,h.hi,fun r hr=>h.rows r (oG hr)⟩
theorem J7 {n:Nat}{t:Tb}(h:kz n t){key now:Int}(hk:bC key)(hn:bC now)(f:Cf):kz (n+1) (bV t key now f).1:=by
 unfold bV;split
 ·exact h.more
 ·split
  ·exact qW h ((yG h hk hn _ _).more (by omega))
  ·split
   ·exact h.more
   ·exact qW (pP h now f) ((yG (pP h now f) hk hn _ _).more (by omega))
theorem yI {n:Nat}{t:Tb}(h:kz n t){key node:Int}(hk:bC key)(hh:has t key node=true):1<=bF t key node/\bF t key node<=2147483648:=by
 have hb:=iM h hk;unfold has at hh;simp only[Bool.and_eq_true,decide_eq_true_eq] at hh;unfold bF;rcases bA (fun x=>x.1==node) (0,0) (ah t key).out with ⟨h1,-⟩ | ⟨j,h1,h2,-⟩
 ·have:=hh.2
  unfold cF at this;omega
 ·have e:(cF (ah t key).out node).toNat=j:=by unfold cF;omega
  rw[e];have hm:(ah t key).out.getD j (0,0)∈(ah t key).out:=by simp[List.getD,h2]
  exact(hb.out _ hm).2
theorem Cv {n:Nat}{t:Tb}(h:kz n t){key:Int}(hk:bC key)(node spent:Int):kz (n+1) (settle t key node spent).1:=by
 unfold settle;split
 ·have hb:=iM h hk
  refine qW h ⟨?_,jN _,jm _,hb.mark,hb.key,fun x hx=>hb.out x (List.mem_of_mem_eraseIdx hx)⟩
  have h1:(aP (ah t key) (cF (ah t key).out node).toNat (bF t key node-eZ (bF t key node) spent)).out.length<=(ah t key).out.length:=List.length_eraseIdx_le _ _;have:=hb.len;omega
 ·exact h.more
theorem tP (x y:Int×Int):∀(l:List (Int×Int))(s:List (Int×Int)×Bool),y∈(l.foldl (aZ x) s).1->y=x∨y∈s.1∨y∈l
 | [],s,h=>.inr (.inl h)
 | z :: l,(a,b),h=>by
   rcases tP x y l _ h with h1 | h1 | h1
   ·exact .inl h1
   ·simp only[aZ,List.mem_append] at h1
    rcases h1 with h1 | h1
    ·split at h1
     ·rcases List.mem_append.1 h1 with h2 | h2
      ·exact .inr (.inl h2)
      ·simp only[List.mem_singleton] at h2
       exact .inl h2
     ·exact .inr (.inl h1)
    ·simp only[List.mem_singleton] at h1
     exact .inr (.inr (by rw[h1];exact List.mem_cons_self))
   ·exact .inr (.inr (List.mem_cons_of_mem _ h1))
theorem xG {x y:Int×Int}{l:List (Int×Int)}(h:y∈bL l x):y=x∨y∈l:=by
 have key:y∈(dI x l).1->y=x∨y∈l:=fun h=>by
  rcases tP x y l ([],false) h with h1 | h1 | h1
  ·exact .inl h1
  ·cases h1
  ·exact .inr h1
 unfold bL at h;split at h
 ·exact key h
 ·rcases List.mem_append.1 h with h1 | h1
  ·exact key h1
  ·simp only[List.mem_singleton] at h1
   exact .inl h1
theorem Fg {t:Tb}{key node aF:Int}(h:fe t key node aF=true):1<=bT (ah t key) aF/\0<=node/\node<=63:=by
 simp only[fe,Bool.and_eq_true,decide_eq_true_eq] at h;exact⟨h.1.1.1.2,h.1.1.2,h.1.2⟩
theorem Fh {n:Nat}{t:Tb}(h:kz n t){key:Int}(hk:bC key)(node aF:Int):kz (n+1) (aQ t key node aF).1:=by
 unfold aQ;split
 ·rename_i hm
  have hm:=Fg hm;have hb:=iM h hk;have h1:=hb.lo;have h2:=hb.hi;have h3:=dM aF;have hg:bT (ah t key) aF<=(ah t key).ay/\bT (ah t key) aF<=2147483648:=by unfold bT;omega
  refine qW h ⟨?_,?_,?_,hb.mark,hb.key,fun x hx=> ?_⟩
  ·have:=hb.len
   simp only[fY];rw[pk];omega
  ·simp only[fY];omega
  ·simp only[fY];omega
  ·rcases xG hx with e | e
   ·rw [e];exact⟨⟨hm.2.1,hm.2.2⟩,hm.1,hg.2⟩
   ·exact hb.out x e
 ·exact h.more
open Zx (Rw Tb aq ak af eh cG gS)
open Zq (ae aj ai)
structure uJ (I:Nat->Tb->Prop):Prop where
 dJ:∀{n:Nat} {t:Tb},I n t->kz n t
 first:∀{t:Tb},eh t=true->I 0 t
 bV:∀{n:Nat} {t:Tb} {key now:Int} (f:Cf),I n t->bC key->bC now->f.aR<=16->I (n+1) (bV t key now f).1
 settle:∀{n:Nat} {t:Tb} {key:Int} (node spent:Int),I n t->bC key->I (n+1) (settle t key node spent).1
 aQ:∀{n:Nat} {t:Tb} {key:Int} (node aF:Int),I n t->bC key->I (n+1) (aQ t key node aF).1
 dc:∀{n:Nat} {t:Tb} (now:Int) (f:Cf),I n t->I n (dc t now f)
def bq (S:Nat->Prop)(w:World)(p:Option Addr)(l:List (Int×Int)):Prop :=
 l=[]∨∃b o,p=some ⟨b,o,none⟩/\S b/\∀j,j<l.length->w.cell? ⟨b,o+j*2,none⟩=some (.int .i64 (l.getD j (0,0)).1)/\w.cell? ⟨b,o+j*2+1,none⟩=some (.int .i64 (l.getD j (0,0)).2)
def Wo (S:Nat->Prop)(w:World)(b o:Nat)(r:Rw):Prop :=
 w.cell? ⟨b,o,none⟩=some (.int .i64 r.key)/\w.cell? ⟨b,o+1,none⟩=some (.int .i64 r.ay)/\w.cell? ⟨b,o+2,none⟩=some (.int .i64 r.mark)/\∃p c,w.cell? ⟨b,o+3,none⟩=some (.slice p r.out.length (c+r.out.length))/\bq S w p r.out
def cz (S:Nat->Prop)(w:World)(p:Option Addr)(l:List Rw):Prop :=
 l=[]∨∃b o,p=some ⟨b,o,none⟩/\S b/\∀j,j<l.length->Wo S w b (o+j*4) (l.getD j aq)
section
variable {S S':Nat->Prop}{w w':World}{p:Option Addr}
theorem bq.rest {l:List (Int×Int)}(h:bq S w p l):ak w p l:=by
 rcases h with h | ⟨b,o,e,-,hc⟩
 ·exact .inl h
 ·exact .inr ⟨b,o,e,hc⟩
theorem cz.rest {l:List Rw}(h:cz S w p l):ar w p l:=by
 rcases h with h | ⟨b,o,e,-,hc⟩
 ·exact .inl h
 ·refine .inr ⟨b,o,e,fun j hj=> ?_⟩
  obtain⟨h0,h1,h2,q,c,h3,h4⟩:=hc j hj;exact⟨h0,h1,h2,q,c,h3,h4.rest⟩
theorem bq.on {l:List (Int×Int)}(h:bq S w p l)(hS:∀b,S b->b<w.heap.size->S' b)(hk:∀b,S b->b<w.heap.size->w'.heap[b]? =w.heap[b]?):bq S' w' p l:=by
 rcases h with h | ⟨b,o,e,hb,hc⟩
 ·exact .inl h
 ·by_cases hl:l=[]
  ·exact .inl hl
  ·have aC:b<w.heap.size:=World.block_lt_of_cell? _ _ (hc 0 (List.length_pos_iff.2 hl)).1
   refine .inr ⟨b,o,e,hS _ hb aC,fun j hj=> ?_⟩
   have he:∀i,w'.cell? ⟨b,i,none⟩=w.cell? ⟨b,i,none⟩:=fun i=>World.cell?_of_block (w:=w) (hk b hb aC)
   rw[he,he];exact hc j hj
theorem cz.on {l:List Rw}(h:cz S w p l)(hS:∀b,S b->b<w.heap.size->S' b)(hk:∀b,S b->b<w.heap.size->w'.heap[b]? =w.heap[b]?):cz S' w' p l:=by
 rcases h with h | ⟨b,o,e,hb,hc⟩
 ·exact .inl h
 ·by_cases hl:l=[]
  ·exact .inl hl
  ·have aC:b<w.heap.size:=World.block_lt_of_cell? _ _ (hc 0 (List.length_pos_iff.2 hl)).1
   refine .inr ⟨b,o,e,hS _ hb aC,fun j hj=> ?_⟩
   obtain⟨h0,h1,h2,q,c,h3,h4⟩:=hc j hj;have he:∀i,w'.cell? ⟨b,i,none⟩=w.cell? ⟨b,i,none⟩:=fun i=>World.cell?_of_block (w:=w) (hk b hb aC)
   exact⟨by rw[he];exact h0,by rw[he];exact h1,by rw[he];exact h2,q,c,by rw[he];exact h3,h4.on hS hk⟩
theorem cz.below {l:List Rw}(h:cz S w p l)(hb:Below w.heap.size w w'):cz S w' p l:=h.on (fun _ h _=>h) fun b _ aC=>hb.block b aC
theorem Aj {b o:Nat}{x:Int}{q:Option Addr}{m k:Nat}{y:Value}{l:List (Int×Int)}(hb:w.heap[b]? =some (.cells #[.int .i64 x,.slice q m k] 28 (0,0)))(h:bq S w p l):bq S (w.setCell ⟨b,o,none⟩ y) p l:=by
 rcases h with h | ⟨b',o',e,hs,hc⟩
 ·exact .inl h
 ·by_cases hl:l=[]
  ·exact .inl hl
  ·have hne:b'≠b:=by
    rintro rfl;have h1:=(hc 0 (List.length_pos_iff.2 hl)).2;rw[cell_of_row w b' _ _ _ (0,0) hb] at h1
    match o',h1 with
    | 0,h1=>simp at h1
    | n+1,h1=>simp at h1
   refine .inr ⟨b',o',e,hs,fun j hj=> ?_⟩
   have he:∀i,(w.setCell ⟨b,o,none⟩ y).cell? ⟨b',i,none⟩=w.cell? ⟨b',i,none⟩:=fun i=>World.cell?_of_block (w:=w) (Below.heap_setCell _ _ _ _ (by simpa using hne))
   rw[he,he];exact hc j hj
theorem pQ {b o:Nat}{x:Int}{q:Option Addr}{m k:Nat}{y:Value}{l:List Rw}(hb:w.heap[b]? =some (.cells #[.int .i64 x,.slice q m k] 28 (0,0)))(h:cz S w p l):cz S (w.setCell ⟨b,o,none⟩ y) p l:=by
 rcases h with h | ⟨b',o',e,hs,hc⟩
 ·exact .inl h
 ·by_cases hl:l=[]
  ·exact .inl hl
  ·have hne:b'≠b:=by
    rintro rfl;have h1:=(hc 0 (List.length_pos_iff.2 hl)).2.2.1;rw[cell_of_row w b' _ _ _ (0,0) hb] at h1
    match o',h1 with
    | n,h1=>simp at h1
   refine .inr ⟨b',o',e,hs,fun j hj=> ?_⟩
   have he:∀i,(w.setCell ⟨b,o,none⟩ y).cell? ⟨b',i,none⟩=w.cell? ⟨b',i,none⟩:=fun i=>World.cell?_of_block (w:=w) (Below.heap_setCell _ _ _ _ (by simpa using hne))
   obtain⟨h0,h1,h2,pl,cl,h3,h4⟩:=hc j hj;exact⟨by rw[he];exact h0,by rw[he];exact h1,by rw[he];exact h2,pl,cl,by rw[he];exact h3,Aj hb h4⟩
end
def kO (w:World)(pt:Option Addr)(t T:Tb)(mk:Value->Value)(e:Ending)(w':World):Prop:=∃p c,e=.returned (mk (bN T p c))/\(ar w' p T.rows/\∀S,cz S w pt t.rows->cz (fun b=>S b∨w.heap.size<=b) w' p T.rows)/\Below w.heap.size w w'
section
variable {n:Nat}{t:Tb}
theorem lF (h:kz n t)(hn:n<=61):t.rows.length<=1000/\∀r∈t.rows,r.out.length<=1000:=⟨by have:=h.len;omega,fun r hr=>by have:=(h.rows r hr).len;omega⟩
theorem Ak (h:kz n t)(hn:n<=61)(p:Option Addr)(c:Nat){key:Int}(hk:bC key)(node spent:Int)(w:World)(hr:ar w p t.rows):Calls prog 114 #[bN t p c,.int .i64 key,.int .i64 node,.int .i64 spent] w (ew w (settle t key node spent).1 (fun v=>.tuple #[v,.int .i64 (settle t key node spent).2])):=by
 obtain⟨h1,h2⟩:=lF h hn;cases hh:has t key node with
 | false =>
   have e:settle t key node spent=(t,0):=by unfold settle;rw[if_neg (by simp[hh])]
   rw[e];exact Jy t p c key node spent w hr h1 h2 hh
 | true=>exact ET t p c key node spent w hr h1 h2 hh (by have:=(yI h hk hh).2;omega)
theorem Cw (h:kz n t)(hn:n<=61)(p:Option Addr)(c:Nat){key:Int}(hk:bC key)(node aF:Int)(w:World)(hr:ar w p t.rows):Calls prog 64 #[bN t p c,.int .i64 key,.int .i64 node,.int .i64 aF] w (ew w (aQ t key node aF).1 (fun v=>.tuple #[v,.int .i64 (aQ t key node aF).2])):=by
 obtain⟨h1,h2⟩:=lF h hn;cases hh:fe t key node aF with
 | false =>
   have e:aQ t key node aF=(t,0):=by unfold aQ;rw[if_neg (by simp[hh])]
   rw[e];exact NM t p c key node aF w hr h1 h2 hh
 | true=>exact J6 t p c key node aF w hr h1 h2 hh (by have:=(iM h hk).hi;omega)
end
structure J8 (X:World->Option Addr->Prop):Prop where
 on:∀{u u':World} {p:Option Addr},X u p->Below u.heap.size u u'->X u' p
 oZ:∀{u:World} {p:Option Addr} {b o:Nat} {x:Int} {q:Option Addr} {m k:Nat} {y:Value},u.heap[b]? =some (.cells #[.int .i64 x,.slice q m k] 28 (0,0))->X u p->X (u.setCell ⟨b,o,none⟩ y) p
theorem NN (l:List Rw)(N:(Nat->Prop)->Prop)(S':(Nat->Prop)->Nat->Prop):J8 fun u p=>ar u p l/\∀S,N S->cz (S' S) u p l:=⟨fun h hb=>⟨h.1.below hb,fun S hS=>(h.2 S hS).below hb⟩,fun hb h=>⟨gl hb h.1,fun S hS=>pQ hb (h.2 S hS)⟩⟩
theorem fR {X:World->Option Addr->Prop}(hX:J8 X){w u:World}{start:Int}{p':Option Addr}{c' n:Nat}{x:Int}(b:Nat)(aW:w.heap.size<=b)(hres:u.heap[b]? =some (.cells #[.int .i64 x,.slice none 0 0] 28 (0,0)))(hr:X u p')(hb:Below w.heap.size w u)(mk:Value->Value) :
 ∃p c,Ending.returned (mk (.agg #[.int .i64 start,.slice p' n (c'+n)]))=.returned (mk (.agg #[.int .i64 start,.slice p n (c+n)]))/\X ((u.setCell ⟨b,0,none⟩ (.int .i64 start)).setCell ⟨b,1,none⟩ (.slice p' n (c'+n))) p/\Below w.heap.size w ((u.setCell ⟨b,0,none⟩ (.int .i64 start)).setCell ⟨b,1,none⟩ (.slice p' n (c'+n))):=by
 have h2:(u.setCell ⟨b,0,none⟩ (.int .i64 start)).heap[b]? =some (.cells #[.int .i64 start,.slice none 0 0] 28 (0,0)):=by rw[ai _ 0 _ _ hres];rfl
 exact⟨p',c',rfl,hX.oZ h2 (hX.oZ hres hr),(hb.setCell aW _).setCell aW _⟩
open Zx (Rw Tb aq ak af eh cG gS dC dO)
theorem open_ints {P:Program}{F:Nat}{args:Array Value}{u:World}{l:List Int}(h:Calls P F args u (r8 u l)):Calls P F args u fun e w'=>∃p c,e=.returned (.slice p l.length c)/\(∀k:Nat,k<l.length->∃b o,p=some ⟨b,o,none⟩/\w'.cell? ⟨b,o+k,none⟩=some (.int .i64 (l.getD k 0)))/\Below u.heap.size u w':=h
theorem Cx (l:List (Int×Int)):Zx.jP l l=true:=by
 unfold Zx.jP;exact dO fun j _=>by simp[Zx.jO]
theorem NP (r:Rw):Zx.ij r r=true:=by
 simp[Zx.ij,Cx]
theorem Fi (t:Tb):gS t t=true:=by
 unfold gS;rw[beq_self_eq_true,beq_self_eq_true,Bool.true_and,Bool.true_and];exact dO fun j _=>NP _
end Zv
end Go.Proofs.YtbgdlokegibkmaaGreat
