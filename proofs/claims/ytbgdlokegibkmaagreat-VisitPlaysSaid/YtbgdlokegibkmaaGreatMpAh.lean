/-
  A part of the proof of VisitPlays.
-/
import Derived.Lib.AppendZerosOnto
import Derived.Lib.Walk
import Derived.Lib.SliceRun
import Derived.Test.YtbgdlokegibkmaaGreatMpAb
set_option maxRecDepth 100000
set_option maxHeartbeats 8000000
namespace Go.Proofs.YtbgdlokegibkmaaGreat
open Go.RowKit
open Tryz
open Lib (hid)
namespace Zk
open Zz
variable {ov:Nat}
open Zq (ae aj ai)
open Zp (iE aL Own At bS eu af aD aA ag)
open Zr (dh add dD dM)
theorem yo {l:List Nt}{j:Nat}(h:j<l.length):l.drop j=l.getD j z :: l.drop (j+1):=by
 rw[List.drop_eq_getElem_cons h];simp[List.getD,h]
theorem Tq (k:Int){l:List Nt}{j:Nat}(h:j<l.length)(e:(l.getD j z).key=k):bh k (l.drop j)=(max (bh k (l.drop (j+1))).1 (dh (l.getD j z).spent / 2 ^ min (bh k (l.drop (j+1))).2 63),(bh k (l.drop (j+1))).2+1):=by
 rw[yo h]
 show(if (l.getD j z).key=k then _ else _)=_
 rw[if_pos e]
theorem V7 (k:Int){l:List Nt}{j:Nat}(h:j<l.length)(e:(l.getD j z).key≠k):bh k (l.drop j)=bh k (l.drop (j+1)):=by
 rw[yo h]
 show(if (l.getD j z).key=k then _ else _)=_
 rw[if_neg e]
theorem V8 (x:Int)(n:Nat):x / 2 ^ (n+1)=x / 2 ^ n / 2:=by
 rw[Int.ediv_ediv_of_nonneg (Int.le_of_lt (qI n)),<-Int.pow_succ]
theorem oy {B v:Nat}{l:List Nt}{w:World}(h:Dm B w v ov l)(hl:l.length<=1000)(key:Int) :
 Calls prog 171 #[.pointer (some ⟨v,ov,none⟩),.int .i64 key] w fun e w'=>e=.returned (.int .i64 (of l key))/\Below w.heap.size w w':=by
 obtain⟨p,c,c1,hr,-⟩:=h.cell;have HR:=hid hr;have HD:=hid (VD l key);have HY:=hid (fun(j:Nat) (hj:j<l.length)=>Tq key hj)
 have YC:=hid (fun(j:Nat) (hj:j<l.length)=>V7 key hj)
 have HN:=hid (fun j=>Ey key (l.drop j))
 have H0:=hid (show bh key (l.drop l.length)=(0,0) by rw[List.drop_length];rfl)
 have HB:=hid (Below.refl w.heap.size w);have jr:IntKind.i64.wrap ((l.length:Int)-1)=(l.length:Int)-1:=IntWalk.i64_in _ (by omega)
 generalize of l key=R at HD ⊢;have HE:=hid (show(bh key (l.drop 0)).1=R by rw[List.drop_zero];exact HD.out)
 generalize hK:(fun j=>bh key (l.drop j))=KB
 have hK':∀j,bh key (l.drop j)=KB j:=fun j=>by rw[<-hK]
 simp only[hK'] at HE HY YC HN H0;clear hr h hK hK' HD;go_enter func171,ntmps171
 go_wp2;go_loop [5,6,7] (fun bst rM i=>∃j:Nat,j<=l.length/\((j=0/\i=.int .i64 (-1))∨(∃n:Nat,j=n+1/\i=.int .i64 (n:Int)))/\bst=.int .i64 (KB j).1/\rM=.int .i64 ((KB j).2:Int)) (fun _ _ i=>(intOf i+1).toNat)
 case atStart =>
  refine⟨l.length,Nat.le_refl _,?_,by rw[H0.out],by rw[H0.out];rfl⟩
  rcases hl0:l.length with- | n
  ·exact .inl ⟨rfl,by simp⟩
  ·exact .inr ⟨n,rfl,by congr 1;omega⟩
 case round =>
  obtain⟨j,hj,hi,rfl,rfl⟩:=hrel;rcases hi with ⟨rfl,rfl⟩ | ⟨n,rfl,rfl⟩
  ·have hn:=HE.out
   generalize KB 0=S at *;obtain⟨b0,h0⟩:=S;simp only at hn;subst hn;go_wp2;go_ret;exact⟨rfl,HB.out⟩
  ·have aC:n<l.length:=by omega
   obtain⟨b,o,rfl,hat⟩:=bj HR.out aC;obtain⟨k0,k1⟩:=at2 hat;have hdec:IntKind.i64.wrap ((n:Int)-1)=(n:Int)-1:=IntWalk.i64_in _ (by omega)
   obtain⟨g0,g1,g2⟩:=HN.out (n+1);have g3:(KB (n+1)).2<=1000:=Nat.le_trans g2 (by simp;omega)
   have HI:=hid (show((n=0/\Value.int .i64 ((n:Int)-1)=.int .i64 (-1))∨(∃m:Nat,n=m+1/\Value.int .i64 ((n:Int)-1)=.int .i64 (m:Int))) from by
    rcases n with- | m
    ·exact .inl ⟨rfl,rfl⟩
    ·exact .inr ⟨m,rfl,by congr 1;omega⟩)
   by_cases hk:(l.getD n z).key=key
   ·have HQ:=hid (HY.out n aC hk)
    rw[hk] at k0;have ct:=Zr.fQ (l.getD n z).spent;generalize KB (n+1)=S at *;generalize H5:KB n=S' at *;have nu:=hid H5;have f0:=dD (l.getD n z).spent;have f1:=dM (l.getD n z).spent;clear hat hk HY YC HN H0 HE g2 H5;generalize(l.getD n z).spent=x at *;generalize dh x=y at *;obtain⟨aaR,uv⟩:=S;simp only at g0 g1 g3 HQ;go_wp2_with (go_at_call 70;(with_reducible refine(ct _).mono ?_);rintro e w2 ⟨rfl,rfl⟩)
    have HM:=hid (show min uv 63<=uv/\min uv 63<=63/\(min uv 63<uv->min uv 63=63) by omega)
    generalize hmn:min uv 63=M at *;have HV:=hid (fun t=>V8 y t)
    have HP:=hid (show y / 2 ^ 0=y by simp)
    have HZ:=hid (fun t=>Int.ediv_nonneg f0 (Int.le_of_lt (qI t)))
    have HT:=hid (fun t=>Int.le_trans (Int.ediv_le_self (2 ^ t) f0) f1)
    clear hmn;generalize hX:(fun t:Nat=>y / 2 ^ t)=X at *
    have hX':∀t:Nat,y / 2 ^ t=X t:=fun t=>by rw[<-hX]
    simp only[hX'] at HV HP HQ HZ HT;clear hX hX';go_loop [8,9] (fun x k=>∃t:Nat,t<=M/\k=.int .i64 (t:Int)/\x=.int .i64 (X t)) (fun _ k=>M-(intOf k).toNat)
    case atStart=>exact ⟨0,by omega,rfl,by rw[HP.out]⟩
    case round =>
     obtain⟨t,ht,rfl,rfl⟩:=hrel;obtain⟨m1,m2,m3⟩:=HM.out;have z0:=HZ.out t;have z1:=HT.out t;by_cases htm:t<M
     ·have h1:(t:Int)<(uv:Int):=by omega
      have h2:(t:Int)<63:=by omega
      have HVT:=hid (HV.out t);clear HV HP HZ HT HQ;generalize X t=xt at *;go_wp2;go_round
      case rel=>exact ⟨t+1,by omega,by go_num,by rw[HVT.out]⟩
      case measure=>simp only[intOf];omega
     ·obtain rfl:t=M:=by omega
      clear HV HP HZ HT;generalize X t=xt at *;by_cases h1:(t:Int)<(uv:Int)
      ·have h2:¬(t:Int)<63:=by omega
       go_wp2;go_round
       case rel=>exact ⟨n,by omega,HI.out,by rw[nu.out,HQ.out],by rw[nu.out,HQ.out];simp⟩
       case measure=>simp only[intOf];omega
      ·go_wp2
       go_round
       case rel=>exact ⟨n,by omega,HI.out,by rw[nu.out,HQ.out],by rw[nu.out,HQ.out];simp⟩
       case measure=>simp only[intOf];omega
   ·have HQ:=hid (YC.out n aC hk)
    clear hat k1 HY YC HN H0 HE g2;generalize(l.getD n z).key=kk at *;have Pz:(kk != key)=true:=by simp[hk]
    generalize KB (n+1)=S at *;generalize H5:KB n=S' at *;have nu:=hid H5;clear H5 hk;obtain⟨aaR,uv⟩:=S;simp only at g0 g1 g3 HQ;go_wp2;go_round
    case rel=>exact ⟨n,by omega,HI.out,by rw[nu.out,HQ.out],by rw[nu.out,HQ.out]⟩
    case measure=>simp only[intOf];omega
theorem JL {B v:Nat}{l:List Nt}{w:World}(h:Dm B w v ov l)(hl:l.length<=1000)(key pM l5:Int) :
 Calls prog 117 #[.pointer (some ⟨v,ov,none⟩),.int .i64 key,.int .i64 pM,.int .i64 l5] w fun e w'=>e=.returned (.int .i64 (aF (of l key) pM l5))/\Below w.heap.size w w':=by
 have c1:=oy h hl key;have c2:=Zr.eP (of l key) pM;have c3:=Zr.fQ l5;have HX:=hid (show min (add [of l key,pM]) (dh l5)=aF (of l key) pM l5 from rfl)
 generalize aF (of l key) pM l5=R at *;generalize add [of l key,pM]=a at *;generalize dh l5=b at *;generalize of l key=e at *;clear h;go_enter func117,ntmps117
 go_wp2_with (first
  |(go_at_call 171;(with_reducible refine c1.mono ?_);rintro e1 w1 ⟨rfl,hb⟩;have HB:=hid hb;clear hb c1)
  |(go_at_call 50;(with_reducible refine(c2 _).mono ?_);rintro e1 w2 ⟨rfl,rfl⟩)
  |(go_at_call 70;(with_reducible refine(c3 _).mono ?_);rintro e1 w3 ⟨rfl,rfl⟩))
 go_ret;exact⟨by simp;exact HX.out,HB.out⟩
end Zk
namespace Zk
open Zz
variable {ov:Nat}
open Zq (ae aj ai)
open Zp (iE aL Own At bS eu af aD aA ag bQ bX)
theorem JM {B v:Nat}{l:List Nt}{w:World}(h:Dm B w v ov l)(hB:B<=w.heap.size)(hl:l.length<=900)(key spent:Int) :
 Calls prog 167 #[.pointer (some ⟨v,ov,none⟩),.int .i64 key,.int .i64 spent] w fun e w'=>e=.returned (.int .i64 (of (l++[⟨key,spent⟩]) key))/\cS B w v ov (l++[⟨key,spent⟩]) w':=by
 have HV:=hid h;have eF:=hid hB;obtain⟨p,c,c1,lx,cn⟩:=h.cell;have hv:=h.lt;have LX:=hid (lx.below ((Below.refl _ _).alloc (Nat.le_refl _) (.cells #[] 244)));have CN:=hid cn;have HA:=hid ((Below.refl w.heap.size w).alloc (Nat.le_refl _) (.cells #[] 244));have OM:=hid (Zp.qF (E:=vx) (T:=244) w w.heap.size (Nat.le_refl _));have HO:=hid (fun u (hs:Dm B u v ov (l++[⟨key,spent⟩]))=>oy hs (by simp;omega) key)
 clear lx cn h;go_enter func167,ntmps167
 go_wp2_with (first
  |(at_builtin;refine Zp.rV xY rfl _ _ rfl w _ _ rfl [] 0 rfl OM.out HA.out (Below.refl _ _) l l.length c p rfl rfl LX.out CN.out (by omega) ?_;intro p4 c4 w4 R4 B4;have R5:=hid (show Own vx 244 w.heap.size w4 (.slice p4 l.length c4) l from by(have:=R4.out;rw[Nat.zero_add] at this;exact this));have B5:=hid B4;clear R4 B4 OM LX CN c1)
  |(at_builtin;refine Zp.push xY rfl _ _ rfl w w4 (.slice p4 l.length c4) rfl l l.length rfl R5.out B5.out ((Below.refl _ _).alloc (Nat.le_refl _) _) w4.heap.size ⟨key,spent⟩ rfl (heap_alloc_new _ _) (by omega) ?_;intro p6 c6 w6 R6 B6;obtain⟨f0,⟨u0,k0⟩,D⟩:=HV.out.store eF.out B6 R6.out)
  |(go_at_call 171;(with_reducible refine(HO.out _ D.out.dm).mono ?_);rintro e w7 ⟨rfl,hb⟩))
 go_ret;exact⟨rfl,D.out.on hb (Nat.le_trans eF.out D.out.size)⟩
end Zk
namespace Zk
open Zz
variable {ov:Nat}
open Zq (ae aj ai)
open Zp (iE aL Own At bS eu af aD aA ag bQ bX)
theorem iF:eu prog bX 3 25:=⟨underlying25,.int .i64 0,8,by kernel_rfl,rfl,by decide⟩
theorem U2 {w:World}{b o:Nat}{x:Int}(h:At bX w b o x):w.cell? ⟨b,o,none⟩=some (.int .i64 x):=h 0 _ rfl
theorem oD {w:World}{p:Option Addr}{l:List Int}(h:aL bX w p l){j:Nat}(hj:j<l.length):∃b o,p=some ⟨b,o,none⟩/\w.cell? ⟨b,o+j,none⟩=some (.int .i64 (l.getD j 0)):=by
 obtain⟨b,o,e,ha⟩:=Zp.bj h hj;refine⟨b,o,e,?_⟩;have:=U2 ha;rwa [show bX.n=1 from rfl,Nat.mul_one] at this
theorem nv (k a:Int)(s:List Int×Bool) :
 (s.2=false/\k<=a/\a=k/\dA k s a=(s.1++[k],true))∨(s.2=false/\k<=a/\a≠k/\dA k s a=(s.1++[k]++[a],true))∨
 ((s.2=true∨s.2=false/\¬k<=a)/\a=k/\dA k s a=s)∨((s.2=true∨s.2=false/\¬k<=a)/\a≠k/\dA k s a=(s.1++[a],s.2)):=by
 obtain⟨l,d⟩:=s;unfold dA;cases d <;>by_cases h1:k<=a <;>by_cases h2:a=k <;>simp [h1,h2]
theorem vF {k:Int}{l:List Int}{j:Nat}(h:j<l.length):dP k (l.take (j+1))=dA k (dP k (l.take j)) (l.getD j 0):=by
 rw[aA 0 h,jS]
theorem se {B v:Nat}{l:List Nt}{w:World}(h:Dm B w v ov l)(hl:l.length<=900) :
 Calls prog 170 #[.pointer (some ⟨v,ov,none⟩)] w fun e w'=>∃p c,e=.returned (.slice p (aR l).length c)/\Own bX 3 w.heap.size w' (.slice p (aR l).length c) (aR l)/\Below w.heap.size w w':=by
 have HV:=hid h;have HD:=hid (show aR l=lv l (l.take l.length) by rw[List.take_length];rfl)
 have HOF:=hid (fun u k (hu:Below w.heap.size w u)=>oy (HV.out.below hu) (by omega) k)
 have HS:=hid (fun(j:Nat) (h:j<l.length)=>P3 l h)
 have HL:=hid (fun j=>Bw l (l.take j))
 have H0:=hid (show lv l (l.take 0)=[] from rfl)
 generalize aR l=R at HD ⊢;generalize hK:(fun j=>lv l (l.take j))=KS
 have hK':∀j,lv l (l.take j)=KS j:=fun j=>by rw[<-hK]
 simp only[hK'] at HD HS HL H0;clear h hK hK';go_enter func170,ntmps170
 go_wp2;go_loopw [3,4] (fun y k wr=>∃(j:Nat) (p:Option Addr) (d n:Nat),j<=l.length/\k=.int .i64 (j:Int)/\y=.slice p n d/\Hid (Own bX 3 w.heap.size wr y (KS j))/\Hid ((KS j).length=n)/\Hid (Below w.heap.size w wr)) (fun _ k _=>l.length-(intOf k).toNat)
 case atStart=>exact ⟨0,none,0,0,by omega,rfl,rfl,by rw[H0.out];exact hid (Own.none _ _ _ _),by rw[H0.out];exact hid rfl,hid (Below.refl _ _)⟩
 case round =>
  obtain⟨j,p,d,n,hj,rfl,rfl,ax,hn,cA⟩:=hrel;obtain⟨q0,cq0,c1,hr,-⟩:=(HV.out.below cA.out).cell;by_cases aC:j<l.length
  ·have bE:(j:Int)<(l.length:Int):=by omega
   have HE:=hid (HS.out j aC);have Yp:n<=1000:=by
    rw[<-hn.out];exact Nat.le_trans (HL.out j) (by simp;omega)
   have HPJ:=hid (fun u (hu:Below w.heap.size w u)=>bj (HV.out.below hu).cell.choose_spec.choose_spec.2.1 aC)
   generalize KS j=M at *;have eM:=ax.out.gi;obtain⟨p',c',e',HM⟩:=eM;simp only[Value.slice.injEq] at e';obtain⟨rfl,zO,rfl⟩:=e';subst zO;have Jr:=hid HM;have uE:=hid (bj hr aC);clear hr HM HPJ;generalize l.getD j z=x at *;obtain⟨xk,xs⟩:=x;obtain⟨b,o,rfl,hat⟩:=uE.out;obtain⟨k0,k1⟩:=at2 hat;have HX:=hid (fun u (hu:Below wr.heap.size wr u)=>And.intro (af c1 hu) (af k0 hu))
   have kX:=hid (HOF.out _ xk cA.out);have YE:=hid (show KS (j+1)=if of l xk=0 then M else ja xk M from HE.out)
   generalize of l xk=E at *;simp only at k0;clear hat k1 uE HE;by_cases hE:E=0
   ·subst hE
    have HE:=hid (show KS (j+1)=M by rw[YE.out,if_pos rfl])
    clear YE;go_wp2_with (go_at_call 171;(with_reducible refine kX.out.mono ?_);rintro e w1 ⟨rfl,hb⟩;have aO:=hid hb;clear hb kX)
    go_roundw
    case rel=>exact ⟨j+1,p,d,M.length,by omega,by go_num,rfl,by rw[HE.out];exact hid (Own.on ax.out aO.out),by rw[HE.out];exact hid rfl,hid (cA.out.trans (aO.out.mono cA.out.size))⟩
    case measure=>simp only[intOf];omega
   have HE:=hid (show KS (j+1)=ja xk M by rw[YE.out,if_neg hE])
   have hE2:(E==0)=false:=by simpa using hE
   clear YE hE;have MM:=hid (fun(m:Nat) (hm:m<M.length)=>vF (k:=xk) hm)
   have Qc:=hid (fun m=>ln xk (M.take m))
   have yh:=hid (show dP xk (M.take 0)=([],false) from rfl)
   have ED:=hid (show ja xk M=if (dP xk (M.take M.length)).2=true then (dP xk (M.take M.length)).1 else (dP xk (M.take M.length)).1++[xk] by rw[List.take_length];rfl)
   generalize ja xk M=M' at *;generalize hK:(fun j=>dP xk (M.take j))=KF
   have hK':∀j,dP xk (M.take j)=KF j:=fun j=>by rw[<-hK]
   simp only[hK'] at MM Qc yh ED;clear hK hK';go_wp2_with (go_at_call 171;(with_reducible refine kX.out.mono ?_);rintro e w1 ⟨rfl,hb⟩;have aO:=hid hb;clear hb kX c1 k0)
   have HX:=hid (fun u (hu:Below w1.heap.size w1 u)=>HX.out u (aO.out.trans (hu.mono aO.out.size)))
   have Jr:=hid (Jr.out.below aO.out);have cA:=hid (cA.out.trans (aO.out.mono cA.out.size));have ax:=hid (Own.on ax.out aO.out)
   rename World=>W1
   go_loopw [5,6,7] (fun y dn k wu=>∃(m:Nat) (p2:Option Addr) (d2 n2:Nat),m<=M.length/\k=.int .i64 (m:Int)/\y=.slice p2 n2 d2/\dn=.bool (KF m).2/\Hid (Own bX 3 W1.heap.size wu y (KF m).1)/\Hid ((KF m).1.length=n2)/\Hid (Below W1.heap.size W1 wu)) (fun _ _ k _=>M.length-(intOf k).toNat)
   case atStart=>exact ⟨0,none,0,0,by omega,rfl,rfl,by rw[yh.out],by rw[yh.out];exact hid (Own.none _ _ _ _),by rw[yh.out];exact hid rfl,hid (Below.refl _ _)⟩
   case round =>
    obtain⟨m,p2,d2,n2,hm,rfl,rfl,rfl,lC,jJ,qD⟩:=hrel;obtain⟨c1,k1⟩:=HX.out _ qD.out;have hn6:n2<=1002:=by
     rw[<-jJ.out];have:=Qc.out m;have h5:(M.take m).length<=M.length:=by simp;omega
     omega
    by_cases MN:m<M.length
    ·have Te:(m:Int)<(M.length:Int):=by omega
     obtain⟨b2,o2,rfl,a1⟩:=oD Jr.out MN;have HA:=hid (fun u (hu:Below W1.heap.size W1 u)=>af a1 hu)
     have a0:=HA.out _ qD.out;have hst:=MM.out m MN;have hc:=nv xk (M.getD m 0) (KF m);rw[<-hst] at hc;clear hst a1 Jr MM Qc;generalize M.getD m 0=a at *;generalize KF m=S at *;generalize H5:KF (m+1)=S' at *;have nu:=hid H5;obtain⟨L,D⟩:=S;simp only at jJ lC hc;have tG:=lC;have aO:=qD;clear lC qD H5;rcases hc with ⟨hD,h1,h2,h3⟩ | ⟨hD,h1,h2,h3⟩ | ⟨hD,h2,h3⟩ | ⟨hD,h2,h3⟩
     ·subst hD
      have H3:=hid (nu.out.trans h3);have g1:decide (a>=xk)=true:=by simp;exact h1
      have g2:(a != xk)=false:=by simp[h2]
      clear nu h3 h2;go_wp2;go_quiet (fail)
      have bJ:=hid (aO.out.trans ((ag wr nq).mono aO.out.size));have oY:=hid (tG.out.on (ag wr nq));clear c1 k1 a0 aO tG;generalize wr.drewN nq=w2 at *;obtain⟨c1,k1⟩:=HX.out _ bJ.out;have a0:=HA.out _ bJ.out;go_wp2_with (at_builtin;refine Zp.push iF rfl _ _ rfl W1 w2 (.slice p2 n2 d2) rfl L n2 jJ.out oY.out bJ.out ((Below.refl _ _).alloc (Nat.le_refl _) _) w2.heap.size xk rfl (heap_alloc_new _ _) (by omega) ?_;intro p3 c3 w3 R3 B3;have jK:=R3;have cH:=hid B3;clear R3 B3 c1 k1 a0;obtain⟨c1,k1⟩:=HX.out _ cH.out;have a0:=HA.out _ cH.out)
      go_quiet (fail)
      have fp:=hid (cH.out.trans ((ag w3 nq).mono cH.out.size));have xl:=hid (jK.out.on (ag w3 nq));clear c1 k1 a0 cH jK;generalize w3.drewN nq=w4 at *;obtain⟨c1,k1⟩:=HX.out _ fp.out;have a0:=HA.out _ fp.out;go_wp2;go_roundw
      case rel=>exact ⟨m+1,p3,c3,n2+1,by omega,by go_num,rfl,by rw[H3.out],by rw[H3.out];exact xl,by rw[H3.out];exact hid (by simp[jJ.out]),fp⟩
      case measure=>simp only[intOf];omega
     ·subst hD
      have H3:=hid (nu.out.trans h3);have g1:decide (a>=xk)=true:=by simp;exact h1
      have g2:(a != xk)=true:=by simp[h2]
      have hn7:=hid (show(L++[xk]).length=n2+1 by simp[jJ.out])
      clear nu h3 h2;go_wp2;go_quiet (fail)
      have bJ:=hid (aO.out.trans ((ag wr nq).mono aO.out.size));have oY:=hid (tG.out.on (ag wr nq));clear c1 k1 a0 aO tG;generalize wr.drewN nq=w2 at *;obtain⟨c1,k1⟩:=HX.out _ bJ.out;have a0:=HA.out _ bJ.out;go_wp2_with (at_builtin;refine Zp.push iF rfl _ _ rfl W1 w2 (.slice p2 n2 d2) rfl L n2 jJ.out oY.out bJ.out ((Below.refl _ _).alloc (Nat.le_refl _) _) w2.heap.size xk rfl (heap_alloc_new _ _) (by omega) ?_;intro p3 c3 w3 R3 B3;have jK:=R3;have cH:=hid B3;clear R3 B3 c1 k1 a0;obtain⟨c1,k1⟩:=HX.out _ cH.out;have a0:=HA.out _ cH.out)
      go_quiet (fail)
      have fp:=hid (cH.out.trans ((ag w3 nq).mono cH.out.size));have xl:=hid (jK.out.on (ag w3 nq));clear c1 k1 a0 cH jK;generalize w3.drewN nq=w4 at *;obtain⟨c1,k1⟩:=HX.out _ fp.out;have a0:=HA.out _ fp.out;go_wp2_with (at_builtin;refine Zp.push iF rfl _ _ rfl W1 w4 (.slice p3 (n2+1) c3) rfl (L++[xk]) (n2+1) hn7.out xl.out fp.out ((Below.refl _ _).alloc (Nat.le_refl _) _) w4.heap.size a rfl (heap_alloc_new _ _) (by omega) ?_;intro p5 c5 w5 R5 B5;have U3:=R5;have jy:=hid B5;clear R5 B5 c1 k1 a0;obtain⟨c1,k1⟩:=HX.out _ jy.out;have a0:=HA.out _ jy.out)
      go_roundw
      case rel=>exact ⟨m+1,p5,c5,n2+1+1,by omega,by go_num,rfl,by rw[H3.out],by rw[H3.out];exact U3,by rw[H3.out];exact hid (by simp[jJ.out]),jy⟩
      case measure=>simp only[intOf];omega
     ·have H3:=hid (nu.out.trans h3)
      have g2:(a != xk)=false:=by simp[h2]
      clear nu h3 h2;rcases hD with hD | ⟨hD,h1⟩
      all_goals
       subst hD
       first | have g1:decide (a>=xk)=false:=(by simp;omega) | skip
       go_wp2;go_quiet (fail)
       have bJ:=hid (aO.out.trans ((ag wr nq).mono aO.out.size));have oY:=hid (tG.out.on (ag wr nq));clear c1 k1 a0 aO tG;generalize wr.drewN nq=w2 at *;obtain⟨c1,k1⟩:=HX.out _ bJ.out;have a0:=HA.out _ bJ.out;go_wp2;go_quiet (fail)
       have cH:=hid (bJ.out.trans ((ag w2 nq).mono bJ.out.size));have jK:=hid (oY.out.on (ag w2 nq));clear c1 k1 a0 bJ oY;generalize w2.drewN nq=w3 at *;obtain⟨c1,k1⟩:=HX.out _ cH.out;have a0:=HA.out _ cH.out;go_wp2;go_roundw
       case rel=>exact ⟨m+1,p2,d2,n2,by omega,by go_num,rfl,by rw[H3.out],by rw[H3.out];exact jK,by rw[H3.out];exact jJ,cH⟩
       case measure=>simp only[intOf];omega
     ·have H3:=hid (nu.out.trans h3)
      have g2:(a != xk)=true:=by simp[h2]
      clear nu h3 h2;rcases hD with hD | ⟨hD,h1⟩
      all_goals
       subst hD
       first | have g1:decide (a>=xk)=false:=(by simp;omega) | skip
       go_wp2;go_quiet (fail)
       have bJ:=hid (aO.out.trans ((ag wr nq).mono aO.out.size));have oY:=hid (tG.out.on (ag wr nq));clear c1 k1 a0 aO tG;generalize wr.drewN nq=w2 at *;obtain⟨c1,k1⟩:=HX.out _ bJ.out;have a0:=HA.out _ bJ.out;go_wp2;go_quiet (fail)
       have cH:=hid (bJ.out.trans ((ag w2 nq).mono bJ.out.size));have jK:=hid (oY.out.on (ag w2 nq));clear c1 k1 a0 bJ oY;generalize w2.drewN nq=w3 at *;obtain⟨c1,k1⟩:=HX.out _ cH.out;have a0:=HA.out _ cH.out;go_wp2_with (at_builtin;refine Zp.push iF rfl _ _ rfl W1 w3 (.slice p2 n2 d2) rfl L n2 jJ.out jK.out cH.out ((Below.refl _ _).alloc (Nat.le_refl _) _) w3.heap.size a rfl (heap_alloc_new _ _) (by omega) ?_;intro p4 c4 w4 R4 B4;have xl:=R4;have fp:=hid B4;clear R4 B4 c1 k1 a0;obtain⟨c1,k1⟩:=HX.out _ fp.out;have a0:=HA.out _ fp.out)
       go_roundw
       case rel=>exact ⟨m+1,p4,c4,n2+1,by omega,by go_num,rfl,by rw[H3.out],by rw[H3.out];exact xl,by rw[H3.out];exact hid (by simp[jJ.out]),fp⟩
       case measure=>simp only[intOf];omega
    ·have Te:¬(m:Int)<(M.length:Int):=by omega
     obtain rfl:m=M.length:=by omega
     have gL:=ED.out;clear MM Qc Jr ED MN;generalize KF M.length=S at *;obtain⟨L,D⟩:=S;simp only at jJ lC gL;cases D
     ·have MO:=hid (show M'=L++[xk] by rw[gL];rfl)
      clear gL;go_wp2_with (at_builtin;refine Zp.push iF rfl _ _ rfl W1 wr (.slice p2 n2 d2) rfl L n2 jJ.out lC.out qD.out ((Below.refl _ _).alloc (Nat.le_refl _) _) wr.heap.size xk rfl (heap_alloc_new _ _) (by omega) ?_;intro p3 c3 w3 R3 B3)
      go_roundw
      case rel=>exact ⟨j+1,p3,c3,n2+1,by omega,by go_num,rfl,by rw[HE.out,MO.out];exact hid (Own.lower R3.out cA.out.size),by rw[HE.out,MO.out];exact hid (by simp[jJ.out]),hid (cA.out.trans (B3.mono cA.out.size))⟩
      case measure=>simp only[intOf];omega
     ·have MO:=hid (show M'=L by rw[gL];rfl)
      clear gL;go_wp2;go_roundw
      case rel=>exact ⟨j+1,p2,d2,n2,by omega,by go_num,rfl,by rw[HE.out,MO.out];exact hid (Own.lower lC.out cA.out.size),by rw[HE.out,MO.out];exact jJ,hid (cA.out.trans (qD.out.mono cA.out.size))⟩
      case measure=>simp only[intOf];omega
  ·have bE:¬(j:Int)<(l.length:Int):=by omega
   obtain rfl:j=l.length:=by omega
   rw[<-HD.out] at ax hn;have hw:=ax.out;have Pt:=hn.out;subst Pt;obtain⟨q',d',hq,eM⟩:=hw.gi;simp only[Value.slice.injEq] at hq;obtain⟨rfl,-,rfl⟩:=hq;have HQ:=hid hw;clear eM hw ax hn hr;go_wp2;refine bodyPost_ret (v:=.slice p R.length d) (by simp[results,results170,go_sem]) rfl ⟨p,d,rfl,HQ.out,cA.out⟩
end Zk
namespace Zy
open Zp (iE aL At bS eu fN af aD aA ag dQ bQ bX)
theorem xY:eu prog bX 3 25:=⟨underlying25,.int .i64 0,8,by kernel_rfl,rfl,by decide⟩
theorem JN (n:Nat)(h0:0<n)(hn:n<=1000)(w:World) :
 Calls prog 196 #[.slice none 0 0,.int .i64 (n:Int)] w fun e w'=>∃v,e=.returned v/\Zp.Own bX 3 w.heap.size w' v []/\Below w.heap.size w w':=by
 obtain⟨i0,hi,hz0,hz1,hz2⟩:∃i0,(prog).info? 3=some i0/\i0.zero=some (.int .i64 0)/\i0.size=1/\i0.bytes=8:=by
  obtain⟨zv,Ma,Ps,-,-⟩:=xY.info;have h8:((prog).info? 3).map (fun i=>(i.zero,i.size,i.bytes))=some (some (.int .i64 0),1,8):=by kernel_rfl
  obtain⟨i0,hi,a,b,c⟩:=info_parts h8;exact⟨i0,hi,a,b,c⟩
 have sr:(Builtin.firstCells i0.size 0 (.slice none 0 0)).run prog w.drew=.ok (([]:List Value).toArray) w.drew:=run_firstCells_none w.drew i0.size 0 0 0;have hrz:∀ty,(Builtin.append_ #[25,3] ty #[.slice none 0 0,.int .i64 (n:Int)]).run prog w =
  .ok (.slice (some ⟨w.heap.size,0,none⟩) n (grownCap w n 0 3)) (w.drew.alloc (.cells (([]:List Value).toArray++Builtin.zeroCells (Value.int .i64 0).cells n++Builtin.zeroCells (Value.int .i64 0).cells (grownCap w n 0 3-n)) 3)):=fun ty=>by
  have h:=Lib.run_append_grow_zeros w 25 3 ty 3 i0 (.int .i64 0) .i64 .i64 underlying25 underlying3 hi hz0 none 0 0 [] sr n h0 (by omega) (by omega) (by omega) (by rw[hz2];omega)
   (growslice_fits (by omega) (by rw[hz2];omega))
  simpa using h
 have JO:=grownCap_ge w n 0 3;have hle:=grownCap_le_maxLen w n 0 3 (by unfold maxLen;omega)
 generalize grownCap w n 0 3=G at *;have HO:=hid (show Zp.Own bX 3 w.heap.size (w.drew.alloc (.cells (([]:List Value).toArray++Builtin.zeroCells (Value.int .i64 0).cells n++Builtin.zeroCells (Value.int .i64 0).cells (G-n)) 3)) (.slice (some ⟨w.heap.size,0,none⟩) 0 G) [] from
  ⟨by simp[Zp.cells],.inr ⟨w.heap.size,G,_,rfl,Nat.le_refl _,heap_alloc_new w.drew _,Nat.zero_le _,hle,by
   simp only[Array.size_append,size_zeroCells,List.size_toArray,List.length_nil,show(Value.int .i64 0).cells.size=1 from rfl,show bX.n=1 from rfl]
   omega,by simp[Zp.cells]⟩⟩)
 have HB:=hid (show Below w.heap.size w (w.drew.alloc (.cells (([]:List Value).toArray++Builtin.zeroCells (Value.int .i64 0).cells n++Builtin.zeroCells (Value.int .i64 0).cells (G-n)) 3)) from((Below.refl w.heap.size w).drew).alloc (Nat.le_refl _) _)
 generalize w.drew.alloc (.cells (([]:List Value).toArray++Builtin.zeroCells (Value.int .i64 0).cells n++Builtin.zeroCells (Value.int .i64 0).cells (G-n)) 3)=w1 at *;have hG:G<=9223372036854775807:=by unfold maxLen at hle;omega
 have h1:¬((n:Int)<0):=by omega
 have h4:(n:Int)>0:=by omega
 clear sr hi hz0 hz1 hz2 hle;go_enter func196,ntmps196
 go_wp2_with (at_builtin;refine Lib.wpList_append_run _ rfl _ _ _ _ rfl _ _ rfl rfl _ _ (hrz _) ?_)
 go_ret;exact⟨_,rfl,HO.out,HB.out⟩
theorem JP (w:World) :
 Calls prog 196 #[.slice none 0 0,.int .i64 0] w fun e w'=>∃v,e=.returned v/\Zp.Own bX 3 w.heap.size w' v []/\Below w.heap.size w w':=by
 go_enter func196,ntmps196
 go_wp2;go_ret;exact⟨_,rfl,Zp.Own.none _ _ _ _,Below.refl _ _⟩
theorem Nj (n:Nat)(hn:n<=1000)(w:World) :
 Calls prog 196 #[.slice none 0 0,.int .i64 (n:Int)] w fun e w'=>∃v,e=.returned v/\Zp.Own bX 3 w.heap.size w' v []/\Below w.heap.size w w':=by
 by_cases h:n=0
 ·subst h;exact JP w
 ·exact JN n (by omega) hn w
theorem E0 {la lb:List Int}{pa pb:Option Addr}{ca cb g:Nat}{w:World}(h0:w.cell? ⟨g,0,none⟩=some (.slice pa la.length ca))(h1:w.cell? ⟨g,1,none⟩=some (.slice pb lb.length cb))
 (ha:aL bX w pa la) (hb:aL bX w pb lb) (na:pa=none->ca=0) (nb:pb=none->cb=0) (la':la.length<=300) (lb':lb.length<=700) :
 Calls prog 158 #[.slice (some ⟨g,0,none⟩) 2 2] w fun e w'=>∃v,e=.returned v/\Zp.Own bX 3 w.heap.size w' v (la++lb)/\Below w.heap.size w w':=by
 have HG:=hid (fun u=>Nj (la.length+lb.length) (by omega) u)
 have HA:=hid ha;have HB:=hid hb;have NA:=hid na;have NB:=hid nb;have H0:=hid (fun u (hu:Below w.heap.size w u)=>af h0 hu)
 have H1:=hid (fun u (hu:Below w.heap.size w u)=>af h1 hu)
 have hs:¬((la.length:Int)<0):=by omega
 have hs2:¬((la.length:Int)+(lb.length:Int)<0):=by omega
 simp only[Int.natCast_add] at HG;clear ha hb na nb;go_enter func158,ntmps158
 go_wp2;refine wp_loop_rounds 3 ?_;rw[rounds_succ];go_wp2;rw[rounds_succ];go_wp2;rw[rounds_succ];go_wp2_with (go_at_call 196;(with_reducible refine(HG.out _).mono ?_);rintro e1 w1 ⟨v1,rfl,ho,hb⟩;have tG:=hid ho;have aO:=hid hb;clear ho hb HG)
 have x0:=H0.out _ aO.out;have x1:=H1.out _ aO.out;have HA1:=hid (HA.out.below aO.out);have aaT:=hid (HB.out.below aO.out);clear h0 h1;refine wp_loop_rounds 3 ?_;rw[rounds_succ];go_wp2_with (at_builtin;refine Zp.rV xY rfl _ _ rfl w w1 v1 rfl [] 0 rfl tG.out aO.out (Below.refl _ _) la la.length ca pa rfl rfl HA1.out NA.out (by omega) ?_;intro p2 c2 w2 R2 B2)
 have qC:=H1.out _ B2;have aaU:=hid (HB.out.below B2);have cA:=hid B2;rw[Nat.zero_add,List.nil_append] at R2;clear x0 x1 HA1 tG aaT;rw[rounds_succ];go_wp2_with (at_builtin;refine Zp.rV xY rfl _ _ rfl w w2 _ rfl la la.length rfl R2.out cA.out (Below.refl _ _) lb lb.length cb pb rfl rfl aaU.out NB.out (by omega) ?_;intro p3 c3 w3 R3 B3)
 rw[rounds_succ];go_wp2;go_ret;exact⟨_,rfl,R3.out,B3⟩
end Zy
end Go.Proofs.YtbgdlokegibkmaaGreat
