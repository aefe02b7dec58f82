/-
  A part of the proof of VisitPlays.
-/
import Derived.Test.YtbgdlokegibkmaaGreatMpAe
set_option maxRecDepth 100000
set_option maxHeartbeats 8000000
namespace Go.Proofs.YtbgdlokegibkmaaGreat
open Go.RowKit
open Tryz
open Lib (hid)
namespace Zv
open Zx (Rw Tb aq ak af)
open Zq (aI cO ae aj ai)
open Zr (dh add sub mul lu qH eP)
structure Cf where
 n:Int
 js:Int
 Qg:Int
 fW:Int
 zR:Int
 zS:Int
 aR:Int
 qM:Int
 aH:List (Int×Int)
def gD (f:Cf)(p:Option Addr)(c:Nat):Value:=.agg #[.int .i64 f.n,.int .i64 f.js,.int .i64 f.Qg,.int .i64 f.fW,.int .i64 f.zR,.int .i64 f.zS,.int .i64 f.aR,.int .i64 f.qM,.slice p f.aH.length c]
abbrev iU (w:World)(p:Option Addr)(l:List (Int×Int)):Prop:=ak w p l
def cB (l:List (Int×Int))(key:Int):Int:=if 0<=key/\key<524288/\key / 65536<(l.length:Int) then key / 65536 else -1
def ia (start:Int)(r:Rw)(now:Int)(f:Cf):Bool :=
 decide (0<=cB f.aH r.key)&&decide (r.mark<=sub now (add [f.js,f.js]))&&decide (r.out.length=0)&&decide (r.ay=(f.aH.getD (cB f.aH r.key).toNat (0,0)).2) &&
  decide ((f.aH.getD (cB f.aH r.key).toNat (0,0)).2<=mul (f.aH.getD (cB f.aH r.key).toNat (0,0)).1 (sub r.mark start))
theorem si (l:List (Int×Int))(key:Int)(h:0<=cB l key):∃k:Nat,cB l key=(k:Int)/\k<l.length:=by
 unfold cB at h ⊢;split at h
 ·rename_i h2
  rw[if_pos h2];exact⟨(key / 65536).toNat,by omega,by omega⟩
 ·omega
theorem zT (k:Int)(w:World) :
 Calls prog 43 #[.int .i64 k] w fun e w'=>e=.returned (.bool (decide (0<=k)&&decide (k<524288)))/\w=w':=by
 by_cases h:0<=k
 ·go_enter func43,ntmps43
  go_wp2;go_ret;exact⟨congrArg (fun b=>Ending.returned (.bool b)) (by rw[Bool.eq_iff_iff];simp;omega),rfl⟩
 ·go_enter func43,ntmps43
  go_wp2;go_ret;exact⟨congrArg (fun b=>Ending.returned (.bool b)) (by rw[Bool.eq_iff_iff];simp;omega),rfl⟩
theorem BK (f:Cf)(p:Option Addr)(c:Nat)(key:Int)(w:World) :
 Calls prog 45 #[gD f p c,.int .i64 key] w fun e w'=>e=.returned (.int .i64 (cB f.aH key))/\Below w.heap.size w w':=by
 obtain⟨n,sk,tl,va,lo,he,ke,qu,aH⟩:=f;simp only[gD];have hR:Hid (∀x,(0<=key/\key<524288/\key / 65536<(aH.length:Int))/\x=key / 65536∨¬(0<=key/\key<524288/\key / 65536<(aH.length:Int))/\x= -1->cB aH key=x):=by
  rintro x (⟨h,rfl⟩ | ⟨h,rfl⟩)
  ·exact if_pos h
  ·exact if_neg h
 generalize cB aH key=R at *;generalize aH.length=m at *;have b9:(key<0)∨(0<=key/\524288<=key)∨(0<=key/\key<524288/\(m:Int)<=key / 65536)∨(0<=key/\key<524288/\key / 65536<(m:Int)):=by omega
 rcases b9 with h1 | ⟨h1,h2⟩ | ⟨h1,h2,h3⟩ | ⟨h1,h2,h3⟩
 case' inl=>obtain rfl:=hR.out (-1) (.inr ⟨by omega,rfl⟩)
 case' inr.inl=>obtain rfl:=hR.out (-1) (.inr ⟨by omega,rfl⟩)
 case' inr.inr.inl=>obtain rfl:=hR.out (-1) (.inr ⟨by omega,rfl⟩)
 case' inr.inr.inr=>obtain rfl:=hR.out (key / 65536) (.inl ⟨⟨h1,h2,h3⟩,rfl⟩)
 all_goals
  clear hR;go_enter func45,ntmps45
  go_wp2_with (go_at_call 43;refine(zT _ _).mono ?_;rintro e w' ⟨rfl,rfl⟩)
  go_ret;exact⟨rfl,(Below.refl _ _).alloc (Nat.le_refl _) _⟩
theorem BL {w:World}{b:Nat}{v1 v2:Value}(h:w.heap[b]? =some (.cells #[v1,v2] 28 (0,0))):w.cell? ⟨b,0,none⟩=some v1:=by rw[cell_of_row w b 0 _ _ (0,0) h];rfl
theorem aG {w:World}{b:Nat}{v0 v1 v2 v3 v4 v5 v6 v7 v8:Value}{T:TypeId}(h:w.heap[b]? =some (.cells #[v0,v1,v2,v3,v4,v5,v6,v7,v8] T (0,0))) :
 w.cell? ⟨b,0,Option.none⟩=some v0/\w.cell? ⟨b,1,Option.none⟩=some v1/\w.cell? ⟨b,2,Option.none⟩=some v2/\w.cell? ⟨b,3,Option.none⟩=some v3/\w.cell? ⟨b,4,Option.none⟩=some v4/\w.cell? ⟨b,5,Option.none⟩=some v5/\w.cell? ⟨b,6,Option.none⟩=some v6/\w.cell? ⟨b,7,Option.none⟩=some v7/\w.cell? ⟨b,8,Option.none⟩=some v8 :=
 ⟨by rw[cell_of_row w b 0 _ _ (0,0) h];rfl,by rw[cell_of_row w b 1 _ _ (0,0) h];rfl,by rw[cell_of_row w b 2 _ _ (0,0) h];rfl,by rw[cell_of_row w b 3 _ _ (0,0) h];rfl,by rw[cell_of_row w b 4 _ _ (0,0) h];rfl,by rw[cell_of_row w b 5 _ _ (0,0) h];rfl,by rw[cell_of_row w b 6 _ _ (0,0) h];rfl,by rw[cell_of_row w b 7 _ _ (0,0) h];rfl,by rw[cell_of_row w b 8 _ _ (0,0) h];rfl⟩
theorem MY (t:Tb)(pt:Option Addr)(ct:Nat)(r:Rw)(pr:Option Addr)(cr:Nat)(now:Int)(f:Cf)(pf:Option Addr)(cf:Nat)(w:World)(hz:iU w pf f.aH) :
 Calls prog 172 #[bN t pt ct,dE r pr cr,.int .i64 now,gD f pf cf] w fun e w'=>e=.returned (.bool (ia t.start r now f))/\Below w.heap.size w w':=by
 obtain⟨start,rows⟩:=t;obtain⟨key,ay,mark,out⟩:=r;have dF:=fun u=>BK f pf cf key u
 have hR:=si f.aH key;have b9:(ia start ⟨key,ay,mark,out⟩ now f=false/\cB f.aH key<0)∨
  (0<=cB f.aH key/\((ia start ⟨key,ay,mark,out⟩ now f=false/\sub now (add [f.js,f.js])<mark)∨(ia start ⟨key,ay,mark,out⟩ now f=false/\mark<=sub now (add [f.js,f.js])/\0<out.length)∨
    (ia start ⟨key,ay,mark,out⟩ now f=false/\mark<=sub now (add [f.js,f.js])/\out.length=0/\¬(ay=(f.aH.getD (cB f.aH key).toNat (0,0)).2))∨
    (ia start ⟨key,ay,mark,out⟩ now f=decide ((f.aH.getD (cB f.aH key).toNat (0,0)).2<=mul (f.aH.getD (cB f.aH key).toNat (0,0)).1 (sub mark start))/\mark<=sub now (add [f.js,f.js])/\out.length=0/\ay=(f.aH.getD (cB f.aH key).toNat (0,0)).2))):=by
  by_cases h1:0<=cB f.aH key
  ·refine .inr ⟨h1,?_⟩
   by_cases h2:mark<=sub now (add [f.js,f.js])
   ·refine .inr ?_
    by_cases h3:out.length=0
    ·refine .inr ?_
     by_cases h4:ay=(f.aH.getD (cB f.aH key).toNat (0,0)).2
     ·exact .inr ⟨by rw[ia,decide_eq_true h1,decide_eq_true h2,decide_eq_true h3,decide_eq_true h4];rfl,h2,h3,h4⟩
     ·exact .inl ⟨by rw[ia,decide_eq_false h4];simp,h2,h3,h4⟩
    ·exact .inl ⟨by rw[ia,decide_eq_false h3];simp,h2,by omega⟩
   ·exact .inl ⟨by rw[ia,decide_eq_false h2];simp,by omega⟩
  ·exact .inl ⟨by rw[ia,decide_eq_false h1];simp,by omega⟩
 generalize ia start ⟨key,ay,mark,out⟩ now f=D at *;obtain⟨n,sk,tl,va,lo,he,ke,qu,aH⟩:=f;simp only[bN,dE,gD] at *;have rW:=eP sk sk;have jr:=lu now (add [sk,sk]);have kD:=lu mark start;have lU:=fun x=>qH x (sub mark start)
 generalize add [sk,sk]=sk2 at *;generalize sub now sk2=safe at *;generalize sub mark start=gone at *;generalize cB aH key=I at *;obtain⟨k0,k1,k2,hb⟩:=gq w (.cells #[.int .i64 start,.slice pt rows.length (ct+rows.length)] 28) (.cells #[.int .i64 key,.int .i64 ay,.int .i64 mark,.slice pr out.length (cr+out.length)] 80) (.cells #[.int .i64 n,.int .i64 sk,.int .i64 tl,.int .i64 va,.int .i64 lo,.int .i64 he,.int .i64 ke,.int .i64 qu,.slice pf aH.length cf] 24);generalize hno:out.length=no at *;generalize rows.length=nr at *;go_enter func172,ntmps172
 rcases b9 with ⟨rfl,h1⟩ | ⟨h1,⟨rfl,h2⟩ | ⟨rfl,h2,h3⟩ | ⟨rfl,h2,rfl,h4⟩ | ⟨hD,h2,rfl,h4⟩⟩
 ·clear hR kD lU
  go_wp2_with (first
   |(go_at_call 45;(with_reducible refine(dF _).mono ?_);rintro e u1 ⟨rfl,hb1⟩;obtain⟨-,r1,r2,r3,-⟩:=aV ((hb1.block _ (ae k1)).trans k1);obtain⟨-,c1,-,-,-,-,-,-,c8⟩:=aG ((hb1.block _ (ae k2)).trans k2);have a0:=(BL ((hb1.block _ (ae k0)).trans k0));have BE:=hid (hb.trans (hb1.mono hb.size));clear hb1 k0 k1 k2 hb dF)
   |(go_at_call 50;(with_reducible refine(rW _).mono ?_);rintro e w' ⟨rfl,rfl⟩)
   |(go_at_call 206;(with_reducible refine(jr _).mono ?_);rintro e w' ⟨rfl,rfl⟩))
  go_quiet (fail)
  go_wp2;go_ret;exact⟨rfl,BE.out.trans ((ag _ _).mono BE.out.size)⟩
 ·clear hR kD lU
  have g1:decide (I<0)=false:=by simp;omega
  have g2:decide (safe<mark)=true:=by simp;omega
  go_wp2_with (first
   |(go_at_call 45;(with_reducible refine(dF _).mono ?_);rintro e u1 ⟨rfl,hb1⟩;obtain⟨-,r1,r2,r3,-⟩:=aV ((hb1.block _ (ae k1)).trans k1);obtain⟨-,c1,-,-,-,-,-,-,c8⟩:=aG ((hb1.block _ (ae k2)).trans k2);have a0:=(BL ((hb1.block _ (ae k0)).trans k0));have BE:=hid (hb.trans (hb1.mono hb.size));clear hb1 k0 k1 k2 hb dF)
   |(go_at_call 50;(with_reducible refine(rW _).mono ?_);rintro e w' ⟨rfl,rfl⟩)
   |(go_at_call 206;(with_reducible refine(jr _).mono ?_);rintro e w' ⟨rfl,rfl⟩))
  go_quiet (fail)
  go_wp2;go_ret;exact⟨rfl,BE.out.trans ((ag _ _).mono BE.out.size)⟩
 ·clear hR kD lU
  have h3':(0:Int)<(no:Int):=by omega
  have g1:decide (I<0)=false:=by simp;omega
  have g2:decide (safe<mark)=false:=by simp;omega
  have g3:decide ((0:Int)<(no:Int))=true:=by simp;omega
  go_wp2_with (first
   |(go_at_call 45;(with_reducible refine(dF _).mono ?_);rintro e u1 ⟨rfl,hb1⟩;obtain⟨-,r1,r2,r3,-⟩:=aV ((hb1.block _ (ae k1)).trans k1);obtain⟨-,c1,-,-,-,-,-,-,c8⟩:=aG ((hb1.block _ (ae k2)).trans k2);have a0:=(BL ((hb1.block _ (ae k0)).trans k0));have BE:=hid (hb.trans (hb1.mono hb.size));clear hb1 k0 k1 k2 hb dF)
   |(go_at_call 50;(with_reducible refine(rW _).mono ?_);rintro e w' ⟨rfl,rfl⟩)
   |(go_at_call 206;(with_reducible refine(jr _).mono ?_);rintro e w' ⟨rfl,rfl⟩))
  go_quiet (fail)
  go_wp2;go_ret;exact⟨rfl,BE.out.trans ((ag _ _).mono BE.out.size)⟩
 ·clear kD lU
  obtain⟨k,rfl,hk⟩:=hR h1;simp only[Int.toNat_natCast] at h4;obtain⟨b,o,rfl,o9,qC⟩:=cC hz hk;have Pr:(k:Int)<(aH.length:Int):=by omega
  obtain⟨z1,z2,MZ⟩:∃z1 z2,aH.getD k (0,0)=(z1,z2):=⟨_,_,rfl⟩;simp only[MZ] at h4 o9 qC;clear MZ;generalize aH.length=m at *;clear hR hz;have g1:decide ((k:Int)<0)=false:=by simp
  have g2:decide (safe<mark)=false:=by simp;omega
  have g4:(ay != z2)=true:=by simp;exact h4
  go_wp2_with (first
   |(go_at_call 45;(with_reducible refine(dF _).mono ?_);rintro e u1 ⟨rfl,hb1⟩;obtain⟨-,r1,r2,r3,-⟩:=aV ((hb1.block _ (ae k1)).trans k1);obtain⟨-,c1,-,-,-,-,-,-,c8⟩:=aG ((hb1.block _ (ae k2)).trans k2);have a0:=(BL ((hb1.block _ (ae k0)).trans k0));have BE:=hid (hb.trans (hb1.mono hb.size));have x0:=af o9 BE.out;have x1:=af qC BE.out;clear o9 qC hb1 k0 k1 k2 hb dF)
   |(go_at_call 50;(with_reducible refine(rW _).mono ?_);rintro e w' ⟨rfl,rfl⟩)
   |(go_at_call 206;(with_reducible refine(jr _).mono ?_);rintro e w' ⟨rfl,rfl⟩))
  go_quiet (fail)
  go_wp2;go_ret;exact⟨rfl,BE.out.trans ((ag _ _).mono BE.out.size)⟩
 ·obtain ⟨k,rfl,hk⟩:=hR h1
  simp only[Int.toNat_natCast] at h4 hD;obtain⟨b,o,rfl,o9,qC⟩:=cC hz hk;have Pr:(k:Int)<(aH.length:Int):=by omega
  obtain⟨z1,z2,MZ⟩:∃z1 z2,aH.getD k (0,0)=(z1,z2):=⟨_,_,rfl⟩;simp only[MZ] at h4 hD o9 qC;clear MZ;generalize aH.length=m at *;clear hR hz;have Ie:=lU z1;generalize mul z1 gone=got at *;clear lU;subst h4;have g1:decide ((k:Int)<0)=false:=by simp
  have g2:decide (safe<mark)=false:=by simp;omega
  have g4:(ay != ay)=false:=by simp
  go_wp2_with (first
   |(go_at_call 45;(with_reducible refine(dF _).mono ?_);rintro e u1 ⟨rfl,hb1⟩;obtain⟨-,r1,r2,r3,-⟩:=aV ((hb1.block _ (ae k1)).trans k1);obtain⟨-,c1,-,-,-,-,-,-,c8⟩:=aG ((hb1.block _ (ae k2)).trans k2);have a0:=(BL ((hb1.block _ (ae k0)).trans k0));have BE:=hid (hb.trans (hb1.mono hb.size));have x0:=af o9 BE.out;have x1:=af qC BE.out;have BM:=hid x0;have Ig:=hid x1;have H8:=hid c8;have H2:=hid r2;have H0:=hid a0;clear o9 qC hb1 k0 k1 k2 hb dF)
   |(go_at_call 50;(with_reducible refine(rW _).mono ?_);rintro e w' ⟨rfl,rfl⟩)
   |(go_at_call 206;(with_reducible refine(jr _).mono ?_);rintro e w' ⟨rfl,rfl⟩))
  go_quiet (fail)
  go_wp2;have CE:=fun (u:World) (hu:Below u1.heap.size u1 u)=>(⟨af H8.out hu,af BM.out hu,af Ig.out hu,af H2.out hu,af H0.out hu⟩:u.cell? ⟨w.heap.size+1+1,8,none⟩=some (.slice (some ⟨b,o,none⟩) m cf)/\u.cell? ⟨b,o+k*2,none⟩=some (.int .i64 z1)/\u.cell? ⟨b,o+k*2+1,none⟩=some (.int .i64 ay)/\u.cell? ⟨w.heap.size+1,2,none⟩=some (.int .i64 mark)/\u.cell? ⟨w.heap.size,0,none⟩=some (.int .i64 start))
  go_region_held3 (fun u=>u.cell? ⟨w.heap.size+1+1,8,none⟩=some (.slice (some ⟨b,o,none⟩) m cf)/\u.cell? ⟨b,o+k*2,none⟩=some (.int .i64 z1)/\u.cell? ⟨b,o+k*2+1,none⟩=some (.int .i64 ay)/\u.cell? ⟨w.heap.size+1,2,none⟩=some (.int .i64 mark)/\u.cell? ⟨w.heap.size,0,none⟩=some (.int .i64 start)) (first | assumption | exact CE _ (ag _ _).drew) (first
   |(go_at_call 206;(with_reducible refine(kD _).mono ?_);rintro e w' ⟨rfl,rfl⟩)
   |(go_at_call 207;(with_reducible refine(Ie _).mono ?_);rintro e w' ⟨rfl,rfl⟩))
  all_goals
   go_wp2;go_ret;exact⟨congrArg (fun b=>Ending.returned (.bool b)) hD.symm,BE.out.trans (((ag _ _).drew).mono BE.out.size)⟩
open Zr (dh add sub mul)
def df (l:List (Int×Int)):List Value:=l.flatMap fun x=>[.int .i64 x.1,.int .i64 x.2]
theorem oF:∀(l:List (Int×Int))(j:Nat),j<l.length->(df l)[j*2]? =some (.int .i64 (l.getD j (0,0)).1)/\(df l)[j*2+1]? =some (.int .i64 (l.getD j (0,0)).2)
 | [],j,hj=>by simp at hj
 | x :: l,0,_=>by simp[df]
 | x :: l,j+1,hj=>by
   have:=oF l j (by simpa using hj)
   have e:df (x :: l)=[.int .i64 x.1,.int .i64 x.2]++df l:=by simp[df]
   rw[e];have s:∀n,([Value.int .i64 x.1,.int .i64 x.2]++df l)[2+n]? =(df l)[n]? :=fun n=>by
    rw[List.getElem?_append_right (by simp)];simp
   have g:(x :: l).getD (j+1) (0,0)=l.getD j (0,0):=rfl;rw[g];refine⟨?_,?_⟩
   ·rw [show (j+1)*2=2+j*2 by omega,s];exact this.1
   ·rw [show (j+1)*2+1=2+(j*2+1) by omega,s];exact this.2
def j7 (B:Nat)(w:World)(v:Value)(l:List (Int×Int)):Prop:=w.ownsRow B 141 2 v l.length (df l)
theorem j7.dS {B:Nat}{w:World}{v:Value}{l:List (Int×Int)}(h:j7 B w v l):∃p c,v=.slice p l.length (c+l.length)/\ak w p l:=by
 have xZ:=h;rcases h.2 with ⟨rfl,h0⟩ | ⟨g,cap,cur,rfl,h1,h2,h3⟩
 ·exact ⟨Option.none,0,by rw[h0],.inl (List.eq_nil_of_length_eq_zero h0)⟩
 ·refine ⟨_,cap-l.length,by rw[Nat.sub_add_cancel h3.1],.inr ⟨g,0,rfl,fun j hj=> ?_⟩⟩
  obtain⟨c0,c1⟩:=oF l j hj;have hc:=World.ownsRow.cells (g:=g) xZ rfl;have k0:=hc _ _ c0;have k1:=hc _ _ c1;rw[Zq.gM] at k0 k1;refine⟨k0,?_⟩;rw[<-Nat.add_assoc] at k1;exact k1
theorem j7.jx {B:Nat}{w:World}{v:Value}{l:List (Int×Int)}(h:j7 B w v l):∃p c,v=.slice p l.length c:=by
 rcases h.2 with ⟨rfl,h0⟩ | ⟨g,cap,cur,rfl,h1,h2,h3⟩
 ·exact ⟨Option.none,0,by rw[h0]⟩
 ·exact ⟨_,cap,rfl⟩
theorem j7.set {B:Nat}{w:World}{v:Value}{l:List (Int×Int)}{b o:Nat}{u:Value}(h:j7 B w v l)(hb:b<B):j7 B (w.setCell ⟨b,o,Option.none⟩ u) v l:=by
 refine⟨h.1,?_⟩;rcases h.2 with h0 | ⟨g,cap,cur,rfl,h1,h2,h3⟩
 ·exact .inl h0
 ·exact .inr ⟨g,cap,cur,rfl,h1,(Below.heap_setCell _ _ _ _ (by simp;omega)).trans h2,h3⟩
theorem j7.on {B:Nat}{w w':World}{v:Value}{l:List (Int×Int)}(h:j7 B w v l)(hb:Below w.heap.size w w'):j7 B w' v l:=aI h hb
theorem cW {u:World}{ops:Array Oper}{rest:List Oper}{o:Oper}{a:Act}{Q:Exit->Act->World->Prop}(hgd:o.guard=none)(s y:Operand)
 (ho:o.op=.call { callee:=.builtin .append,args:= #[s,y],argTypes:= #[78,78] })
 (w0 wr:World) (v:Value) (hs:a.eval s=v) (l:List (Int×Int)) (n:Nat) (hn:l.length=n) (ax:j7 w0.heap.size wr v l) (aW:Below w0.heap.size w0 wr) (hu:Below wr.heap.size wr u)
 (g:Nat) (x1 x2:Int) (hy:a.eval y=.slice (some ⟨g,0,Option.none⟩) 1 1)
 (hg:(u.alloc (.cells #[.int .i64 x1,.int .i64 x2] 141)).heap[g]? =some (.cells #[.int .i64 x1,.int .i64 x2] 141 (0,0))) (aT:n<=100000)
 (h:∀p c w',Hid (j7 w0.heap.size w' (.slice p (n+1) c) (l++[(x1,x2)]))->Below w0.heap.size w0 w'->wpList prog ops Q rest (a.put o.dst (.slice p (n+1) c)) w'):wpList prog ops Q (o :: rest) a (u.alloc (.cells #[.int .i64 x1,.int .i64 x2] 141)):=by
 subst hn;obtain⟨i0,hi,hz0,hz1,hz2⟩:=info_parts Hz;have xT:Below wr.heap.size wr (u.alloc (.cells #[.int .i64 x1,.int .i64 x2] 141)):=hu.alloc hu.size _;refine wpList_append_own _ hgd s y 78 ho w0.heap.size 141 i0 (.agg #[.int .i64 0,.int .i64 0]) 2 16 underlying78 hi hz0 hz1 hz2 rfl (by decide) v l.length (df l) hs (aI ax xT) ⟨g,0,Option.none⟩ 1 1 [.int .i64 x1,.int .i64 x2] hy rfl (World.news_of_block hg) ?_ (by unfold maxLen;omega) (by omega) (Nat.le_trans aW.size xT.size) ?_
 ·intro z hz
  simp at hz;rcases hz with rfl | rfl <;>rfl
 ·intro v' w' ko hg2 _
  have hb2:=(aW.trans (xT.mono aW.size)).grown hg2 (Nat.le_trans aW.size xT.size) (fun k hk=>(World.ownsRow.lt ax k hk).1)
  have R:j7 w0.heap.size w' v' (l++[(x1,x2)]):=by
   unfold j7;have e:df (l++[(x1,x2)])=df l++[.int .i64 x1,.int .i64 x2]:=by simp[df]
   rw[e,List.length_append];exact ko
  obtain⟨p,c,rfl⟩:∃p c,v'=.slice p (l.length+1) c:=by
   rcases ko.2 with ⟨_,h0⟩ | ⟨g,cap,cur,rfl,_⟩
   ·omega
   ·exact ⟨_,cap,rfl⟩
  exact h p c w' R hb2
def bF (t:Tb)(key node:Int):Int:=((ah t key).out.getD (cF (ah t key).out node).toNat (0,0)).2
def eZ (a spent:Int):Int:=if spent<0∨a<spent then a else spent
def has (t:Tb)(key node:Int):Bool:=et t key&&decide (0<=cF (ah t key).out node)
def gI (l:List (Int×Int))(i:Nat):List (Int×Int):=l.eraseIdx i
def aP (r:Rw)(i:Nat)(back:Int):Rw:=⟨r.key,add [r.ay,back],r.mark,gI r.out i⟩
def settle (t:Tb)(key node spent:Int):Tb×Int :=
 if has t key node=true then (setRow t (aP (ah t key) (cF (ah t key).out node).toNat (bF t key node-eZ (bF t key node) spent)),eZ (bF t key node) spent) else (t,0)
theorem ER (l:List (Int×Int))(i k:Nat)(hk:k<l.length):(l.take (k+1)).eraseIdx i=(l.take k).eraseIdx i++(if k=i then [] else [l.getD k (0,0)]):=by
 have e:l.getD k (0,0)=l[k]:=by simp[List.getD,hk]
 rw[e,List.take_succ_eq_append_getElem hk];have hl:(l.take k).length=k:=by simp;omega
 by_cases h:k=i
 ·subst h
  rw[List.eraseIdx_append_of_length_le (by omega),hl,if_pos rfl,Nat.sub_self,List.eraseIdx_of_length_le (l:=l.take k) (by omega)]
  simp
 ·rw [if_neg h]
  by_cases h2:i<k
  ·rw [List.eraseIdx_append_of_lt_length (by omega)]
  ·rw [List.eraseIdx_of_length_le (by simp;omega),List.eraseIdx_of_length_le (by omega)]
open Zr (dh add sub mul eP)
theorem qN {t:Tb}(ho:∀r∈t.rows,r.out.length<=1000)(key:Int):(ah t key).out.length<=1000:=by
 unfold ah;split
 ·simp
 ·rename_i hn
  rcases bA (fun r=>r.key==key) aq t.rows with ⟨h1,-⟩ | ⟨j,h1,h2,-⟩
  ·exact absurd (show au t.rows key<0 by unfold au;omega) hn
  ·have:(au t.rows key).toNat=j:=by unfold au;omega
   rw[this];exact ho _ (by simp[List.getD,h2])
theorem dg {w:World}{b:Nat}{v1 v2:Value}(h:w.heap[b]? =some (.cells #[v1,v2] 28 (0,0))):w.cell? ⟨b,0,none⟩=some v1/\w.cell? ⟨b,1,none⟩=some v2/\∀o,w.frozen? ⟨b,o,none⟩=false :=
 ⟨by rw[cell_of_row w b 0 _ _ (0,0) h];rfl,by rw[cell_of_row w b 1 _ _ (0,0) h];rfl,fun _=>aj h⟩
theorem uG (w:World)(o1 o2:Obj):(((w.alloc o1).alloc o2).heap[w.heap.size]? =some o1)/\(((w.alloc o1).alloc o2).heap[w.heap.size+1]? =some o2)/\Below w.heap.size w ((w.alloc o1).alloc o2):=by
 have z1:(w.alloc o1).heap.size=w.heap.size+1:=by simp
 have n2:=heap_alloc_new (w.alloc o1) o2;rw[z1] at n2;exact⟨(Below.heap_alloc _ _ _ (by simp)).trans (heap_alloc_new _ _),n2,((Below.refl _ _).alloc (Nat.le_refl _) _).alloc (by simp) _⟩
theorem nw (B:Nat)(w:World):j7 B w (.slice none 0 0) []:=World.ownsRow_nil _ _ _ _
structure Ef (w:World)(start:Int)(p:Option Addr)(n c:Nat)(b:Nat)(v1 v2 v3 v4:Value)(u:World):Prop where
 oZ:u.heap[w.heap.size]? =some (.cells #[.int .i64 start,.slice p n (c+n)] 28 (0,0))
 gG:u.heap[w.heap.size+1]? =some (.cells #[.int .i64 0,.slice none 0 0] 28 (0,0))
 row:u.heap[b]? =some (.cells #[v1,v2,v3,v4] 80 (0,0))
 below:Below w.heap.size w u
 ge:w.heap.size+1<b
section
variable {w u u':World}{start:Int}{p:Option Addr}{n c b:Nat}{v1 v2 v3 v4:Value}
theorem Ef.on (h:Ef w start p n c b v1 v2 v3 v4 u)(hb:Below u.heap.size u u'):Ef w start p n c b v1 v2 v3 v4 u' :=
 ⟨(hb.block _ (ae h.oZ)).trans h.oZ,(hb.block _ (ae h.gG)).trans h.gG,(hb.block _ (ae h.row)).trans h.row,h.below.trans (hb.mono h.below.size),h.ge⟩
theorem Ef.Qh (h:Ef w start p n c b v1 v2 v3 v4 u)(y:Value):Ef w start p n c b v1 v2 v3 y (u.setCell ⟨b,3,none⟩ y):=by
 have hg:=h.ge;exact⟨(Below.heap_setCell _ _ _ _ (by simp;omega)).trans h.oZ,(Below.heap_setCell _ _ _ _ (by simp;omega)).trans h.gG,by rw[ai b 3 _ _ h.row];rfl,h.below.setCell (by simp;omega) _,hg⟩
theorem Ef.Qi (h:Ef w start p n c b v1 v2 v3 v4 u)(y:Value):Ef w start p n c b v1 y v3 v4 (u.setCell ⟨b,1,none⟩ y):=by
 have hg:=h.ge;exact⟨(Below.heap_setCell _ _ _ _ (by simp;omega)).trans h.oZ,(Below.heap_setCell _ _ _ _ (by simp;omega)).trans h.gG,by rw[ai b 1 _ _ h.row];rfl,h.below.setCell (by simp;omega) _,hg⟩
theorem Ef.out (h:Ef w start p n c b v1 v2 v3 v4 u)(y1 y2:Value):Below w.heap.size w ((u.setCell ⟨w.heap.size+1,0,none⟩ y1).setCell ⟨w.heap.size+1,1,none⟩ y2) :=
 (h.below.setCell (by simp) _).setCell (by simp) _
end
theorem Jy (t:Tb)(p:Option Addr)(c:Nat)(key node spent:Int)(w:World)(h:ar w p t.rows)(hl:t.rows.length<=1000)(ho:∀r∈t.rows,r.out.length<=1000)(hn:has t key node=false) :
 Calls prog 114 #[bN t p c,.int .i64 key,.int .i64 node,.int .i64 spent] w (ew w t (fun v=>.tuple #[v,.int .i64 0])):=by
 have Px:=qN ho key;obtain⟨start,rows⟩:=t;obtain⟨k0,k1,hb⟩:=uG w (.cells #[.int .i64 start,.slice p rows.length (c+rows.length)] 28) (.cells #[.int .i64 0,.slice none 0 0] 28);have eH:=np ⟨start,rows⟩ p c key w ((w.alloc (.cells #[.int .i64 start,.slice p rows.length (c+rows.length)] 28)).alloc (.cells #[.int .i64 0,.slice none 0 0] 28)) h hb hl;have hout:=fun (u:World) (p':Option Addr) (c':Nat) (hu:ak u p' (ah ⟨start,rows⟩ key).out)=>qK (ah ⟨start,rows⟩ key) p' c' node u hu Px
 have b9:et ⟨start,rows⟩ key=false∨(et ⟨start,rows⟩ key=true/\cF (ah ⟨start,rows⟩ key).out node<0):=by
  unfold has at hn;cases hI:et ⟨start,rows⟩ key with
  | false=>exact .inl rfl
  | true =>
    rw[hI] at hn;simp at hn;exact .inr ⟨rfl,by omega⟩
 generalize cF (ah ⟨start,rows⟩ key).out node=O at *;generalize ah ⟨start,rows⟩ key=F at *;generalize et ⟨start,rows⟩ key=I at *;obtain⟨fk,fa,fm,fo⟩:=F;simp only[bN,dE] at *;generalize Ib:fo.length=nf at *;generalize ym:rows.length=nr at *;have xn:=hid Ib;have Md:=hid ym;have fS:Calls prog 67 #[.agg #[.int .i64 start,.slice p nr (c+nr)],.int .i64 key] ((w.alloc (.cells #[.int .i64 start,.slice p nr (c+nr)] 28)).alloc (.cells #[.int .i64 0,.slice none 0 0] 28)) fun e w'=>∃p1 c1,e=.returned (.tuple #[.agg #[.int .i64 fk,.int .i64 fa,.int .i64 fm,.slice p1 nf (c1+nf)],.bool I])/\ak w p1 fo /\
  Ef w start p nr c w'.heap.size (.int .i64 fk) (.int .i64 fa) (.int .i64 fm) (.slice p1 nf (c1+nf)) (w'.alloc (.cells #[.int .i64 fk,.int .i64 fa,.int .i64 fm,.slice p1 nf (c1+nf)] 80)):=by
  refine eH.mono ?_;rintro e w' ⟨p1,c1,rfl,h1,h2⟩;have ba:=(Below.refl w'.heap.size w').alloc (Nat.le_refl _) (.cells #[.int .i64 fk,.int .i64 fa,.int .i64 fm,.slice p1 nf (c1+nf)] 80);have h3:=h2.trans (ba.mono h2.size);have hz:=h2.size;simp at hz;exact⟨p1,c1,by rw[<-xn.out];rfl,h1,(h3.block _ (ae k0)).trans k0,(h3.block _ (ae k1)).trans k1,heap_alloc_new _ _,hb.trans (h3.mono hb.size),by omega⟩
 have HH:=hid h;clear eH Ib ym k0 k1 hb h hl hn ho Px;go_enter func114,ntmps114
 rcases b9 with rfl | ⟨rfl,hO⟩
 all_goals
  go_wp2_with (first
   |(go_at_call 67;(with_reducible refine fS.mono ?_);rintro e u1 ⟨p1,c1,rfl,iG,hx1⟩;have X1:=hid hx1;have L1:=hid (iG.below hx1.below);clear fS iG hx1)
   |(go_at_call 124;(with_reducible refine(hout _ _ _ L1.out).mono ?_);rintro e u2 ⟨rfl,hb2⟩;have hx2:=X1.out.on hb2;obtain⟨a0,a1,-⟩:=dg hx2.oZ;obtain⟨d0,d1,ff⟩:=dg hx2.gG;have f0:=ff 0;have f1:=ff 1;have X2:=hid hx2;clear hout hb2 L1 hx2 ff X1))
  refine bodyPost_ret (v:=.tuple #[.agg #[.int .i64 start,.slice p nr (c+nr)],.int .i64 0]) (by simp[results,results114,go_sem,d0,d1]) rfl ?_
  have BE:=X2.out.out (.int .i64 start) (.slice p nr (c+nr));exact⟨p,c,by rw[<-Md.out];rfl,HH.out.below BE,BE⟩
theorem ES {w:World}{b o:Nat}{x:Int}{q:Option Addr}{m k:Nat}{y:Value}{p:Option Addr}{l:List (Int×Int)}(hb:w.heap[b]? =some (.cells #[.int .i64 x,.slice q m k] 28 (0,0)))(h:ak w p l):ak (w.setCell ⟨b,o,none⟩ y) p l:=by
 rcases h with h | ⟨b',o',e,hc⟩
 ·exact .inl h
 ·by_cases hl:l=[]
  ·exact .inl hl
  ·have hne:b'≠b:=by
    rintro rfl;have h1:=(hc 0 (List.length_pos_iff.2 hl)).2;rw[cell_of_row w b' _ _ _ (0,0) hb] at h1
    match o',h1 with
    | 0,h1=>simp at h1
    | n+1,h1=>simp at h1
   refine .inr ⟨b',o',e,fun j hj=> ?_⟩
   have he:∀i,(w.setCell ⟨b,o,none⟩ y).cell? ⟨b',i,none⟩=w.cell? ⟨b',i,none⟩:=fun i=>World.cell?_of_block (w:=w) (Below.heap_setCell _ _ _ _ (by simpa using hne))
   rw[he,he];exact hc j hj
theorem gl {w:World}{b o:Nat}{x:Int}{q:Option Addr}{m k:Nat}{y:Value}{p:Option Addr}{l:List Rw}(hb:w.heap[b]? =some (.cells #[.int .i64 x,.slice q m k] 28 (0,0)))(h:ar w p l):ar (w.setCell ⟨b,o,none⟩ y) p l:=by
 rcases h with h | ⟨b',o',e,hc⟩
 ·exact .inl h
 ·by_cases hl:l=[]
  ·exact .inl hl
  ·have hne:b'≠b:=by
    rintro rfl;have h1:=(hc 0 (List.length_pos_iff.2 hl)).2.2.1;rw[cell_of_row w b' _ _ _ (0,0) hb] at h1
    match o',h1 with
    | n,h1=>simp at h1
   refine .inr ⟨b',o',e,fun j hj=> ?_⟩
   have he:∀i,(w.setCell ⟨b,o,none⟩ y).cell? ⟨b',i,none⟩=w.cell? ⟨b',i,none⟩:=fun i=>World.cell?_of_block (w:=w) (Below.heap_setCell _ _ _ _ (by simpa using hne))
   obtain⟨h0,h1,h2,pl,cl,h3,h4⟩:=hc j hj;exact⟨by rw[he];exact h0,by rw[he];exact h1,by rw[he];exact h2,pl,cl,by rw[he];exact h3,ES hb h4⟩
theorem lD {w u:World}{T:Tb}{start:Int}{p':Option Addr}{c' n:Nat}{x:Int}(hres:u.heap[w.heap.size+1]? =some (.cells #[.int .i64 x,.slice none 0 0] 28 (0,0)))(hr:ar u p' T.rows)(hb:Below w.heap.size w u)(hs:T.start=start)(hn:T.rows.length=n)(mk:Value->Value) :
 ew w T mk (.returned (mk (.agg #[.int .i64 start,.slice p' n (c'+n)]))) ((u.setCell ⟨w.heap.size+1,0,none⟩ (.int .i64 start)).setCell ⟨w.heap.size+1,1,none⟩ (.slice p' n (c'+n))):=by
 subst hs hn;have h2:(u.setCell ⟨w.heap.size+1,0,none⟩ (.int .i64 T.start)).heap[w.heap.size+1]? =some (.cells #[.int .i64 T.start,.slice none 0 0] 28 (0,0)):=by rw[ai _ 0 _ _ hres];rfl
 exact⟨p',c',rfl,gl h2 (gl hres hr),(hb.setCell (by simp) _).setCell (by simp) _⟩
theorem ET (t:Tb)(p:Option Addr)(c:Nat)(key node spent:Int)(w:World)(h:ar w p t.rows)(hl:t.rows.length<=1000)(ho:∀r∈t.rows,r.out.length<=1000)(hn:has t key node=true)(hA:bF t key node<=9223372036854775807) :
 Calls prog 114 #[bN t p c,.int .i64 key,.int .i64 node,.int .i64 spent] w (ew w (settle t key node spent).1 (fun v=>.tuple #[v,.int .i64 (settle t key node spent).2])):=by
 have Px:=qN ho key;have Jz:settle t key node spent=(setRow t (aP (ah t key) (cF (ah t key).out node).toNat (bF t key node-eZ (bF t key node) spent)),eZ (bF t key node) spent):=by
  unfold settle;rw[if_pos hn]
 rw[Jz];have b9:et t key=true/\∃i:Nat,cF (ah t key).out node=(i:Int)/\i<(ah t key).out.length:=by
  unfold has at hn;simp only[Bool.and_eq_true,decide_eq_true_eq] at hn;refine⟨hn.1,?_⟩;rcases bA (fun x=>x.1==node) (0,0) (ah t key).out with ⟨h1,-⟩ | ⟨j,h1,h2,-⟩
  ·have:=hn.2
   unfold cF at this;omega
  ·exact ⟨j,h1,h2⟩
 obtain⟨hI,i,hO,hi⟩:=b9;rw[hO,Int.toNat_natCast];have hAm:bF t key node=((ah t key).out.getD i (0,0)).2:=by unfold bF;rw[hO,Int.toNat_natCast]
 generalize bF t key node=A at *;have Yz:Hid (eZ A spent=if spent<0∨A<spent then A else spent):=rfl
 generalize eZ A spent=sp at *;obtain⟨start,rows⟩:=t;obtain⟨k0,k1,hb⟩:=uG w (.cells #[.int .i64 start,.slice p rows.length (c+rows.length)] 28) (.cells #[.int .i64 0,.slice none 0 0] 28);have eH:=np ⟨start,rows⟩ p c key w ((w.alloc (.cells #[.int .i64 start,.slice p rows.length (c+rows.length)] 28)).alloc (.cells #[.int .i64 0,.slice none 0 0] 28)) h hb hl;have hout:=fun (u:World) (p':Option Addr) (c':Nat) (hu:ak u p' (ah ⟨start,rows⟩ key).out)=>qK (ah ⟨start,rows⟩ key) p' c' node u hu Px
 rw[hO] at hout;rw[hI] at eH;generalize ah ⟨start,rows⟩ key=F at *;have mQ:=fun (u:World) (pr:Option Addr) (cr:Nat) (h1:ar u p rows) (h2:ak u pr (aP F i (A-sp)).out)=>uF ⟨start,rows⟩ p c (aP F i (A-sp)) pr cr u u h1 h2 (Below.refl _ _) hl
 have Py:Hid ((setRow ⟨start,rows⟩ (aP F i (A-sp))).start=start):=rfl;have VQ:Hid ((aP F i (A-sp))=⟨F.key,add [F.ay,A-sp],F.mark,gI F.out i⟩):=rfl;generalize setRow ⟨start,rows⟩ (aP F i (A-sp))=T at *;rw[VQ.out] at mQ;obtain⟨fk,fa,fm,fo⟩:=F;have BN:Hid (∀j,j<fo.length->gI (fo.take (j+1)) i=gI (fo.take j) i++(if j=i then [] else [fo.getD j (0,0)])):=fun j hj=>ER fo i j hj
 have hbl:Hid (∀j,(gI (fo.take j) i).length<=1000):=fun j=>by
  have h1:(gI (fo.take j) i).length<=(fo.take j).length:=List.length_eraseIdx_le _ _;have h2:(fo.take j).length<=fo.length:=by simp;omega
  simp only at Px;omega
 have rW:=eP fa (A-sp);generalize hDD:A-sp=D at *;have HD:=hid hDD;clear hDD;generalize add [fa,D]=AV at *;have Qj:Hid ((decide (spent<0)=true/\sp=A)∨(decide (spent<0)=false/\decide (A<spent)=true/\sp=A)∨(decide (spent<0)=false/\decide (A<spent)=false/\sp=spent)):=by
  have h:=Yz.out;by_cases h1:spent<0
  ·exact .inl ⟨by simp[h1],by rw[h,if_pos (.inl h1)]⟩
  ·by_cases h2:A<spent
   ·exact .inr (.inl ⟨by simp[h1],by simp[h2],by rw[h,if_pos (.inr h2)]⟩)
   ·exact .inr (.inr ⟨by simp[h1],by simp[h2],by rw[h,if_neg (by omega)]⟩)
 simp only[bN,dE] at *;generalize Ib:fo.length=nf at *;generalize ym:rows.length=nr at *;have xn:=hid Ib;have Md:=hid ym;have fS:Calls prog 67 #[.agg #[.int .i64 start,.slice p nr (c+nr)],.int .i64 key] ((w.alloc (.cells #[.int .i64 start,.slice p nr (c+nr)] 28)).alloc (.cells #[.int .i64 0,.slice none 0 0] 28)) fun e w'=>∃p1 c1,e=.returned (.tuple #[.agg #[.int .i64 fk,.int .i64 fa,.int .i64 fm,.slice p1 nf (c1+nf)],.bool true])/\ak w p1 fo /\
  Ef w start p nr c w'.heap.size (.int .i64 fk) (.int .i64 fa) (.int .i64 fm) (.slice p1 nf (c1+nf)) (w'.alloc (.cells #[.int .i64 fk,.int .i64 fa,.int .i64 fm,.slice p1 nf (c1+nf)] 80)):=by
  refine eH.mono ?_;rintro e w' ⟨p1,c1,rfl,h1,h2⟩;have ba:=(Below.refl w'.heap.size w').alloc (Nat.le_refl _) (.cells #[.int .i64 fk,.int .i64 fa,.int .i64 fm,.slice p1 nf (c1+nf)] 80);have h3:=h2.trans (ba.mono h2.size);have hz:=h2.size;simp at hz;exact⟨p1,c1,by rw[<-xn.out];rfl,h1,(h3.block _ (ae k0)).trans k0,(h3.block _ (ae k1)).trans k1,heap_alloc_new _ _,hb.trans (h3.mono hb.size),by omega⟩
 have HH:=hid h;have Tj:=hid hAm;clear eH Ib ym k0 k1 hb h hl hn ho hAm Jz hO hI VQ;go_enter func114,ntmps114
 rcases Qj.out with ⟨z1,VR⟩ | ⟨z1,z2,VR⟩ | ⟨z1,z2,VR⟩
 all_goals simp only[decide_eq_true_eq,decide_eq_false_iff_not] at *
 ·have VS:D=0:=by have:=HD.out;omega
  subst VS VR;clear HD Yz Qj;go_wp2_with (first
   |(go_at_call 67;(with_reducible refine fS.mono ?_);rintro e u1 ⟨p1,c1,rfl,iG,hx1⟩;have X1:=hid hx1;have L0:=hid iG;have L1:=hid (iG.below hx1.below);clear fS iG hx1)
   |(go_at_call 124;(with_reducible refine(hout _ _ _ L1.out).mono ?_);rintro e u2 ⟨rfl,hb2⟩;have hx2:=X1.out.on hb2;obtain⟨a0,a1,-⟩:=dg hx2.oZ;obtain⟨d0,d1,-⟩:=dg hx2.gG;obtain⟨r0,r1,r2,r3,-⟩:=aV hx2.row;have X2:=hid hx2;have hL2:=L0.out.below hx2.below;obtain⟨bl,ol,rfl,l0,l1⟩:=cC hL2 (by rw[xn.out];exact hi);rw[<-Tj.out] at l1;clear hout hb2 L1 hx2 X1 hL2))
  clear a0 a1 d0 d1 r0 r1 r2 r3 l0 l1;go_loopw [14,15] (fun v k wr=>∃j:Nat,j<=nf/\k=.int .i64 (j:Int)/\Hid (j7 u2.heap.size wr v (gI (fo.take j) i))/\Below u2.heap.size u2 wr) (fun _ k _=>nf-(intOf k).toNat)
  case atStart=>exact ⟨0,by omega,rfl,nw _ _,Below.refl _ _⟩
  case round =>
   obtain⟨j,hj,rfl,ax,aW⟩:=hrel;have hX:=X2.out.on aW;obtain⟨r0,r1,r2,r3,rf⟩:=aV hX.row;have EO:=hX.below;by_cases aC:j<nf
   ·obtain ⟨b',o',he,x0,x1⟩:=cC (L0.out.below EO) (show j<fo.length by rw[xn.out];exact aC)
    cases he;have hB:=BN.out j aC;have bE:(j:Int)<(nf:Int):=by omega
    generalize fo.getD j (0,0)=y at *;obtain⟨y1,y2⟩:=y;simp only at x0 x1;have VT:=hid (hbl.out j);have cA:=hid aW;by_cases M7:j=i
    ·subst M7
     rw[if_pos rfl,List.append_nil] at hB;have SE:=hid hB;clear hB rf;go_wp2;go_roundw
     case rel=>exact ⟨j+1,by omega,by go_num,by rw[SE.out];exact ax,cA.out⟩
     case measure=>simp [intOf];omega
    ·rw [if_neg M7] at hB
     have hne:¬((j:Int)=(i:Int)):=by omega
     have SE:=hid hB;clear hB rf M7;obtain⟨pv,cv,rfl⟩:=ax.out.jx;generalize ny:(gI (fo.take j) i).length=nl at *;have yn:=hid ny;have kX:=hid ax.out;clear ny ax;go_wp2_with (at_builtin;refine cW rfl (.tmp 56) (.tmp 62) rfl u2 wr (.slice pv nl cv) rfl (gI (fo.take j) i) nl yn.out kX.out cA.out (Below.refl _ _) wr.heap.size y1 y2 rfl (heap_alloc_new _ _) (by have:=VT.out;omega) ?_;intro p4 c4 w4 R4 B4;clear r0 r1 r2 r3 x0 x1)
     go_roundw
     case rel=>exact ⟨j+1,by omega,by go_num,by rw[SE.out];exact R4,B4⟩
     case measure=>simp [intOf];omega
   ·obtain rfl:j=nf:=by omega
    have Tl:fo.take j=fo:=by rw[<-xn.out];exact List.take_length
    rw[Tl] at ax;obtain⟨a0,a1,-⟩:=dg hX.oZ;obtain⟨d0,d1,-⟩:=dg hX.gG;have VU:=rf 1;have VV:=rf 3;have kX:=hid ax.out;obtain⟨pv,cv,rfl⟩:=ax.out.jx;generalize ny:(gI fo i).length=nl at *;clear ax hbl BN;have Qk:¬(u1.heap.size=w.heap.size):=by have:=hX.ge;omega
    have Tm:¬(w.heap.size=u1.heap.size):=by have:=hX.ge;omega
    have gH:u1.heap.size<u2.heap.size:=by have:=ae X2.out.row;omega
    have M8:=(hX.Qh (.slice pv nl cv)).Qi (.int .i64 AV);obtain⟨p6,c6,Na,xC⟩:=((kX.out.set (b:=u1.heap.size) (o:=3) (u:=.slice pv nl cv) gH).set (b:=u1.heap.size) (o:=1) (u:=.int .i64 AV) gH).dS;simp only[Value.slice.injEq] at Na;obtain⟨rfl,-,hcv⟩:=Na;rw[ny] at hcv;have BO:=mQ _ pv c6 (HH.out.below M8.below) xC;rw[<-hcv] at BO;generalize RN:(wr.setCell ⟨u1.heap.size,3,none⟩ (.slice pv nl cv)).setCell ⟨u1.heap.size,1,none⟩ (.int .i64 AV)=u6 at *;have BP:Calls prog 121 #[.agg #[.int .i64 start,.slice p nr (c+nr)],.agg #[.int .i64 fk,.int .i64 AV,.int .i64 fm,.slice pv nl cv]] u6 fun e w'=>∃p' c' nT,e=.returned (.agg #[.int .i64 start,.slice p' nT (c'+nT)])/\T.rows.length=nT/\ar w' p' T.rows/\Below u6.heap.size u6 w':=by
     refine BO.mono ?_;rintro e w' ⟨p',c',rfl,g1,g2⟩;exact⟨p',c',_,by rw[<-Py.out];rfl,rfl,g1,g2⟩
    have E6:=hid M8;have U6:=hid RN;clear BO mQ xC M8 kX hX EO rf ny RN hcv;go_wp2_with (first
     |(go_at_call 50;(with_reducible refine(rW _).mono ?_);rintro e w' ⟨rfl,rfl⟩)
     |(go_at_call 121;rw[U6.out];(with_reducible refine BP.mono ?_);rintro e u7 ⟨p7,c7,nT,rfl,Ih,g1,g2⟩;have E7:=hid (E6.out.on g2);clear a0 a1 d0 d1 r0 r1 r2 r3 VU VV;obtain⟨d0,d1,ff⟩:=dg E7.out.gG;have f0:=ff 0;have f1:=ff 1;have JA:=hid (lD (c':=c7) E7.out.gG g1 E7.out.below Py.out Ih (fun v=>.tuple #[v,.int .i64 sp]));clear ff BP Ih g1 g2))
    refine bodyPost_ret (v:=.tuple #[.agg #[.int .i64 start,.slice p7 nT (c7+nT)],.int .i64 sp]) (by simp[results,results114,go_sem,d0,d1]) rfl JA.out
 ·have VS:D=0:=by have:=HD.out;omega
  subst VS VR;clear HD Yz Qj;go_wp2_with (first
   |(go_at_call 67;(with_reducible refine fS.mono ?_);rintro e u1 ⟨p1,c1,rfl,iG,hx1⟩;have X1:=hid hx1;have L0:=hid iG;have L1:=hid (iG.below hx1.below);clear fS iG hx1)
   |(go_at_call 124;(with_reducible refine(hout _ _ _ L1.out).mono ?_);rintro e u2 ⟨rfl,hb2⟩;have hx2:=X1.out.on hb2;obtain⟨a0,a1,-⟩:=dg hx2.oZ;obtain⟨d0,d1,-⟩:=dg hx2.gG;obtain⟨r0,r1,r2,r3,-⟩:=aV hx2.row;have X2:=hid hx2;have hL2:=L0.out.below hx2.below;obtain⟨bl,ol,rfl,l0,l1⟩:=cC hL2 (by rw[xn.out];exact hi);rw[<-Tj.out] at l1;clear hout hb2 L1 hx2 X1 hL2))
  clear a0 a1 d0 d1 r0 r1 r2 r3 l0 l1;go_loopw [14,15] (fun v k wr=>∃j:Nat,j<=nf/\k=.int .i64 (j:Int)/\Hid (j7 u2.heap.size wr v (gI (fo.take j) i))/\Below u2.heap.size u2 wr) (fun _ k _=>nf-(intOf k).toNat)
  case atStart=>exact ⟨0,by omega,rfl,nw _ _,Below.refl _ _⟩
  case round =>
   obtain⟨j,hj,rfl,ax,aW⟩:=hrel;have hX:=X2.out.on aW;obtain⟨r0,r1,r2,r3,rf⟩:=aV hX.row;have EO:=hX.below;by_cases aC:j<nf
   ·obtain ⟨b',o',he,x0,x1⟩:=cC (L0.out.below EO) (show j<fo.length by rw[xn.out];exact aC)
    cases he;have hB:=BN.out j aC;have bE:(j:Int)<(nf:Int):=by omega
    generalize fo.getD j (0,0)=y at *;obtain⟨y1,y2⟩:=y;simp only at x0 x1;have VT:=hid (hbl.out j);have cA:=hid aW;by_cases M7:j=i
    ·subst M7
     rw[if_pos rfl,List.append_nil] at hB;have SE:=hid hB;clear hB rf;go_wp2;go_roundw
     case rel=>exact ⟨j+1,by omega,by go_num,by rw[SE.out];exact ax,cA.out⟩
     case measure=>simp [intOf];omega
    ·rw [if_neg M7] at hB
     have hne:¬((j:Int)=(i:Int)):=by omega
     have SE:=hid hB;clear hB rf M7;obtain⟨pv,cv,rfl⟩:=ax.out.jx;generalize ny:(gI (fo.take j) i).length=nl at *;have yn:=hid ny;have kX:=hid ax.out;clear ny ax;go_wp2_with (at_builtin;refine cW rfl (.tmp 56) (.tmp 62) rfl u2 wr (.slice pv nl cv) rfl (gI (fo.take j) i) nl yn.out kX.out cA.out (Below.refl _ _) wr.heap.size y1 y2 rfl (heap_alloc_new _ _) (by have:=VT.out;omega) ?_;intro p4 c4 w4 R4 B4;clear r0 r1 r2 r3 x0 x1)
     go_roundw
     case rel=>exact ⟨j+1,by omega,by go_num,by rw[SE.out];exact R4,B4⟩
     case measure=>simp [intOf];omega
   ·obtain rfl:j=nf:=by omega
    have Tl:fo.take j=fo:=by rw[<-xn.out];exact List.take_length
    rw[Tl] at ax;obtain⟨a0,a1,-⟩:=dg hX.oZ;obtain⟨d0,d1,-⟩:=dg hX.gG;have VU:=rf 1;have VV:=rf 3;have kX:=hid ax.out;obtain⟨pv,cv,rfl⟩:=ax.out.jx;generalize ny:(gI fo i).length=nl at *;clear ax hbl BN;have Qk:¬(u1.heap.size=w.heap.size):=by have:=hX.ge;omega
    have Tm:¬(w.heap.size=u1.heap.size):=by have:=hX.ge;omega
    have gH:u1.heap.size<u2.heap.size:=by have:=ae X2.out.row;omega
    have M8:=(hX.Qh (.slice pv nl cv)).Qi (.int .i64 AV);obtain⟨p6,c6,Na,xC⟩:=((kX.out.set (b:=u1.heap.size) (o:=3) (u:=.slice pv nl cv) gH).set (b:=u1.heap.size) (o:=1) (u:=.int .i64 AV) gH).dS;simp only[Value.slice.injEq] at Na;obtain⟨rfl,-,hcv⟩:=Na;rw[ny] at hcv;have BO:=mQ _ pv c6 (HH.out.below M8.below) xC;rw[<-hcv] at BO;generalize RN:(wr.setCell ⟨u1.heap.size,3,none⟩ (.slice pv nl cv)).setCell ⟨u1.heap.size,1,none⟩ (.int .i64 AV)=u6 at *;have BP:Calls prog 121 #[.agg #[.int .i64 start,.slice p nr (c+nr)],.agg #[.int .i64 fk,.int .i64 AV,.int .i64 fm,.slice pv nl cv]] u6 fun e w'=>∃p' c' nT,e=.returned (.agg #[.int .i64 start,.slice p' nT (c'+nT)])/\T.rows.length=nT/\ar w' p' T.rows/\Below u6.heap.size u6 w':=by
     refine BO.mono ?_;rintro e w' ⟨p',c',rfl,g1,g2⟩;exact⟨p',c',_,by rw[<-Py.out];rfl,rfl,g1,g2⟩
    have E6:=hid M8;have U6:=hid RN;clear BO mQ xC M8 kX hX EO rf ny RN hcv;go_wp2_with (first
     |(go_at_call 50;(with_reducible refine(rW _).mono ?_);rintro e w' ⟨rfl,rfl⟩)
     |(go_at_call 121;rw[U6.out];(with_reducible refine BP.mono ?_);rintro e u7 ⟨p7,c7,nT,rfl,Ih,g1,g2⟩;have E7:=hid (E6.out.on g2);clear a0 a1 d0 d1 r0 r1 r2 r3 VU VV;obtain⟨d0,d1,ff⟩:=dg E7.out.gG;have f0:=ff 0;have f1:=ff 1;have JA:=hid (lD (c':=c7) E7.out.gG g1 E7.out.below Py.out Ih (fun v=>.tuple #[v,.int .i64 sp]));clear ff BP Ih g1 g2))
    refine bodyPost_ret (v:=.tuple #[.agg #[.int .i64 start,.slice p7 nT (c7+nT)],.int .i64 sp]) (by simp[results,results114,go_sem,d0,d1]) rfl JA.out
 ·have VS:=HD.out.symm
  subst VS VR;clear HD Yz Qj;go_wp2_with (first
   |(go_at_call 67;(with_reducible refine fS.mono ?_);rintro e u1 ⟨p1,c1,rfl,iG,hx1⟩;have X1:=hid hx1;have L0:=hid iG;have L1:=hid (iG.below hx1.below);clear fS iG hx1)
   |(go_at_call 124;(with_reducible refine(hout _ _ _ L1.out).mono ?_);rintro e u2 ⟨rfl,hb2⟩;have hx2:=X1.out.on hb2;obtain⟨a0,a1,-⟩:=dg hx2.oZ;obtain⟨d0,d1,-⟩:=dg hx2.gG;obtain⟨r0,r1,r2,r3,-⟩:=aV hx2.row;have X2:=hid hx2;have hL2:=L0.out.below hx2.below;obtain⟨bl,ol,rfl,l0,l1⟩:=cC hL2 (by rw[xn.out];exact hi);rw[<-Tj.out] at l1;clear hout hb2 L1 hx2 X1 hL2))
  clear a0 a1 d0 d1 r0 r1 r2 r3 l0 l1;go_loopw [14,15] (fun v k wr=>∃j:Nat,j<=nf/\k=.int .i64 (j:Int)/\Hid (j7 u2.heap.size wr v (gI (fo.take j) i))/\Below u2.heap.size u2 wr) (fun _ k _=>nf-(intOf k).toNat)
  case atStart=>exact ⟨0,by omega,rfl,nw _ _,Below.refl _ _⟩
  case round =>
   obtain⟨j,hj,rfl,ax,aW⟩:=hrel;have hX:=X2.out.on aW;obtain⟨r0,r1,r2,r3,rf⟩:=aV hX.row;have EO:=hX.below;by_cases aC:j<nf
   ·obtain ⟨b',o',he,x0,x1⟩:=cC (L0.out.below EO) (show j<fo.length by rw[xn.out];exact aC)
    cases he;have hB:=BN.out j aC;have bE:(j:Int)<(nf:Int):=by omega
    generalize fo.getD j (0,0)=y at *;obtain⟨y1,y2⟩:=y;simp only at x0 x1;have VT:=hid (hbl.out j);have cA:=hid aW;by_cases M7:j=i
    ·subst M7
     rw[if_pos rfl,List.append_nil] at hB;have SE:=hid hB;clear hB rf;go_wp2;go_roundw
     case rel=>exact ⟨j+1,by omega,by go_num,by rw[SE.out];exact ax,cA.out⟩
     case measure=>simp [intOf];omega
    ·rw [if_neg M7] at hB
     have hne:¬((j:Int)=(i:Int)):=by omega
     have SE:=hid hB;clear hB rf M7;obtain⟨pv,cv,rfl⟩:=ax.out.jx;generalize ny:(gI (fo.take j) i).length=nl at *;have yn:=hid ny;have kX:=hid ax.out;clear ny ax;go_wp2_with (at_builtin;refine cW rfl (.tmp 56) (.tmp 62) rfl u2 wr (.slice pv nl cv) rfl (gI (fo.take j) i) nl yn.out kX.out cA.out (Below.refl _ _) wr.heap.size y1 y2 rfl (heap_alloc_new _ _) (by have:=VT.out;omega) ?_;intro p4 c4 w4 R4 B4;clear r0 r1 r2 r3 x0 x1)
     go_roundw
     case rel=>exact ⟨j+1,by omega,by go_num,by rw[SE.out];exact R4,B4⟩
     case measure=>simp [intOf];omega
   ·obtain rfl:j=nf:=by omega
    have Tl:fo.take j=fo:=by rw[<-xn.out];exact List.take_length
    rw[Tl] at ax;obtain⟨a0,a1,-⟩:=dg hX.oZ;obtain⟨d0,d1,-⟩:=dg hX.gG;have VU:=rf 1;have VV:=rf 3;have kX:=hid ax.out;obtain⟨pv,cv,rfl⟩:=ax.out.jx;generalize ny:(gI fo i).length=nl at *;clear ax hbl BN;have Qk:¬(u1.heap.size=w.heap.size):=by have:=hX.ge;omega
    have Tm:¬(w.heap.size=u1.heap.size):=by have:=hX.ge;omega
    have gH:u1.heap.size<u2.heap.size:=by have:=ae X2.out.row;omega
    have M8:=(hX.Qh (.slice pv nl cv)).Qi (.int .i64 AV);obtain⟨p6,c6,Na,xC⟩:=((kX.out.set (b:=u1.heap.size) (o:=3) (u:=.slice pv nl cv) gH).set (b:=u1.heap.size) (o:=1) (u:=.int .i64 AV) gH).dS;simp only[Value.slice.injEq] at Na;obtain⟨rfl,-,hcv⟩:=Na;rw[ny] at hcv;have BO:=mQ _ pv c6 (HH.out.below M8.below) xC;rw[<-hcv] at BO;generalize RN:(wr.setCell ⟨u1.heap.size,3,none⟩ (.slice pv nl cv)).setCell ⟨u1.heap.size,1,none⟩ (.int .i64 AV)=u6 at *;have BP:Calls prog 121 #[.agg #[.int .i64 start,.slice p nr (c+nr)],.agg #[.int .i64 fk,.int .i64 AV,.int .i64 fm,.slice pv nl cv]] u6 fun e w'=>∃p' c' nT,e=.returned (.agg #[.int .i64 start,.slice p' nT (c'+nT)])/\T.rows.length=nT/\ar w' p' T.rows/\Below u6.heap.size u6 w':=by
     refine BO.mono ?_;rintro e w' ⟨p',c',rfl,g1,g2⟩;exact⟨p',c',_,by rw[<-Py.out];rfl,rfl,g1,g2⟩
    have E6:=hid M8;have U6:=hid RN;clear BO mQ xC M8 kX hX EO rf ny RN hcv;go_wp2_with (first
     |(go_at_call 50;(with_reducible refine(rW _).mono ?_);rintro e w' ⟨rfl,rfl⟩)
     |(go_at_call 121;rw[U6.out];(with_reducible refine BP.mono ?_);rintro e u7 ⟨p7,c7,nT,rfl,Ih,g1,g2⟩;have E7:=hid (E6.out.on g2);clear a0 a1 d0 d1 r0 r1 r2 r3 VU VV;obtain⟨d0,d1,ff⟩:=dg E7.out.gG;have f0:=ff 0;have f1:=ff 1;have JA:=hid (lD (c':=c7) E7.out.gG g1 E7.out.below Py.out Ih (fun v=>.tuple #[v,.int .i64 sp]));clear ff BP Ih g1 g2))
    refine bodyPost_ret (v:=.tuple #[.agg #[.int .i64 start,.slice p7 nT (c7+nT)],.int .i64 sp]) (by simp[results,results114,go_sem,d0,d1]) rfl JA.out
def dU (start now:Int)(f:Cf)(l:List Rw):List Rw:=l.filter fun r=> !ia start r now f
def dc (t:Tb)(now:Int)(f:Cf):Tb:=⟨t.start,dU t.start now f t.rows⟩
theorem zU (start now:Int)(f:Cf)(l:List Rw)(j:Nat)(h:j<l.length):dU start now f (l.take (j+1))=dU start now f (l.take j)++(if ia start (l.getD j aq) now f=true then [] else [l.getD j aq]):=by
 have e:l.getD j aq=l[j]:=by simp[List.getD,h]
 rw[e,dU,List.take_succ_eq_append_getElem h,List.filter_append];by_cases h2:ia start l[j] now f=true
 ·rw [if_pos h2];simp[dU,h2]
 ·rw [if_neg h2];simp[dU,h2]
theorem tL (start now:Int)(f:Cf)(l:List Rw)(j:Nat):(dU start now f (l.take j)).length<=l.length:=by
 have h1:(dU start now f (l.take j)).length<=(l.take j).length:=List.length_filter_le _ _;have h2:(l.take j).length<=l.length:=by simp;omega
 omega
theorem sj (t:Tb)(p:Option Addr)(c:Nat)(now:Int)(f:Cf)(pf:Option Addr)(cf:Nat)(w:World)(h:ar w p t.rows)(hz:iU w pf f.aH)(hl:t.rows.length<=1000) :
 Calls prog 120 #[bN t p c,.int .i64 now,gD f pf cf] w (ew w (dc t now f) id):=by
 obtain⟨start,rows⟩:=t;have HV:Hid (∀j,j=rows.length->dc ⟨start,rows⟩ now f=⟨start,dU start now f (rows.take j)⟩):=by
  rintro j rfl
  show Tb.mk start (dU start now f rows)=_
  rw[List.take_length]
 generalize dc ⟨start,rows⟩ now f=V at HV ⊢;have HS:Hid (∀j,j<rows.length->dU start now f (rows.take (j+1))=dU start now f (rows.take j)++(if ia start (rows.getD j aq) now f=true then [] else [rows.getD j aq])):=fun j=>zU start now f rows j
 have HL:=fun j=>hid (tL start now f rows j)
 have qB:dU start now f (rows.take 0)=[]:=by simp[dU]
 have BQ:=fun (u:World) (r:Rw) (pr:Option Addr) (cr:Nat) (hu:iU u pf f.aH)=>MY ⟨start,rows⟩ p c r pr cr now f pf cf u hu
 generalize hG:(fun j=>dU start now f (rows.take j))=G
 have MK:∀j,dU start now f (rows.take j)=G j:=fun j=>by rw[<-hG]
 simp only[MK] at HV HS HL qB;clear hG MK;have hID:Hid (∀r,ia start r now f=ia start r now f):=fun _=>rfl
 generalize hI:(fun r=>ia start r now f)=I at *
 have VW:∀r,ia start r now f=I r:=fun r=>by rw[<-hI]
 simp only[VW] at HS BQ;clear hID hI VW;obtain⟨n,sk,tl,va,lo,he,ke,qu,aH⟩:=f;simp only[bN,gD] at *;have YA:=hid h;generalize ym:rows.length=nr at *;generalize aH.length=nz at *;have Md:=hid ym;obtain⟨k0,k1,k2,hb⟩:=gq w (.cells #[.int .i64 start,.slice p nr (c+nr)] 28) (.cells #[.int .i64 n,.int .i64 sk,.int .i64 tl,.int .i64 va,.int .i64 lo,.int .i64 he,.int .i64 ke,.int .i64 qu,.slice pf nz cf] 24) (.cells #[.int .i64 0,.slice none 0 0] 28);have HZ:=hid hz;have HB:=hid hb;have K0:=hid k0;have K1:=hid k1;have K2:=hid k2;clear hz hb k0 k1 k2 h ym;go_enter func120,ntmps120
 go_wp2;generalize((w.alloc (.cells #[.int .i64 start,.slice p nr (c+nr)] 28)).alloc (.cells #[.int .i64 n,.int .i64 sk,.int .i64 tl,.int .i64 va,.int .i64 lo,.int .i64 he,.int .i64 ke,.int .i64 qu,.slice pf nz cf] 24)).alloc (.cells #[.int .i64 0,.slice none 0 0] 28)=w3 at *;go_loopw [7,8,9] (fun v i d wr=>∃j:Nat,j<=nr/\i=.int .i64 (j:Int)/\Hid (jY w w3.heap.size wr v (G j))/\Below w3.heap.size w3 wr) (fun _ i _ _=>nr-(intOf i).toNat)
 case atStart=>exact ⟨0,by omega,rfl,(by rw[qB];exact jY.none _ _ _),Below.refl _ _⟩
 case round =>
  obtain⟨j,hj,rfl,ax,aW⟩:=hrel;obtain⟨a0,a1,-⟩:=dg ((aW.block _ (ae K0.out)).trans K0.out);by_cases aC:j<nr
  ·obtain ⟨b,o,rfl,x0,x1,x2,px,cx,x3,Bg⟩:=gT YA.out (show j<rows.length by rw[Md.out];exact aC)
   have bE:(j:Int)<(nr:Int):=by omega
   have hs:=HS.out j aC;have aT:=(HL j).out;have hi:=BQ;generalize rows.getD j aq=x at *;obtain⟨xk,xa,xm,xo⟩:=x;have hi:=fun u hu=>BQ u ⟨xk,xa,xm,xo⟩ px cx hu
   simp only[dE] at *;generalize Ic:xo.length=MX at *;have Ti:=hid Ic;have CE:Hid (∀u,Below w3.heap.size w3 u->(u.cell? ⟨w.heap.size,0,none⟩=some (.int .i64 start)/\u.cell? ⟨w.heap.size,1,none⟩=some (.slice (some ⟨b,o,none⟩) nr (c+nr))/\u.cell? ⟨b,o+j*4,none⟩=some (.int .i64 xk)/\u.cell? ⟨b,o+j*4+1,none⟩=some (.int .i64 xa)/\u.cell? ⟨b,o+j*4+2,none⟩=some (.int .i64 xm)/\u.cell? ⟨b,o+j*4+3,none⟩=some (.slice px MX (cx+MX))/\u.cell? ⟨w.heap.size+1,0,none⟩=some (.int .i64 n)/\u.cell? ⟨w.heap.size+1,1,none⟩=some (.int .i64 sk)/\u.cell? ⟨w.heap.size+1,2,none⟩=some (.int .i64 tl)/\u.cell? ⟨w.heap.size+1,3,none⟩=some (.int .i64 va)/\u.cell? ⟨w.heap.size+1,4,none⟩=some (.int .i64 lo)/\u.cell? ⟨w.heap.size+1,5,none⟩=some (.int .i64 he)/\u.cell? ⟨w.heap.size+1,6,none⟩=some (.int .i64 ke)/\u.cell? ⟨w.heap.size+1,7,none⟩=some (.int .i64 qu)/\u.cell? ⟨w.heap.size+1,8,none⟩=some (.slice pf nz cf))/\iU u pf aH):=fun u hu=>by
    have hw:=HB.out.trans (hu.mono HB.out.size);obtain⟨t0,t1,-⟩:=dg ((hu.block _ (ae K0.out)).trans K0.out);obtain⟨c0,c1,c2,c3,c4,c5,c6,c7,c8⟩:=aG ((hu.block _ (ae K1.out)).trans K1.out);exact⟨⟨t0,t1,af x0 hw,af x1 hw,af x2 hw,af x3 hw,c0,c1,c2,c3,c4,c5,c6,c7,c8⟩,HZ.out.below hw⟩
   have VO:=hid Bg;have D0:=hid aW.drew;have Z0:=hid (CE.out _ aW.drew).2;have S0:=(CE.out _ aW.drew).1;have kX:=hid ax.out;have cA:=hid aW;clear x0 x1 x2 x3 Bg Ic BQ HS;generalize I ⟨xk,xa,xm,xo⟩=q at *;clear hj ax a0 a1;obtain⟨l,U4⟩:∃l,G j=l:=⟨_,rfl⟩;rw[U4] at kX aT hs;clear U4;obtain⟨pv,cv,rfl⟩:=kX.out.jx;generalize ny:l.length=nl at *;have yn:=hid ny;clear ny;obtain⟨s0,s1,s2,s3,s4,s5,s6,s7,s8,s9,zV,YB,s12,s13,s14⟩:=S0;obtain⟨a0,a1,-⟩:=dg ((aW.block _ (ae K0.out)).trans K0.out);have rO:=hid hs;clear hs;rcases Bool.eq_false_or_eq_true q with rfl | rfl
   ·have SE:=hid (rO.out.trans (by rw[if_pos rfl,List.append_nil]))
    clear rO;go_wp2;go_region_held3 (fun u=>(u.cell? ⟨w.heap.size,0,none⟩=some (.int .i64 start)/\u.cell? ⟨w.heap.size,1,none⟩=some (.slice (some ⟨b,o,none⟩) nr (c+nr))/\u.cell? ⟨b,o+j*4,none⟩=some (.int .i64 xk)/\u.cell? ⟨b,o+j*4+1,none⟩=some (.int .i64 xa)/\u.cell? ⟨b,o+j*4+2,none⟩=some (.int .i64 xm)/\u.cell? ⟨b,o+j*4+3,none⟩=some (.slice px MX (cx+MX))/\u.cell? ⟨w.heap.size+1,0,none⟩=some (.int .i64 n)/\u.cell? ⟨w.heap.size+1,1,none⟩=some (.int .i64 sk)/\u.cell? ⟨w.heap.size+1,2,none⟩=some (.int .i64 tl)/\u.cell? ⟨w.heap.size+1,3,none⟩=some (.int .i64 va)/\u.cell? ⟨w.heap.size+1,4,none⟩=some (.int .i64 lo)/\u.cell? ⟨w.heap.size+1,5,none⟩=some (.int .i64 he)/\u.cell? ⟨w.heap.size+1,6,none⟩=some (.int .i64 ke)/\u.cell? ⟨w.heap.size+1,7,none⟩=some (.int .i64 qu)/\u.cell? ⟨w.heap.size+1,8,none⟩=some (.slice pf nz cf))) (first | assumption | exact⟨s0,s1,s2,s3,s4,s5,s6,s7,s8,s9,zV,YB,s12,s13,s14⟩ | exact(CE.out _ D2.out).1) (first
     |(go_at_call 172;(with_reducible refine(hi _ Z0.out).mono ?_);rintro e u2 ⟨rfl,hb2⟩;have D2:=hid (D0.out.trans (hb2.mono D0.out.size));have B2:=hid ((Below.refl wr.heap.size wr).drew.trans hb2)))
    all_goals
     go_wp2;go_roundw
     case rel=>exact ⟨j+1,by omega,by go_num,by rw[SE.out];exact hid (kX.out.on B2.out),D2.out⟩
     case measure=>simp [intOf];omega
   ·have SE:=hid (rO.out.trans (by rw[if_neg (by simp)]))
    clear rO;go_wp2;go_region_held3 (fun u=>(u.cell? ⟨w.heap.size,0,none⟩=some (.int .i64 start)/\u.cell? ⟨w.heap.size,1,none⟩=some (.slice (some ⟨b,o,none⟩) nr (c+nr))/\u.cell? ⟨b,o+j*4,none⟩=some (.int .i64 xk)/\u.cell? ⟨b,o+j*4+1,none⟩=some (.int .i64 xa)/\u.cell? ⟨b,o+j*4+2,none⟩=some (.int .i64 xm)/\u.cell? ⟨b,o+j*4+3,none⟩=some (.slice px MX (cx+MX))/\u.cell? ⟨w.heap.size+1,0,none⟩=some (.int .i64 n)/\u.cell? ⟨w.heap.size+1,1,none⟩=some (.int .i64 sk)/\u.cell? ⟨w.heap.size+1,2,none⟩=some (.int .i64 tl)/\u.cell? ⟨w.heap.size+1,3,none⟩=some (.int .i64 va)/\u.cell? ⟨w.heap.size+1,4,none⟩=some (.int .i64 lo)/\u.cell? ⟨w.heap.size+1,5,none⟩=some (.int .i64 he)/\u.cell? ⟨w.heap.size+1,6,none⟩=some (.int .i64 ke)/\u.cell? ⟨w.heap.size+1,7,none⟩=some (.int .i64 qu)/\u.cell? ⟨w.heap.size+1,8,none⟩=some (.slice pf nz cf))) (first | assumption | exact⟨s0,s1,s2,s3,s4,s5,s6,s7,s8,s9,zV,YB,s12,s13,s14⟩ | exact(CE.out _ D2.out).1) (first
     |(go_at_call 172;(with_reducible refine(hi _ Z0.out).mono ?_);rintro e u2 ⟨rfl,hb2⟩;have D2:=hid (D0.out.trans (hb2.mono D0.out.size));have B2:=hid ((Below.refl wr.heap.size wr).drew.trans hb2)))
    all_goals
     go_wp2_with (at_builtin;refine j6 rfl (.tmp 28) (.tmp 34) rfl w w3 u2 (.slice pv nl cv) rfl l nl yn.out (kX.out.on B2.out) D2.out (Below.refl _ _) u2.heap.size ⟨xk,xa,xm,xo⟩ px MX cx Ti.out rfl (heap_alloc_new _ _) VO.out (by omega) ?_;intro p4 c4 w4 R4 B4;clear s0 s1 s2 s3 s4 s5 s6 s7 s8 s9 zV YB s12 s13 s14 a0 a1)
     go_roundw
     case rel=>exact ⟨j+1,by omega,by go_num,by rw[SE.out];exact R4,B4⟩
     case measure=>simp [intOf];omega
  ·obtain rfl:j=nr:=by omega
   have hv:=HV.out _ rfl;generalize U4:G j=l at *;clear U4;obtain⟨pv,cv,rfl⟩:=ax.out.jx;generalize ny:l.length=nl at *;have yn:=hid ny;have kX:=hid ax.out;have HVE:=hid hv;have fa:=(dg ((aW.block _ (ae K0.out)).trans K0.out)).2.2 1;obtain⟨d0,d1,ff⟩:=dg ((aW.block _ (ae K2.out)).trans K2.out);have f0:=ff 0;have f1:=ff 1;have cA:=hid aW;have hsz:w.heap.size+1+1<w3.heap.size:=ae K2.out;clear ny ax hv ff HV HS HL BQ;go_wp2;refine bodyPost_ret (v:=.agg #[.int .i64 start,.slice pv nl cv]) (by simp[results,results120,go_sem,d0,d1]) rfl ?_
   have hwu:=HB.out.trans (cA.out.mono HB.out.size);have Qf:=((hwu.setCell (p:=⟨w.heap.size,1,none⟩) (by simp) (.slice pv nl cv)).setCell (p:=⟨w.heap.size+1+1,0,none⟩) (by simp;omega) (.int .i64 start)).setCell (p:=⟨w.heap.size+1+1,1,none⟩) (by simp;omega) (.slice pv nl cv)
   have ko:=((kX.out.set (b:=w.heap.size) (o:=1) (u:=.slice pv nl cv) (by omega)).set (b:=w.heap.size+1+1) (o:=0) (u:=.int .i64 start) hsz).set (b:=w.heap.size+1+1) (o:=1) (u:=.slice pv nl cv) hsz
   obtain⟨p',c',hv,tK⟩:=ko.rows Qf;simp only[Value.slice.injEq] at hv;obtain⟨rfl,-,hcv⟩:=hv;rw[HVE.out];exact⟨pv,c',by rw[hcv,<-yn.out];rfl,tK,Qf⟩
end Zv
namespace Zu
open Zq (ae aj ai aI)
open Zp (iE aL Own At bS eu fN af aD aA ag bQ bX)
abbrev eV:List TypeId:=[90,113]
def head:List It->It×Bool
 | []=>(z,false)
 | x :: _=>(x,true)
abbrev Pw:=(Nat->Prop)->Nat->World->Nat->Int->List It->Prop
structure eA (PW:Pw)(F:Nat->Prop)(B:Nat)(w:World)(q:Nat)(aw:Int)(l:List It)(w':World):Prop where
 pw:PW F B w' q aw l
 off:fN eV w w'
 below:Below B w w'
 rest:∀g,F g->g<w.heap.size->w'.heap[g]? =w.heap[g]?
structure jz (PW:Pw):Prop where
 below:∀{F B w q aw l w'},PW F B w q aw l->Below w.heap.size w w'->PW F B w' q aw l
 kept:∀{F B w q aw l w'},PW F B w q aw l->bS [90] w w'->Below B w w'->PW F B w' q aw l
 sub:∀{F G B w q aw l},PW F B w q aw l->(∀g,G g->F g)->PW G B w q aw l
 grow:∀{F B w q aw l w'},PW F B w q aw l->Below w.heap.size w w'->PW (fun g=>F g∨w.heap.size<=g/\g<w'.heap.size) B w' q aw l
 new:∀aw w,0<=aw->aw<=16->Calls prog 79 #[.int .i64 aw] w fun e w'=>∃q,e=.returned (.tuple #[.pointer (some ⟨q,0,none⟩),.int .i64 0])/\PW (fun g=>g<w.heap.size) w.heap.size w' q aw []/\Below w.heap.size w w'
 Ii:∀aw w,(aw<0∨16<aw)->Calls prog 79 #[.int .i64 aw] w fun e w'=>e=.returned (.tuple #[.pointer none,.int .i64 1])/\Below w.heap.size w w'
 put:∀{F B w q aw l},PW F B w q aw l->B<=w.heap.size->bu aw l->l.length<=16->∀x,kV x->Calls prog 89 #[.pointer (some ⟨q,0,none⟩),val x] w fun e w'=>e=.returned (.int .i64 (put aw l x).2)/\eA PW F B w q aw (put aw l x).1 w'
 take:∀{F B w q aw l},PW F B w q aw l->B<=w.heap.size->bu aw l->l.length<=16->∀id,bC id->Calls prog 162 #[.pointer (some ⟨q,0,none⟩),.int .i64 id] w fun e w'=>e=.returned (.tuple #[val (take l id).2.1,.bool (take l id).2.2])/\eA PW F B w q aw (take l id).1 w'
 first:∀{F B w q aw l},PW F B w q aw l->bu aw l->l.length<=16->∀key,bC key->Calls prog 86 #[.pointer (some ⟨q,0,none⟩),.int .i64 key] w fun e w'=>e=.returned (.tuple #[val (head (of l key)).1,.bool (head (of l key)).2])/\Below w.heap.size w w'
 of:∀{F B w q aw l},PW F B w q aw l->bu aw l->l.length<=16->∀key,bC key->Calls prog 138 #[.pointer (some ⟨q,0,none⟩),.int .i64 key] w fun e w'=>∃p c,e=.returned (.slice p (of l key).length c)/\aL aN w' p (of l key)/\Below w.heap.size w w'
 aR:∀{F B w q aw l},PW F B w q aw l->bu aw l->l.length<=16->Calls prog 159 #[.pointer (some ⟨q,0,none⟩)] w fun e w'=>∃p c,e=.returned (.slice p (aR l).length c)/\aL bX w' p (aR l)/\Below w.heap.size w w'
 sum:∀{F B w q aw l},PW F B w q aw l->bu aw l->l.length<=16->∀key,bC key->Calls prog 200 #[.pointer (some ⟨q,0,none⟩),.int .i64 key] w fun e w'=>e=.returned (.int .i64 (sum l key))/\Below w.heap.size w w'
 all:∀{F B w q aw l},PW F B w q aw l->bu aw l->l.length<=16->Calls prog 36 #[.pointer (some ⟨q,0,none⟩)] w fun e w'=>∃p c,e=.returned (.slice p l.length c)/\aL aN w' p l/\Below w.heap.size w w'
 aaL:∀x w,Calls prog 89 #[.pointer none,val x] w fun e w'=>e=.returned (.int .i64 1)/\Below w.heap.size w w'
 VX:∀id w,Calls prog 162 #[.pointer none,.int .i64 id] w fun e w'=>e=.returned (.tuple #[val z,.bool false])/\Below w.heap.size w w'
 Tn:∀key w,Calls prog 86 #[.pointer none,.int .i64 key] w fun e w'=>e=.returned (.tuple #[val z,.bool false])/\Below w.heap.size w w'
 nof:∀key w,Calls prog 138 #[.pointer none,.int .i64 key] w fun e w'=>∃p c,e=.returned (.slice p 0 c)/\Below w.heap.size w w'
 VY:∀w,Calls prog 159 #[.pointer none] w fun e w'=>∃p c,e=.returned (.slice p 0 c)/\Below w.heap.size w w'
 aaM:∀key w,Calls prog 200 #[.pointer none,.int .i64 key] w fun e w'=>e=.returned (.int .i64 0)/\Below w.heap.size w w'
 aaN:∀w,Calls prog 36 #[.pointer none] w fun e w'=>∃p c,e=.returned (.slice p 0 c)/\Below w.heap.size w w'
theorem cQ (w:World)(o:Obj):Below w.heap.size w (w.alloc o):=(Below.refl _ _).alloc (Nat.le_refl _) o
def x1:It:=⟨1,5,3,2,9⟩
def x2:It:=⟨2,5,4,0,7⟩
def x3:It:=⟨3,5,4,0,7⟩
end Zu
namespace Zz
open Zq (ae aj ai aI)
open Zp (iE aL Own At bS eu fN af aD aA ag bX)
abbrev eV:List TypeId:=[95,244]
abbrev Pw:=Nat->World->Nat->List Nt->Prop
structure eA (PW:Pw)(B:Nat)(w:World)(q:Nat)(l:List Nt)(w':World):Prop where
 pw:PW B w' q l
 off:fN eV w w'
 below:Below B w w'
theorem cQ (w:World)(o:Obj):Below w.heap.size w (w.alloc o):=(Below.refl _ w).alloc (Nat.le_refl _) o
def n1:List Nt:=[]++[⟨3,9⟩]
def n2:List Nt:=n1++[⟨3,2⟩]
end Zz
namespace Zo
open Zx (Rw Tb aq ak dK ar af dO gS)
open Zq (ae aj ai)
def bC (x:Int):Prop:= -9223372036854775808<=x/\x<=9223372036854775807
structure Mem (w:World)(bs:List (Nat×Array Value×TypeId))(rs:List (Option Addr×List Rw))(ls:List (Option Addr×List (Int×Int)))(u:World):Prop where
 boxes:∀(i:Nat) (g:Nat) (vs:Array Value) (T:TypeId),bs[i]? =some (g,vs,T)->u.heap[g]? =some (.cells vs T (0,0))
 rows:∀(i:Nat) (p:Option Addr) (l:List Rw),rs[i]? =some (p,l)->ar u p l
 dS:∀(i:Nat) (p:Option Addr) (l:List (Int×Int)),ls[i]? =some (p,l)->ak u p l
 below:Below w.heap.size w u
section
variable {w u u':World}{bs:List (Nat×Array Value×TypeId)}{rs:List (Option Addr×List Rw)}{ls:List (Option Addr×List (Int×Int))}
theorem Mem.start (w:World):Mem w [] [] [] w:=⟨fun i g vs T h=>by simp at h,fun i p l h=>by simp at h,fun i p l h=>by simp at h,Below.refl _ _⟩
theorem Mem.on (h:Mem w bs rs ls u)(hb:Below u.heap.size u u'):Mem w bs rs ls u' :=
 ⟨fun i g vs T e=>(hb.block _ (ae (h.boxes i g vs T e))).trans (h.boxes i g vs T e),fun i p l e=>(h.rows i p l e).below hb,fun i p l e=>(h.dS i p l e).below hb,h.below.trans (hb.mono h.below.size)⟩
theorem Mem.drew (h:Mem w bs rs ls u):Mem w bs rs ls u.drew:=h.on (Below.refl _ _).drew
theorem Mem.box (h:Mem w bs rs ls u)(vs:Array Value)(T:TypeId):Mem w ((u.heap.size,vs,T) :: bs) rs ls (u.alloc (.cells vs T)):=by
 have h':=h.on ((Below.refl _ _).alloc (Nat.le_refl _) (.cells vs T));refine⟨fun i g U5 T' e=> ?_,h'.rows,h'.dS,h'.below⟩
 cases i with
 | zero =>
   simp only[List.getElem?_cons_zero,Option.some.injEq,Prod.mk.injEq] at e;obtain⟨rfl,rfl,rfl⟩:=e;exact heap_alloc_new _ _
 | succ i=>exact h'.boxes i g U5 T' (by simpa using e)
end
theorem size_alloc (u:World)(o:Obj):(u.alloc o).heap.size=u.heap.size+1:=by simp
theorem bQ {w:World}{b:Nat}{v0 v1 v2 v3 v4:Value}{T:TypeId}(h:w.heap[b]? =some (.cells #[v0,v1,v2,v3,v4] T (0,0))):w.cell? ⟨b,0,none⟩=some v0/\w.cell? ⟨b,1,none⟩=some v1/\w.cell? ⟨b,2,none⟩=some v2/\w.cell? ⟨b,3,none⟩=some v3/\w.cell? ⟨b,4,none⟩=some v4 :=
 ⟨by rw[cell_of_row w b 0 _ _ (0,0) h];rfl,by rw[cell_of_row w b 1 _ _ (0,0) h];rfl,by rw[cell_of_row w b 2 _ _ (0,0) h];rfl,by rw[cell_of_row w b 3 _ _ (0,0) h];rfl,by rw[cell_of_row w b 4 _ _ (0,0) h];rfl⟩
theorem vz:(prog.info? 3).map (fun i=>(i.zero,i.size,i.bytes))=some (some (.int .i64 0),1,8):=by kernel_rfl
def jq (l:List Int):List Value:=l.map (Value.int .i64)
def fj (B:Nat)(w:World)(v:Value)(l:List Int):Prop:=w.ownsRow B 3 1 v l.length (jq l)
theorem fj.S9 {B n:Nat}{w:World}{v:Value}{l xs:List Int}(h:w.ownsRow B 3 1 v (l.length+n) (jq l++jq xs))(hn:xs.length=n):fj B w v (l++xs):=by
 unfold fj;rw[List.length_append,hn];simpa[jq] using h
theorem fj.bX {B:Nat}{w:World}{v:Value}{l:List Int}(h:fj B w v l):∃p c,v=.slice p l.length c/\∀k:Nat,k<l.length->∃b o,p=some ⟨b,o,none⟩/\w.cell? ⟨b,o+k,none⟩=some (.int .i64 (l.getD k 0)):=by
 rcases h.2 with ⟨rfl,h0⟩ | ⟨g,cap,cur,rfl,h1,h2,h3,h4,h5,h6⟩
 ·exact ⟨none,0,by rw[h0],fun k hk=>by omega⟩
 ·refine ⟨_,cap,rfl,fun k hk=>⟨g,0,rfl,?_⟩⟩
  have:=World.ownsRow.cells (g:=g) h rfl k (.int .i64 (l.getD k 0)) (by simp[jq,List.getD,hk])
  rwa [Zq.gM] at this
theorem vI {B:Nat}{u:World}{v:Value}{l:List Int}(h:fj B u v l){b:Nat}(hb:v.ownBlock=some b):∃cur,u.heap[b]? =some (.cells cur 3 (0,0)):=by
 rcases h.2 with ⟨rfl,-⟩ | ⟨g,cap,cur,rfl,h1,h2,-⟩
 ·simp [Value.ownBlock] at hb
 ·simp only[Value.ownBlock,Option.some.injEq] at hb
  subst hb;exact⟨cur,h2⟩
theorem dQ {B:Nat}{u u':World}{v:Value}{l:List Int}(h:fj B u v l)(hk:∀b,v.ownBlock=some b->u'.heap[b]? =u.heap[b]?):fj B u' v l:=by
 refine⟨h.1,?_⟩;rcases h.2 with h0 | ⟨g,cap,cur,rfl,h1,h2,h3⟩
 ·exact .inl h0
 ·exact .inr ⟨g,cap,cur,rfl,h1,(hk g rfl).trans h2,h3⟩
theorem vJ {u:World}{ops:Array Oper}{rest:List Oper}{o:Oper}{a:Act}{Q:Exit->Act->World->Prop}(hgd:o.guard=none)(s y:Operand)
 (ho:o.op=.call { callee:=.builtin .append,args:= #[s,y],argTypes:= #[25,25] })
 (B:Nat) (v:Value) (hs:a.eval s=v) (l:List Int) (n:Nat) (hn:l.length=n) (ax:fj B u v l) (hB:B<=u.heap.size)
 (g:Nat) (x:Int) (hy:a.eval y=.slice (some ⟨g,0,Option.none⟩) 1 1) (hg:u.heap[g]? =some (.cells #[.int .i64 x] 3 (0,0))) (aT:n<=100000)
 (h:∀p c w',Hid (fj B w' (.slice p (n+1) c) (l++[x]))->u.grownBy w' v.ownBlock->((Value.slice p (n+1) c).ownBlock=v.ownBlock∨(Value.slice p (n+1) c).ownBlock=some u.heap.size)->wpList prog ops Q rest (a.put o.dst (.slice p (n+1) c)) w'):wpList prog ops Q (o :: rest) a u:=by
 subst hn;obtain⟨i0,hi,hz0,hz1,hz2⟩:=info_parts vz;refine wpList_append_own_at _ hgd s y 25 ho B 3 i0 (.int .i64 0) 1 8 underlying25 hi hz0 hz1 hz2 rfl (by decide) v l.length (jq l) hs ax ⟨g,0,Option.none⟩ 1 1 [.int .i64 x] hy rfl (World.news_of_block hg) ?_ (by unfold maxLen;omega) (by omega) hB ?_
 ·intro z hz
  simp at hz;rw[hz];rfl
 ·intro v' w' ko hg2 _ hat
  have R:fj B w' v' (l++[x]):=fj.S9 (xs:=[x]) ko rfl;obtain⟨p,c,rfl⟩:∃p c,v'=.slice p (l.length+1) c:=by
   rcases ko.2 with ⟨_,h0⟩ | ⟨g,cap,cur,rfl,_⟩
   ·omega
   ·exact ⟨_,cap,rfl⟩
  exact h p c w' R hg2 hat
open Zx (Rw Tb Tk aq ak dK ar af cG bn)
open Zq (cX ae aj ai)
def aS (t:Tk)(ps:Option Addr)(cs:Nat)(p:Option Addr)(c:Nat):Value:=.agg #[.int .i64 t.gen,.int .i64 t.bP,.slice ps t.stamps.length cs,.int .i64 t.table.start,.slice p t.table.rows.length c]
end Zo
end Go.Proofs.YtbgdlokegibkmaaGreat
