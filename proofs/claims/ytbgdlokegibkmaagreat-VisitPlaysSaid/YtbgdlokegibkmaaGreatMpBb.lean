/-
  A part of the proof of VisitPlays.
-/
import Derived.Test.YtbgdlokegibkmaaGreatMpAt
import Derived.Test.YtbgdlokegibkmaaGreatMpBa
set_option maxRecDepth 100000
set_option maxHeartbeats 4000000
namespace Go.Proofs.YtbgdlokegibkmaaGreat
open Go.RowKit
open Tryz
open Lib (hid)
namespace Zn
open Zx (Rw Tb Tk aq cG af)
open Zv (dK ar)
open Zq (cX ae)
open Zy (Cf Eg An bD fh eo e0)
open Zo (aS bz)
open Zw (bC)
theorem zj (W:World)(c:Cf)(pf:Option Addr)(kf:Nat)(t:Tk)(ps:Option Addr)(cs:Nat)(pt:Option Addr)(d:Nat):j9 W c pf kf t ps cs pt d ((W.alloc (.cells #[.int .i64 c.n,.int .i64 c.sk,.int .i64 c.tl,.int .i64 c.va,.int .i64 c.lo,.int .i64 c.he,.int .i64 c.ke,.int .i64 c.qu,.slice pf c.zs.length kf] 24)).alloc (.cells #[.int .i64 t.gen,.int .i64 t.bP,.slice ps t.stamps.length cs,.int .i64 t.table.start,.slice pt t.table.rows.length (d+t.table.rows.length)] 30))/\Below W.heap.size W ((W.alloc (.cells #[.int .i64 c.n,.int .i64 c.sk,.int .i64 c.tl,.int .i64 c.va,.int .i64 c.lo,.int .i64 c.he,.int .i64 c.ke,.int .i64 c.qu,.slice pf c.zs.length kf] 24)).alloc (.cells #[.int .i64 t.gen,.int .i64 t.bP,.slice ps t.stamps.length cs,.int .i64 t.table.start,.slice pt t.table.rows.length (d+t.table.rows.length)] 30)):=by
 have h1:=heap_alloc_new W (.cells #[.int .i64 c.n,.int .i64 c.sk,.int .i64 c.tl,.int .i64 c.va,.int .i64 c.lo,.int .i64 c.he,.int .i64 c.ke,.int .i64 c.qu,.slice pf c.zs.length kf] 24);have h2:=heap_alloc_new (W.alloc (.cells #[.int .i64 c.n,.int .i64 c.sk,.int .i64 c.tl,.int .i64 c.va,.int .i64 c.lo,.int .i64 c.he,.int .i64 c.ke,.int .i64 c.qu,.slice pf c.zs.length kf] 24)) (.cells #[.int .i64 t.gen,.int .i64 t.bP,.slice ps t.stamps.length cs,.int .i64 t.table.start,.slice pt t.table.rows.length (d+t.table.rows.length)] 30);have hs:(W.alloc (.cells #[.int .i64 c.n,.int .i64 c.sk,.int .i64 c.tl,.int .i64 c.va,.int .i64 c.lo,.int .i64 c.he,.int .i64 c.ke,.int .i64 c.qu,.slice pf c.zs.length kf] 24)).heap.size=W.heap.size+1:=by simp
 rw[hs] at h2;exact⟨⟨(heap_alloc_old _ _ (ae h1)).trans h1,h2⟩,uQ W _ _⟩
section
variable {PW:yS}{W:World}{c:Cf}{pf:Option Addr}{kf:Nat}{t:Tk}{ps:Option Addr}{cs:Nat}{pt:Option Addr}{d:Nat}{pa:Option Addr}{n ka:Nat}
theorem Gx (P:tU PW)(HF:∀u,Below W.heap.size W u->Calls prog 6 #[aS t ps cs pt (d+t.table.rows.length),c.val pf kf,.slice pa n ka] u (cG u false)) :
 Calls prog 3 #[c.val pf kf,aS t ps cs pt (d+t.table.rows.length),.slice pa n ka] W fun e w'=>e=.returned (.bool true)/\Below W.heap.size W w':=by
 obtain⟨hX,hB⟩:=zj W c pf kf t ps cs pt d;have HX:=hid hX;have HB:=hid hB;have N6:=hid HF;have WO:=hid (fun u=>sU P u)
 obtain⟨x0,x1,x2,x3,x4,x5,x6,x7,x8,y0,y1,y2,y3,y4,-⟩:=hX.cells;clear hX hB HF P;simp only[Cf.val,aS] at N6 ⊢;go_enter func3,ntmps3
 go_upto_region 1 with (fail)
 generalize((W.alloc (.cells #[.int .i64 c.n,.int .i64 c.sk,.int .i64 c.tl,.int .i64 c.va,.int .i64 c.lo,.int .i64 c.he,.int .i64 c.ke,.int .i64 c.qu,.slice pf c.zs.length kf] 24)).alloc (.cells #[.int .i64 t.gen,.int .i64 t.bP,.slice ps t.stamps.length cs,.int .i64 t.table.start,.slice pt t.table.rows.length (d+t.table.rows.length)] 30))=W0 at *;go_wp2_with (first
  |(go_at_call 6;(with_reducible refine(N6.out _ HB.out).mono ?_);rintro x u1 ⟨rfl,hb⟩;have aO:=hid (HB.out.trans (hb.mono HB.out.size));clear hb N6)
  |(go_at_call 7;(with_reducible refine(WO.out _).mono ?_);rintro x u5 ⟨rfl,hb⟩;have jy:=hid (aO.out.trans (hb.mono aO.out.size));clear hb))
 go_ret;exact⟨rfl,jy.out⟩
theorem Oz (P:tU PW)(HF:∀u,Below W.heap.size W u->Calls prog 6 #[aS t ps cs pt (d+t.table.rows.length),c.val pf kf,.slice pa n ka] u (cG u true))(ht:tT t)(hst:cX W ps t.stamps)(Ky:ar W pt t.table.rows)(hz:c.zs.length<=40)(hr:bD W.heap.size W pf c.zs)(hc:fh c)(EG:c.bI≠0) :
 Calls prog 3 #[c.val pf kf,aS t ps cs pt (d+t.table.rows.length),.slice pa n ka] W fun e w'=>e=.returned (.bool true)/\Below W.heap.size W w':=by
 obtain⟨hX,hB⟩:=zj W c pf kf t ps cs pt d;have HX:=hid hX;have HB:=hid hB;have N6:=hid HF;have WO:=hid (fun u=>sU P u)
 have HN:=hid (fun u (hu:Below W.heap.size W u)=>P.Ii c pf kf u (nM hr hu.size hu) hc EG)
 have HM:=hid (fun u (hu:Below W.heap.size W u)=>(Zy.Cl (k:=kf) (Nat.le_refl _) (nM hr hu.size hu) (by omega)).mono (fun x w' (h:_/\(_∨_))=>show x=.returned (.tuple #[.pointer none,.int .i64 c.bI])/\Below u.heap.size u w' from⟨(h.2.resolve_right fun h2=>EG h2.1).2,h.1⟩))
 have HV:=hid (fun u (hu:Below W.heap.size W u)=>P.uN 0 1 t none ps cs pt d c pf kf u (.inl rfl) ht hc (by omega) (hst.below hu) (Ky.below hu) (nM hr hu.size hu))
 have Pt:(c.bI != c.bI)=false:=by simp
 obtain⟨x0,x1,x2,x3,x4,x5,x6,x7,x8,y0,y1,y2,y3,y4,-⟩:=hX.cells;clear hX hB HF P hr hst Ky ht;generalize c.bI=ck at *;simp only[Cf.val,aS] at N6 HN HM HV ⊢;go_enter func3,ntmps3
 go_upto_region 1 with (fail)
 generalize((W.alloc (.cells #[.int .i64 c.n,.int .i64 c.sk,.int .i64 c.tl,.int .i64 c.va,.int .i64 c.lo,.int .i64 c.he,.int .i64 c.ke,.int .i64 c.qu,.slice pf c.zs.length kf] 24)).alloc (.cells #[.int .i64 t.gen,.int .i64 t.bP,.slice ps t.stamps.length cs,.int .i64 t.table.start,.slice pt t.table.rows.length (d+t.table.rows.length)] 30))=W0 at *;go_wp2_with (first
  |(go_at_call 6;(with_reducible refine(N6.out _ HB.out).mono ?_);rintro x u1 ⟨rfl,hb⟩;have aO:=hid (HB.out.trans (hb.mono HB.out.size));have BM:=hid (HX.out.below hb);clear x0 x1 x2 x3 x4 x5 x6 x7 x8 y0 y1 y2 y3 y4;obtain⟨x0,x1,x2,x3,x4,x5,x6,x7,x8,y0,y1,y2,y3,y4,-⟩:=BM.out.cells;clear hb N6)
  |(go_at_call 8;(with_reducible refine(HN.out _ aO.out).mono ?_);rintro x u2 ⟨rfl,hb⟩;have bJ:=hid (aO.out.trans (hb.mono aO.out.size));have Ig:=hid (BM.out.below hb);clear x0 x1 x2 x3 x4 x5 x6 x7 x8 y0 y1 y2 y3 y4;obtain⟨x0,x1,x2,x3,x4,x5,x6,x7,x8,y0,y1,y2,y3,y4,-⟩:=Ig.out.cells;clear hb HN)
  |(go_at_call 9;(with_reducible refine(HM.out _ bJ.out).mono ?_);rintro x u3 ⟨rfl,hb⟩;have cH:=hid (bJ.out.trans (hb.mono bJ.out.size));have YX:=hid (Ig.out.below hb);clear x0 x1 x2 x3 x4 x5 x6 x7 x8 y0 y1 y2 y3 y4;obtain⟨x0,x1,x2,x3,x4,x5,x6,x7,x8,y0,y1,y2,y3,y4,-⟩:=YX.out.cells;clear hb HM))
 go_loop [12] (fun i=>i=.int .i64 0) (fun _=>0)
 case atStart=>exact rfl
 case round =>
  obtain rfl:=hrel;have hor:((0:Int)<(n:Int))∨¬((0:Int)<(n:Int)):=Decidable.em _;rcases hor with h0 | h0
  all_goals
   go_wp2_with (first
    |(go_at_call 15;(with_reducible refine(HV.out _ cH.out).mono ?_);rintro x u4 ⟨Mg,Ko,p4,d4,y4',rfl,hy,-,hb⟩;obtain⟨py,ky,rfl,-,-,-⟩:=hy;have fp:=hid (cH.out.trans (hb.mono cH.out.size));clear hb)
    |(go_at_call 7;(with_reducible refine(WO.out _).mono ?_);rintro x u5 ⟨rfl,hb⟩;have jy:=hid ((fp.out.trans ((cQ u4 _).mono fp.out.size)).trans (hb.mono (Nat.le_trans fp.out.size (cQ u4 _).size)));clear hb))
   go_ret;exact⟨rfl,jy.out⟩
end
theorem Lh {PW:yS}(P:tU PW)(W:World)(c:Cf)(pf:Option Addr)(kf:Nat)(t:Tk)(ps:Option Addr)(cs:Nat)(pt:Option Addr)(d:Nat)(pa:Option Addr)(ka:Nat)(l:List Av)(ha:IB W pa l)(C4:∀a∈l,tS a)(hs:(t.stamps.length:Int)<=9223372036854775807)(hm:(t.table.rows.length:Int)<=9223372036854775807)(C5:dZ (fun g=>g<W.heap.size) W t ps pt)(hr:bD W.heap.size W pf c.zs)(hc:fh c) :
 Calls prog 3 #[c.val pf kf,aS t ps cs pt (d+t.table.rows.length),.slice pa l.length ka] W fun e w'=>e=.returned (.bool true)/\Below W.heap.size W w':=by
 have Ky:=eN C5.rows;have HF:=fun u (hu:Below W.heap.size W u)=>J5 t ps pt cs (d+t.table.rows.length) c pf kf pa l.length ka u hs hm (Ky.below hu).frame
 cases hf:sH t c l.length with
 | false =>
   rw[hf] at HF;exact Gx P HF
 | true =>
   rw[hf] at HF;obtain⟨⟨f1,f2,f3⟩,f4,f5⟩:=NL hf;by_cases hk:c.bI=0
   ·exact KC P W c pf kf t ps cs pt d pa ka l f5 ha C4 ⟨f1,f2,f3⟩ C5 f4 hr hc hk (Zy.vQ hk) (Dl hk).2 HF (fun u=>sU P u)
   ·exact Oz P HF ⟨f1,f2,f3⟩ C5.stamps.rest Ky f4 hr hc hk
open Zx (Rw Tb Tk aq ak af)
open Zv (dK ar bq cI bV held bN gD)
open Zq (cX ae aj ai)
open Zp (aL bS fN)
open Zy (Cf Eg An Ed aM bD fh eo iK eW In bZ gX iL)
open Zo (aS)
abbrev mr:List TypeId:=[97,60,30,118,45]
theorem Li {ts:List TypeId}{w w':World}(h:bS ts w w')(hs:∀T∈ts,T∈mr):bS mr w w':=⟨h.size,fun g o e ht=>h.tD g o e fun cs T z k hm=>ht cs T z k (hs T hm)⟩
section
variable {R:Nat->Prop}{B q qw qq qd:Nat}{w w':World}{y:Value}{c:Cf}{e:Eg}
theorem uU (h:In R B w q y qw qq qd c e)(hk:bS mr w w'):In R B w' q y qw qq qd c e:=by
 have k:∀{T:TypeId},T∉mr->gX T w w':=fun hT g cs z hg=>hk.block g _ _ _ hg hT
 have km:∀(b:Nat) es cl,w.heap[b]? =some (.map es cl)->w'.heap[b]? =some (.map es cl):=fun b es cl hb=>hk.tD b _ hb (fun _ _ _ e=>by cases e)
 have hcw:∀b,Zy.holds w' qw b->Zy.holds w qw b:=fun b hb=>by
  obtain⟨_,m,h1,_⟩:=h.wl;unfold Zy.holds at hb ⊢;rwa [World.cell?_of_block (a:=⟨qw,0,none⟩) ((k (by decide) _ _ _ h1).trans h1.symm)] at hb
 have Ul:∀b,Zy.holds w' qd b->Zy.holds w qd b:=fun b hb=>by
  obtain⟨_,m,h1,_⟩:=h.dm;unfold Zy.holds at hb ⊢;rwa [World.cell?_of_block (a:=⟨qd,0,none⟩) ((k (by decide) _ _ _ h1).trans h1.symm)] at hb
 exact⟨h.ge,k (by decide) _ _ _ h.mW,Zy.lI h.rt (k (by decide)),Zy.nP h.wl (k (by decide)) (fun b es cl _ hb=>km b es cl hb),Zy.nQ h.qu hk.size (k (by decide)) (k (by decide)),Zy.nR h.dm (k (by decide)) (fun b es cl _ hb=>km b es cl hb),fun b h1 h2=>h.fZ b (hcw b h1) (Ul b h2)⟩
theorem jM {g:Nat}{cs:Array Value}{T:TypeId}{z:Nat×Nat}(h:w.heap[g]? =some (.cells cs T z))(hT:¬(T=3∨T=80∨T=141)):¬dz w g:=by
 rintro⟨-,cs',T',z',h1,h2⟩;rw[h] at h1;simp only[Option.some.injEq,Obj.cells.injEq] at h1;exact hT (h1.2.1 ▸ h2)
theorem Dn (h:In R B w q y qw qq qd c e):In (fun g=>R g∨dz w g) B w q y qw qq qd c e:=by
 refine⟨h.ge,h.mW,h.rt,h.wl,?_,h.dm,h.fZ⟩;obtain⟨y,hy⟩:=h.qu;refine⟨y,hy.ge,fun e=>e.elim hy.nf (jM hy.mW (by decide)),hy.mW,hy.ic,fun g hg hn=> ?_,fun g hg=>hg.elim (hy.fl g) And.left⟩
 rcases hn with hn | hn
 ·exact hy.Mj g hg hn
 rcases hy.ic.2 with ⟨rfl,-⟩ | ⟨g',cap,cur,rfl,-,h2,-⟩
 ·simp [Value.ownBlock] at hg
 ·simp only[Value.ownBlock,Option.some.injEq] at hg
  subst hg;exact jM h2 (by decide) hn
end
def Pf:yS:=fun R B w q c e=>((0<=c.qu/\c.qu<=16)/\(∀x∈e.D,bC x.key)/\¬R q)/\∃y qw qq qd,In R B w q y qw qq qd c e
theorem Rc:jv Pf where
 below:=fun ⟨h0,y,qw,qq,qd,h⟩ hb=>⟨h0,y,qw,qq,qd,h.below hb⟩
 kept:=fun ⟨h0,y,qw,qq,qd,h⟩ hk _=>⟨h0,y,qw,qq,qd,uU h (Li hk (by decide))⟩
 low:=fun ⟨_,_,_,_,_,h⟩ g hg=>h.low g hg
 sub:=fun ⟨⟨a,b,d⟩,y,qw,qq,qd,h⟩ hG=>⟨⟨a,b,fun hq=>d (hG _ hq)⟩,y,qw,qq,qd,h.sub hG⟩
 grow:=fun ⟨⟨a,b,d⟩,y,qw,qq,qd,h⟩ hb=>⟨⟨a,b,fun hq=>hq.elim d fun h2=>by have:=ae h.mW;omega⟩,y,qw,qq,qd,h.grow hb⟩
 Sd:=fun ⟨⟨a,b,d⟩,y,qw,qq,qd,h⟩=>⟨⟨a,b,fun hq=>hq.elim d (jM h.mW (by decide))⟩,y,qw,qq,qd,Dn h⟩
structure Gf where
 gen:Int
 bP:Int
 st:List Int
 ps:Option Addr
 cs:Nat
 start:Int
 q:Nat
 node:Int
 now:Int
 c:Cf
 pf:Option Addr
 kf:Nat
def Gy (f:Gf)(p:Option Addr)(n d:Nat):Array Value:= #[.int .i64 f.gen,.int .i64 f.bP,.slice f.ps f.st.length f.cs,.int .i64 f.start,.slice p n (d+n),.pointer (some ⟨f.q,0,none⟩),.int .i64 f.node,.int .i64 f.now,.int .i64 f.c.n,.int .i64 f.c.sk,.int .i64 f.c.tl,.int .i64 f.c.va,.int .i64 f.c.lo,.int .i64 f.c.he,.int .i64 f.c.ke,.int .i64 f.c.qu,.slice f.pf f.c.zs.length f.kf]
structure Gu (B gb:Nat)(f:Gf)(y:Value)(qw qq qd:Nat)(R:Nat->Prop)(p:Option Addr)(d:Nat)(t:Tb)(e:Eg)(u:World):Prop where
 kr:In R B u f.q y qw qq qd f.c e
 box:u.heap[gb]? =some (.cells (Gy f p t.rows.length d) 118 (0,0))
 rows:Zv.cz R u p t.rows
 start:t.start=f.start
 Ss:¬R gb
 aH:bD B u f.pf f.c.zs
 size:B<=u.heap.size
structure fH (B gb:Nat)(R R':Nat->Prop)(u w':World):Prop where
 below:Below B u w'
 off:fN Zy.eV u w'
 lf:∀g cs T z,g≠gb->T∈Zy.fV->u.heap[g]? =some (.cells cs T z)->w'.heap[g]? =some (.cells cs T z)
 bM:∀g,R g->iK u g->g<u.heap.size->w'.heap[g]? =u.heap[g]?
 up:∀g,R g->R' g
 new:∀g,R' g->R g∨u.heap.size<=g
section
variable {B gb:Nat}{f:Gf}{y:Value}{qw qq qd:Nat}{R R' R2:Nat->Prop}{p p':Option Addr}{d d':Nat}{t T:Tb}{e e':Eg}{u u' w':World}
theorem fH.trans (h:fH B gb R R' u u')(k:fH B gb R' R2 u' w'):fH B gb R R2 u w' :=
 ⟨h.below.trans k.below,h.off.trans k.off,fun g cs T z hn hT hg=>k.lf g cs T z hn hT (h.lf g cs T z hn hT hg),fun g hg hn hl=>(k.bM g (h.up g hg) (hn.on (h.bM g hg hn hl)) (Nat.lt_of_lt_of_le hl h.below.size)).trans (h.bM g hg hn hl),fun g hg=>k.up g (h.up g hg),fun g hg=>(k.new g hg).elim (h.new g) fun hs=>.inr (Nat.le_trans h.below.size hs)⟩
theorem fH.cw (hb:Below u.heap.size u u')(hB:B<=u.heap.size):fH B gb R R u u' :=
 ⟨hb.mono hB,Zp.fN.cw hb,fun g _ _ _ _ _ hg=>(hb.block g (ae hg)).trans hg,fun g _ _ hl=>hb.block g hl,fun _ h=>h,fun _ h=>.inl h⟩
theorem fH.uV (hb:Below u.heap.size u u')(hB:B<=u.heap.size):fH B gb R (fun g=>R g∨u.heap.size<=g/\g<u'.heap.size) u u' :=
 ⟨hb.mono hB,Zp.fN.cw hb,fun g _ _ _ _ _ hg=>(hb.block g (ae hg)).trans hg,fun g _ _ hl=>hb.block g hl,fun _ h=>.inl h,fun _ h=>h.imp id And.left⟩
theorem fH.lL {q:Nat}{c:Cf}(m:bZ R B u q y qw qq qd c e' u'):fH B gb R R u u' :=
 ⟨m.below,m.off,fun g cs T z _ hT hg=>m.lf.block g cs T z hg hT,m.bM,fun _ h=>h,fun _ h=>.inl h⟩
theorem Gu.on (h:Gu B gb f y qw qq qd R p d t e u)(hb:Below u.heap.size u u'):Gu B gb f y qw qq qd R p d t e u' :=
 ⟨h.kr.below hb,(hb.block _ (ae h.box)).trans h.box,h.rows.below hb,h.start,h.Ss,h.aH.on (hb.mono h.size),Nat.le_trans h.size hb.size⟩
theorem Gu.more (h:Gu B gb f y qw qq qd R p d t e u)(hb:Below u.heap.size u u'):Gu B gb f y qw qq qd (fun g=>R g∨u.heap.size<=g/\g<u'.heap.size) p d t e u' :=
 ⟨h.kr.grow hb,(hb.block _ (ae h.box)).trans h.box,(h.rows.below hb).on (fun _ h _=>.inl h) fun _ _ _=>rfl,h.start,fun hg=>hg.elim h.Ss fun h2=>by have:=ae h.box;omega,h.aH.on (hb.mono h.size),Nat.le_trans h.size hb.size⟩
theorem Gu.kS (h:Gu B gb f y qw qq qd R p d t e u)(m:bZ R B u f.q y qw qq qd f.c e' u'):Gu B gb f y qw qq qd R p d t e' u' :=
 ⟨m.kr,m.lf.block _ _ _ _ h.box (by simp[Zy.fV]),sN h.rows (fun _ h _=>h) m.bM,h.start,h.Ss,h.aH.on m.below,Nat.le_trans h.size m.off.size⟩
theorem ji (h:Gu B gb f y qw qq qd R p d t e u)(p':Option Addr)(n d':Nat) :
 ((u.setCell ⟨gb,3,none⟩ (.int .i64 f.start)).setCell ⟨gb,4,none⟩ (.slice p' n (d'+n))).heap[gb]? =some (.cells (Gy f p' n d') 118 (0,0))/\∀b,b≠gb->((u.setCell ⟨gb,3,none⟩ (.int .i64 f.start)).setCell ⟨gb,4,none⟩ (.slice p' n (d'+n))).heap[b]? =u.heap[b]? :=
 ⟨ai gb 4 _ _ (ai gb 3 _ _ h.box),fun _ hb=>(Below.heap_setCell _ _ _ _ hb).trans (Below.heap_setCell _ _ _ _ hb)⟩
theorem tj (h:Gu B gb f y qw qq qd R p d t e u)(p':Option Addr)(n d':Nat):bS mr u ((u.setCell ⟨gb,3,none⟩ (.int .i64 f.start)).setCell ⟨gb,4,none⟩ (.slice p' n (d'+n))) :=
 ⟨by simp,fun b o ho ht=>((ji h p' n d').2 b (by rintro rfl;rw[h.box] at ho;exact ht _ _ _ (Option.some.inj ho).symm (by decide))).trans ho⟩
theorem wK (_:Gu B gb f y qw qq qd R p d t e u)(hg:B<=gb)(p':Option Addr)(n d':Nat):Below B u ((u.setCell ⟨gb,3,none⟩ (.int .i64 f.start)).setCell ⟨gb,4,none⟩ (.slice p' n (d'+n))) :=
 ((Below.refl B u).setCell (p:=⟨gb,3,none⟩) hg _).setCell (p:=⟨gb,4,none⟩) hg _
theorem Gu.store (h:Gu B gb f y qw qq qd R p d t e u)(hg:B<=gb)(hr:Zv.cz R u p' T.rows)(hs:T.start=f.start):Gu B gb f y qw qq qd R p' d' T e ((u.setCell ⟨gb,3,none⟩ (.int .i64 f.start)).setCell ⟨gb,4,none⟩ (.slice p' T.rows.length (d'+T.rows.length))) :=
 have hn:∀b,R b->b≠gb:=fun _ hb e=>h.Ss (e ▸ hb)
 ⟨uU h.kr (tj h _ _ _),(ji h _ _ _).1,hr.on (fun _ h _=>h) fun b hb _=>(ji h _ _ _).2 b (hn b hb),hs,h.Ss,h.aH.on (wK h hg _ _ _),Nat.le_trans h.size (tj h _ _ _).size⟩
theorem fH.wL (h:Gu B gb f y qw qq qd R p d t e u)(hg:B<=gb)(p':Option Addr)(n d':Nat):fH B gb R R u ((u.setCell ⟨gb,3,none⟩ (.int .i64 f.start)).setCell ⟨gb,4,none⟩ (.slice p' n (d'+n))) :=
 ⟨wK h hg p' n d',⟨(tj h p' n d').size,fun b cs T z hb hT=>((ji h p' n d').2 b (by rintro rfl;rw[h.box] at hb;simp only[Option.some.injEq,Obj.cells.injEq] at hb;rw[<-hb.2.1] at hT;simp[Zy.eV] at hT)).trans hb⟩,fun b cs T z hn _ hb=>((ji h p' n d').2 b hn).trans hb,fun b hb _ _=>(ji h p' n d').2 b fun e=>h.Ss (e ▸ hb),fun _ h=>h,fun _ h=>.inl h⟩
theorem Gu.cells (h:Gu B gb f y qw qq qd R p d t e u):u.cell? ⟨gb,0,none⟩=some (.int .i64 f.gen)/\u.cell? ⟨gb,1,none⟩=some (.int .i64 f.bP)/\u.cell? ⟨gb,2,none⟩=some (.slice f.ps f.st.length f.cs)/\u.cell? ⟨gb,3,none⟩=some (.int .i64 f.start)/\u.cell? ⟨gb,4,none⟩=some (.slice p t.rows.length (d+t.rows.length))/\u.cell? ⟨gb,5,none⟩=some (.pointer (some ⟨f.q,0,none⟩))/\u.cell? ⟨gb,6,none⟩=some (.int .i64 f.node)/\u.cell? ⟨gb,7,none⟩=some (.int .i64 f.now) /\
 u.cell? ⟨gb,8,none⟩=some (.int .i64 f.c.n)/\u.cell? ⟨gb,9,none⟩=some (.int .i64 f.c.sk)/\u.cell? ⟨gb,10,none⟩=some (.int .i64 f.c.tl)/\u.cell? ⟨gb,11,none⟩=some (.int .i64 f.c.va)/\u.cell? ⟨gb,12,none⟩=some (.int .i64 f.c.lo)/\u.cell? ⟨gb,13,none⟩=some (.int .i64 f.c.he)/\u.cell? ⟨gb,14,none⟩=some (.int .i64 f.c.ke)/\u.cell? ⟨gb,15,none⟩=some (.int .i64 f.c.qu)/\u.cell? ⟨gb,16,none⟩=some (.slice f.pf f.c.zs.length f.kf)/\∀o,u.frozen? ⟨gb,o,none⟩=false:=by
 have hb:=h.box;refine⟨?_,?_,?_,?_,?_,?_,?_,?_,?_,?_,?_,?_,?_,?_,?_,?_,?_,fun o=>aj hb⟩ <;>(rw[cell_of_row _ _ _ _ _ (0,0) hb];rfl)
end
open Zy (Cf Eg An Ed aM bD fh eo iK eW In bZ gX iL ib)
theorem zl {w:World}{v:Value}{l:List An}(h:eo w v l):Zy.jt w v l:=by
 obtain⟨p,c,e,h1,-,h3⟩:=h;exact⟨p,c,e,h1,h3⟩
theorem zm {C:Nat}{u:World}{v:Value}{l:List An}(h:gA C u v l){b m d:Nat}(e:v=.slice (some ⟨b,0,none⟩) m d):C<=b/\∃cs,u.heap[b]? =some (.cells cs 60 (0,0)):=by
 rcases h with ⟨h,-⟩ | ⟨g,cap,h,h1,-,-,h4⟩
 ·rw [h] at e;simp at e
 ·rw [h] at e
  simp only[Value.slice.injEq,Option.some.injEq,Addr.mk.injEq] at e;obtain⟨⟨rfl,-⟩,-⟩:=e;exact⟨h1,_,h4⟩
theorem Gz {C:Nat}{u:World}{v:Value}{l:List An}(h:gA C u v l):∃p m d,v=.slice p m d:=by
 rcases h with ⟨h,-⟩ | ⟨g,cap,h,-⟩
 ·exact ⟨_,_,_,h⟩
 ·exact ⟨_,_,_,h⟩
theorem zn {ga:Nat}{u:World}{vo:Value}{out:List An}(Uy:u.heap[ga]? =some (.cells #[vo] 45 (0,0)))(ax:gA ga u vo out){v:Value}{k:List An}(hk:Zy.jt u v k)(aT:out.length+k.length<=100000) :
 Calls prog 57 #[v,.pointer (some ⟨ga,0,none⟩)] u fun x w'=>x=.returned (.tuple #[])/\∃Bl,w'.heap[ga]? =some (.cells #[Bl] 45 (0,0))/\gA ga w' Bl (out++k)/\bS mr u w'/\Below ga u w'/\(∀b,b<u.heap.size->b≠ga->(∀m d,vo≠.slice (some ⟨b,0,none⟩) m d)->w'.heap[b]? =u.heap[b]?)/\∀b m d,Bl=.slice (some ⟨b,0,none⟩) m d->(∃m' d',vo=.slice (some ⟨b,0,none⟩) m' d')∨u.heap.size<=b:=by
 have hc:u.cell? ⟨ga,0,none⟩=some vo:=by rw[cell_of_row _ ga 0 _ _ (0,0) Uy];rfl
 have aC:=ae Uy;have PM:=hid Uy;have HO:=hid ax;clear Uy ax;go_enter func57,ntmps57
 go_wp2_with (at_builtin;refine Wa rfl (.tmp 3) (.tmp 4) rfl ga vo rfl out HO.out (Nat.le_of_lt aC) v rfl k hk aT ?_;intro Bl w1 h1 h2 h3 h4 h5;obtain⟨pv,mv,dv,rfl⟩:=Gz h1.out;have Re:w1.heap[ga]? =some (.cells #[vo] 45 (0,0)):=h2.out.block ga _ _ _ PM.out (by decide);have Sp:=hid Re;have c1:w1.cell? ⟨ga,0,none⟩=some vo:=(by rw[cell_of_row _ ga 0 _ _ (0,0) Re];rfl);have f1:w1.frozen? ⟨ga,0,none⟩=false:=aj Re;clear Re)
 go_end0
 have hs:=ai ga 0 _ (.slice pv mv dv) Sp.out;have ho:∀b,b≠ga->(w1.setCell ⟨ga,0,none⟩ (.slice pv mv dv)).heap[b]? =w1.heap[b]? :=fun b hb=>Below.heap_setCell _ _ _ _ hb
 refine⟨rfl,_,hs,h1.out.bM fun g _ ⟨cs,hg⟩=>ho g (by rintro rfl;rw[Sp.out] at hg;simp at hg),⟨Nat.le_trans h2.out.size (by simp),fun g o hg ht=>(ho g (by rintro rfl;rw[PM.out] at hg;exact ht _ _ _ (Option.some.inj hg).symm (by decide))).trans (h2.out.tD g o hg fun cs T z e hT=>ht cs T z e (by simp only[List.mem_singleton] at hT;subst hT;decide))⟩,h3.out.setCell (Nat.le_refl _) _,fun b hb hn hv=>(ho b hn).trans (h4.out b hb hv),h5.out⟩
structure Gr (B gb ga:Nat)(f:Gf)(y:Value)(qw qq qd:Nat)(R0 R:Nat->Prop)(w0:World)(p:Option Addr)(d:Nat)(s:Gs)(vo:Value)(u:World):Prop where
 gu:Gu B gb f y qw qq qd R p d s.t s.e u
 var:u.heap[ga]? =some (.cells #[vo] 45 (0,0))
 ic:gA ga u vo s.out
 nga:¬R ga
 Uz:∀b m d',vo=.slice (some ⟨b,0,none⟩) m d'->¬R b
 fr:fH B gb R0 R w0 u
 lo:w0.heap.size<=ga
 ba:B<=ga
 bg:B<=gb
section
variable {B gb ga:Nat}{f:Gf}{y:Value}{qw qq qd:Nat}{R0 R R':Nat->Prop}{w0:World}{p p':Option Addr}{d d':Nat}{s:Gs}{vo:Value}{u u':World}
theorem Gr.ne (h:Gr B gb ga f y qw qq qd R0 R w0 p d s vo u):gb≠ga:=by
 rintro rfl;have h1:=h.gu.box;rw[h.var] at h1;simp at h1
theorem Gr.step {t:Tb}{e:Eg}(h:Gr B gb ga f y qw qq qd R0 R w0 p d s vo u)(hg:Gu B gb f y qw qq qd R' p' d' t e u')(hf:fH B gb R R' u u'):Gr B gb ga f y qw qq qd R0 R' w0 p' d' ⟨t,e,s.out⟩ vo u' :=
 ⟨hg,hf.lf ga _ _ _ (Ne.symm h.ne) (by simp[Zy.fV]) h.var,h.ic.bM fun g _ ⟨cs,hc⟩=>(hf.off.block g _ _ _ hc (by simp[Zy.eV])).trans hc.symm,
  fun hR=>(hf.new ga hR).elim h.nga fun hs=>by have:=ae h.var;omega,
  fun b m d' e hR=>(hf.new b hR).elim (h.Uz b m d' e) fun hs=>by obtain⟨-,cs,hc⟩:=zm h.ic e;have:=ae hc;omega,
  h.fr.trans hf,h.lo,h.ba,h.bg⟩
theorem Gr.on (h:Gr B gb ga f y qw qq qd R0 R w0 p d s vo u)(hb:Below u.heap.size u u'):Gr B gb ga f y qw qq qd R0 R w0 p d s vo u':=h.step (h.gu.on hb) (fH.cw hb h.gu.size)
theorem Gr.Xz {Bl:Value}{k:List An}(h:Gr B gb ga f y qw qq qd R0 R w0 p d s vo u)(hv:u'.heap[ga]? =some (.cells #[Bl] 45 (0,0)))(ho:gA ga u' Bl (s.out++k))(hk:bS mr u u')(hb:Below ga u u')(hst:∀b,b<u.heap.size->b≠ga->(∀m d,vo≠.slice (some ⟨b,0,none⟩) m d)->u'.heap[b]? =u.heap[b]?)(hn:∀b m d,Bl=.slice (some ⟨b,0,none⟩) m d->(∃m' d',vo=.slice (some ⟨b,0,none⟩) m' d')∨u.heap.size<=b) :
 Gr B gb ga f y qw qq qd R0 R w0 p d ⟨s.t,s.e,s.out++k⟩ Bl u':=by
 have wM:u'.heap[gb]? =u.heap[gb]? :=hst gb (ae h.gu.box) h.ne fun m d e=>by
  obtain⟨-,cs,hc⟩:=zm h.ic e;have h1:=h.gu.box;rw[hc] at h1;simp at h1
 refine⟨⟨uU h.gu.kr hk,wM.trans h.gu.box,h.gu.rows.on (fun _ h=>fun _=>h) fun b hR hl=>hst b hl (fun e=>h.nga (e ▸ hR)) fun m d e=>h.Uz b m d e hR,h.gu.start,h.gu.Ss,h.gu.aH.on (hb.mono h.ba),Nat.le_trans h.gu.size hk.size⟩,hv,ho,h.nga,fun b m d' e hR=> ?_,?_,h.lo,h.ba,h.bg⟩
 ·rcases hn b m d' e with ⟨m',d2,e2⟩ | hs
  ·exact h.Uz b m' d2 e2 hR
  ·have:=h.gu.kr.low b hR
   omega
 ·have hl:=h.lo
  exact⟨h.fr.below.trans (hb.mono h.ba),⟨Nat.le_trans h.fr.off.size hk.size,fun g cs T z hg hT=>(hb.block g (by have:=ae hg;omega)).trans (h.fr.off.block g cs T z hg hT)⟩,fun g cs T z hn hT hg=>(hb.block g (by have:=ae hg;omega)).trans (h.fr.lf g cs T z hn hT hg),fun g hR hN aC=>(hb.block g (by omega)).trans (h.fr.bM g hR hN aC),h.fr.up,h.fr.new⟩
end
end Zn
end Go.Proofs.YtbgdlokegibkmaaGreat
