/-
  A part of the proof of VisitPlays.
-/
import Derived.Test.YtbgdlokegibkmaaGreatMpAs
set_option maxRecDepth 100000
set_option maxHeartbeats 8000000
namespace Go.Proofs.YtbgdlokegibkmaaGreat
open Go.RowKit
open Tryz
open Lib (hid)
namespace Zn
open Zx (Rw Tb Tk aq cG af)
open Zv (dK ar cI)
open Zq (cX ae)
open Zy (Cf Eg An Ed aM bD fh eo iK e0)
open Zo (aS bz)
open Zw (bC)
structure QS (w:World)(b o:Nat)(a:Av):Prop where
 k0:w.cell? ⟨b,o,none⟩=some (.bool a.visit)
 k1:w.cell? ⟨b,o+1,none⟩=some (.bool a.eI)
 k2:w.cell? ⟨b,o+2,none⟩=some (.int .i64 a.r.id)
 k3:w.cell? ⟨b,o+3,none⟩=some (.int .i64 a.r.key)
 k4:w.cell? ⟨b,o+4,none⟩=some (.int .i64 a.r.cost)
 k5:w.cell? ⟨b,o+5,none⟩=some (.int .i64 a.r.bU)
 k6:w.cell? ⟨b,o+6,none⟩=some (.int .i64 a.r.bR)
 k7:w.cell? ⟨b,o+7,none⟩=some (.int .i64 a.now)
def IB (w:World)(p:Option Addr)(l:List Av):Prop:=l=[]∨∃b o,p=some ⟨b,o,none⟩/\∀j,j<l.length->QS w b (o+j*8) (l.getD j zv)
structure j9 (W:World)(c:Cf)(pf:Option Addr)(kf:Nat)(t:Tk)(ps:Option Addr)(cs:Nat)(pt:Option Addr)(d:Nat)(u:World):Prop where
 dW:u.heap[W.heap.size]? =some (.cells #[.int .i64 c.n,.int .i64 c.sk,.int .i64 c.tl,.int .i64 c.va,.int .i64 c.lo,.int .i64 c.he,.int .i64 c.ke,.int .i64 c.qu,.slice pf c.zs.length kf] 24 (0,0))
 mV:u.heap[W.heap.size+1]? =some (.cells #[.int .i64 t.gen,.int .i64 t.bP,.slice ps t.stamps.length cs,.int .i64 t.table.start,.slice pt t.table.rows.length (d+t.table.rows.length)] 30 (0,0))
theorem j9.below {W:World}{c:Cf}{pf:Option Addr}{kf:Nat}{t:Tk}{ps:Option Addr}{cs:Nat}{pt:Option Addr}{d:Nat}{u u':World}(h:j9 W c pf kf t ps cs pt d u)(hb:Below u.heap.size u u'):j9 W c pf kf t ps cs pt d u' :=
 ⟨(hb.block _ (ae h.dW)).trans h.dW,(hb.block _ (ae h.mV)).trans h.mV⟩
theorem j9.step {W:World}{c:Cf}{pf:Option Addr}{kf:Nat}{t:Tk}{ps:Option Addr}{cs:Nat}{pt:Option Addr}{d:Nat}{u u':World}{B v:Nat}{e e':Eg}(h:j9 W c pf kf t ps cs pt d u)(he:Ed B u v c e)(hs:aM B u v c e' u'):j9 W c pf kf t ps cs pt d u':=by
 obtain⟨_,cs',_,_,_,_,_,h1,_⟩:=he;refine⟨(hs.only _ ?_ (ae h.dW)).trans h.dW,(hs.only _ ?_ (ae h.mV)).trans h.mV⟩
 ·intro e
  have h2:=h.dW;rw[e,h1] at h2;simp at h2
 ·intro e
  have h2:=h.mV;rw[e,h1] at h2;simp at h2
theorem j9.cells {W:World}{c:Cf}{pf:Option Addr}{kf:Nat}{t:Tk}{ps:Option Addr}{cs:Nat}{pt:Option Addr}{d:Nat}{u:World}(h:j9 W c pf kf t ps cs pt d u) :
 u.cell? ⟨W.heap.size,0,none⟩=some (.int .i64 c.n)/\u.cell? ⟨W.heap.size,1,none⟩=some (.int .i64 c.sk)/\u.cell? ⟨W.heap.size,2,none⟩=some (.int .i64 c.tl)/\u.cell? ⟨W.heap.size,3,none⟩=some (.int .i64 c.va)/\u.cell? ⟨W.heap.size,4,none⟩=some (.int .i64 c.lo)/\u.cell? ⟨W.heap.size,5,none⟩=some (.int .i64 c.he)/\u.cell? ⟨W.heap.size,6,none⟩=some (.int .i64 c.ke)/\u.cell? ⟨W.heap.size,7,none⟩=some (.int .i64 c.qu)/\u.cell? ⟨W.heap.size,8,none⟩=some (.slice pf c.zs.length kf) /\
 u.cell? ⟨W.heap.size+1,0,none⟩=some (.int .i64 t.gen)/\u.cell? ⟨W.heap.size+1,1,none⟩=some (.int .i64 t.bP)/\u.cell? ⟨W.heap.size+1,2,none⟩=some (.slice ps t.stamps.length cs)/\u.cell? ⟨W.heap.size+1,3,none⟩=some (.int .i64 t.table.start)/\u.cell? ⟨W.heap.size+1,4,none⟩=some (.slice pt t.table.rows.length (d+t.table.rows.length))/\∀o,u.frozen? ⟨W.heap.size+1,o,none⟩=false:=by
 obtain⟨x0,x1,x2,x3,x4,ff⟩:=bz h.mV;exact⟨by rw[cell_of_row _ _ _ _ _ (0,0) h.dW];rfl,by rw[cell_of_row _ _ _ _ _ (0,0) h.dW];rfl,by rw[cell_of_row _ _ _ _ _ (0,0) h.dW];rfl,by rw[cell_of_row _ _ _ _ _ (0,0) h.dW];rfl,by rw[cell_of_row _ _ _ _ _ (0,0) h.dW];rfl,by rw[cell_of_row _ _ _ _ _ (0,0) h.dW];rfl,by rw[cell_of_row _ _ _ _ _ (0,0) h.dW];rfl,by rw[cell_of_row _ _ _ _ _ (0,0) h.dW];rfl,by rw[cell_of_row _ _ _ _ _ (0,0) h.dW];rfl,x0,x1,x2,x3,x4,ff⟩
theorem uS {B v:Nat}{u:World}{c:Cf}{e:Eg}(he:Ed B u v c e){g:Nat}{cs:Array Value}{T:TypeId}{z:Nat×Nat}(hg:u.heap[g]? =some (.cells cs T z))(hT:T≠97):g≠v:=by
 rintro rfl;obtain⟨_,cs',_,_,_,_,_,h1,_⟩:=he;rw[h1] at hg;simp only[Option.some.injEq,Obj.cells.injEq] at hg;exact hT hg.2.1.symm
def sV (u:World)(g:Nat)(a:Av):Prop:=u.heap[g]? =some (.cells #[.bool a.visit,.bool a.eI,.int .i64 a.r.id,.int .i64 a.r.key,.int .i64 a.r.cost,.int .i64 a.r.bU,.int .i64 a.r.bR,.int .i64 a.now] 44 (0,0))
theorem sV.cells {u:World}{g:Nat}{a:Av}(h:sV u g a):QS u g 0 a :=
 ⟨by rw[cell_of_row _ _ _ _ _ (0,0) h];rfl,by rw[cell_of_row _ _ _ _ _ (0,0) h];rfl,by rw[cell_of_row _ _ _ _ _ (0,0) h];rfl,by rw[cell_of_row _ _ _ _ _ (0,0) h];rfl,by rw[cell_of_row _ _ _ _ _ (0,0) h];rfl,by rw[cell_of_row _ _ _ _ _ (0,0) h];rfl,by rw[cell_of_row _ _ _ _ _ (0,0) h];rfl,by rw[cell_of_row _ _ _ _ _ (0,0) h];rfl⟩
theorem sV.Vk {u:World}{g:Nat}{a:Av}(h:sV u g a):u.cell? ⟨g,2,none⟩=some (.int .i64 a.r.id)/\u.cell? ⟨g,3,none⟩=some (.int .i64 a.r.key)/\u.cell? ⟨g,4,none⟩=some (.int .i64 a.r.cost)/\u.cell? ⟨g,5,none⟩=some (.int .i64 a.r.bU)/\u.cell? ⟨g,6,none⟩=some (.int .i64 a.r.bR)/\u.cell? ⟨g,7,none⟩=some (.int .i64 a.now):=by
 obtain⟨-,-,m2,m3,m4,m5,m6,m7⟩:=h.cells;simp only[Nat.zero_add] at m2 m3 m4 m5 m6 m7;exact⟨m2,m3,m4,m5,m6,m7⟩
theorem sW {w:World}{p:Option Addr}{n k:Nat}{l:List An}(h:eo w (.slice p n k) l):Zp.aL Zy.iH w p l:=by
 obtain⟨p',k',e,h1,-⟩:=h;simp only[Value.slice.injEq] at e;obtain⟨rfl,-,-⟩:=e;exact h1
theorem QT (c:Cf)(e:Eg)(r:Zy.Rq)(now:Int):(Zy.jF c e r now).2.length<=1:=by
 unfold Zy.jF Zy.bR
 repeat' split
 all_goals simp[Zy.no]
structure eT (PW:yS)(W:World)(R:Nat->Prop)(q v:Nat)(c:Cf)(pf:Option Addr)(kf:Nat)(s e:Eg)(t:Tk)(ps:Option Addr)(cs:Nat)(pt:Option Addr)(d g:Nat)(a:Av)(u:World):Prop where
 nN:eR PW W R q v c s e t ps pt u
 boxes:j9 W c pf kf t ps cs pt d u
 r0:R W.heap.size
 r1:R (W.heap.size+1)
 rP:sV u g a
 rg:R g
section
variable {PW:yS}{W:World}{R:Nat->Prop}{q v:Nat}{c:Cf}{pf:Option Addr}{kf:Nat}{s e s' e':Eg}{t:Tk}{ps:Option Addr}{cs:Nat}{pt:Option Addr}{d g:Nat}{a:Av}{u u':World}
theorem eT.on (F:jv PW)(h:eT PW W R q v c pf kf s e t ps cs pt d g a u)(hb:Below u.heap.size u u'):eT PW W R q v c pf kf s e t ps cs pt d g a u' :=
 ⟨h.nN.on F hb,h.boxes.below hb,h.r0,h.r1,(hb.block _ (ae h.rP)).trans h.rP,h.rg⟩
theorem eT.ic (h:eT PW W R q v c pf kf s e t ps cs pt d g a u)(hm:gP PW R W.heap.size u q c s' u'):eT PW W R q v c pf kf s' e t ps cs pt d g a u':=by
 obtain⟨x0,-,-,-,-,-,-,-,-,y0,-⟩:=h.boxes.cells;exact⟨h.nN.ic hm,⟨(hm.bM _ h.r0 ⟨_,_,_,x0⟩ (ae h.boxes.dW)).trans h.boxes.dW,(hm.bM _ h.r1 ⟨_,_,_,y0⟩ (ae h.boxes.mV)).trans h.boxes.mV⟩,h.r0,h.r1,(hm.bM _ h.rg ⟨_,_,_,h.rP.cells.k2⟩ (ae h.rP)).trans h.rP,h.rg⟩
theorem eT.TR (F:jv PW)(h:eT PW W R q v c pf kf s e t ps cs pt d g a u)(hs:aM W.heap.size u v c e' u'):eT PW W R q v c pf kf s e' t ps cs pt d g a u' :=
 ⟨h.nN.TR F hs,h.boxes.step h.nN.ed hs,h.r0,h.r1,(hs.only _ (uS h.nN.ed h.rP (by decide)) (ae h.rP)).trans h.rP,h.rg⟩
theorem eT.head {S:Vs}(h:eT PW W R q v c pf kf S.e S.e S.t ps cs pt d g a u):∃R ps cs pt d,eR PW W R q v c S.e S.e S.t ps pt u/\j9 W c pf kf S.t ps cs pt d u/\R W.heap.size/\R (W.heap.size+1):=⟨R,ps,cs,pt,d,h.nN,h.boxes,h.r0,h.r1⟩
end
structure wo (PW:yS)(W:World)(R:Nat->Prop)(q v:Nat)(c:Cf)(pf:Option Addr)(kf:Nat)(s e:Eg)(T:Tk)(ix:Option Addr)(cs':Nat)(Az:Option Addr)(d' gb:Nat)(t:Tk)(ps:Option Addr)(cs:Nat)(pt:Option Addr)(d g:Nat)(a:Av)(y:Value)(L:List An)(u:World):Prop where
 nN:eR PW W R q v c s e T ix Az u
 PH:dZ R u t ps pt
 boxes:j9 W c pf kf t ps cs pt d u
 r0:R W.heap.size
 r1:R (W.heap.size+1)
 rP:sV u g a
 bx:u.heap[gb]? =some (.cells #[.int .i64 T.gen,.int .i64 T.bP,.slice ix T.stamps.length cs',.int .i64 T.table.start,.slice Az T.table.rows.length (d'+T.table.rows.length)] 30 (0,0))
 FK:eo u y L
section
variable {PW:yS}{W:World}{R:Nat->Prop}{q v:Nat}{c:Cf}{pf:Option Addr}{kf:Nat}{s e s' e':Eg}{T t:Tk}{ps ix:Option Addr}{cs cs':Nat}{pt Az:Option Addr}{d d' g gb:Nat}{a:Av}{y:Value}{L:List An}{u u':World}
theorem wo.on (F:jv PW)(h:wo PW W R q v c pf kf s e T ix cs' Az d' gb t ps cs pt d g a y L u)(hb:Below u.heap.size u u'):wo PW W R q v c pf kf s e T ix cs' Az d' gb t ps cs pt d g a y L u' :=
 ⟨h.nN.on F hb,h.PH.below hb,h.boxes.below hb,h.r0,h.r1,(hb.block _ (ae h.rP)).trans h.rP,(hb.block _ (ae h.bx)).trans h.bx,h.FK.off (Zp.fN.cw hb)⟩
theorem wo.TR (F:jv PW)(h:wo PW W R q v c pf kf s e T ix cs' Az d' gb t ps cs pt d g a y L u)(hs:aM W.heap.size u v c e' u'):wo PW W R q v c pf kf s e' T ix cs' Az d' gb t ps cs pt d g a y L u' :=
 ⟨h.nN.TR F hs,h.PH.Ws h.nN.ed hs,h.boxes.step h.nN.ed hs,h.r0,h.r1,(hs.only _ (uS h.nN.ed h.rP (by decide)) (ae h.rP)).trans h.rP,(hs.only _ (uS h.nN.ed h.bx (by decide)) (ae h.bx)).trans h.bx,h.FK.step h.nN.ed hs⟩
theorem wo.swap {b m1 k1 m2 k2:Nat}{gn hp st:Int}{q1 q2:Option Addr}{y1 y2:Value}(F:jv PW)(h:wo PW W R q v c pf kf s e T ix cs' Az d' gb t ps cs pt d g a y L u)(hb:u.heap[b]? =some (.cells #[.int .i64 gn,.int .i64 hp,.slice q1 m1 k1,.int .i64 st,.slice q2 m2 k2] 30 (0,0)))(hb':u'.heap[b]? =some (.cells #[.int .i64 gn,.int .i64 hp,y1,.int .i64 st,y2] 30 (0,0)))(hk:∀b',b'≠b->u'.heap[b']? =u.heap[b']?)(hB:Below W.heap.size u u')(n1:W.heap.size+1≠b)(n2:gb≠b):wo PW W R q v c pf kf s e T ix cs' Az d' gb t ps cs pt d g a y L u':=by
 have hne:∀{T:TypeId} {k:Nat} {cs:Array Value} {z:Nat×Nat},u.heap[k]? =some (.cells cs T z)->T≠30->k≠b:=by
  rintro T k cs z h1 h2 rfl;rw[hb] at h1;simp only[Option.some.injEq,Obj.cells.injEq] at h1;exact h2 h1.2.1.symm
 have ho:Zp.fN Zy.eV u u':=⟨hB.size,fun k cs T z e ht=>(hk k (hne e (by rintro rfl;simp[Zy.eV] at ht))).trans e⟩
 refine⟨h.nN.swap F hb hb' hk hB,⟨?_,?_⟩,⟨(hk _ (hne h.boxes.dW (by decide))).trans h.boxes.dW,(hk _ n1).trans h.boxes.mV⟩,h.r0,h.r1,(hk _ (hne h.rP (by decide))).trans h.rP,(hk _ n2).trans h.bx,h.FK.off ho⟩
 ·rcases h.PH.stamps with hl | ⟨b',o,e1,hS,hc⟩
  ·exact .inl hl
  ·exact .inr ⟨b',o,e1,hS,fun j hj=>eK hb hb' hk (hc j hj)⟩
 ·rcases h.PH.rows with hl | ⟨b',o,e1,hS,hc⟩
  ·exact .inl hl
  ·refine .inr ⟨b',o,e1,hS,fun j hj=> ?_⟩
   obtain⟨k0,k1,k2,q',d,k3,k4⟩:=hc j hj;refine⟨eK hb hb' hk k0,eK hb hb' hk k1,eK hb hb' hk k2,q',d,vV hb hb' hk k1 k2 k3,?_⟩;rcases k4 with k4 | ⟨b2,o2,e2,Mf,h2⟩
   ·exact .inl k4
   ·exact .inr ⟨b2,o2,e2,Mf,fun i hi=>⟨eK hb hb' hk (h2 i hi).1,eK hb hb' hk (h2 i hi).2⟩⟩
end
theorem Kz (c:Cf)(node gen now:Int)(s:Gs)(x:Int×Int):(CM c node gen now s x).t.start=s.t.start:=by
 unfold CM;split
 ·rfl
 ·split
  ·exact (jg _ _ _ _).trans (fO _ _ _ _)
  ·exact (jg _ _ _ _).trans (fO _ _ _ _)
theorem yZ (c:Cf)(node gen now:Int):∀(l:List (Int×Int))(s:Gs),(mK c node gen now l s).t.start=s.t.start
 | [],_=>rfl
 | x :: l,s=>(yZ c node gen now l (CM c node gen now s x)).trans (Kz c node gen now s x)
theorem FL (c:Cf)(node now:Int)(t:Tk)(e:Eg):(visit c node now t e).1.gen=t.gen/\(visit c node now t e).1.bP=t.bP/\(visit c node now t e).1.table.start=t.table.start:=by
 unfold visit;obtain⟨h1,h2,h3,-⟩:=jG t node now;split
 ·exact ⟨rfl,rfl,(yZ c node t.gen now _ _).trans (kZ c node t.gen now t.table e)⟩
 ·exact ⟨h1,h2,by rw[h3]⟩
theorem AA (c:Cf)(s:Vs)(now:Int):(dw c s now).1.t.gen=s.t.gen/\(dw c s now).1.t.bP=s.t.bP/\(dw c s now).1.t.table.start=s.t.table.start:=by
 unfold dw;split
 ·exact FL c 0 now s.t s.e
 ·exact ⟨rfl,rfl,rfl⟩
theorem C2 {c:Cf}(hq:c.qu<=16)(hk:c.ke<=16){m:Nat}(hm:m<=660){s:Vs}(h:uJ c m s){now:Int}(hn:bC now):(dw c s now).2.length<=20000:=by
 unfold dw;split
 ·rename_i hr
  obtain⟨h1,-⟩:=nH hr;rcases h.xI with gL | ⟨h2,-⟩
  ·unfold visit
   split
   ·have hs:=iV gL hk (gen:=s.t.gen) hn
    have hl:=hs.lens hq (by omega)
    have h3:=uP (c:=c) (node:=0) hk hq (by omega) (uM h1) hn (l:=Zy.dL c (aP c 0 s.t.gen now s.t.table s.e).2) (s:=⟨(aP c 0 s.t.gen now s.t.table s.e).1,(aP c 0 s.t.gen now s.t.table s.e).2,[]⟩) sQ hs _ (Nat.le_refl _)
    rw[List.take_length] at h3;have h4:=sR (c:=c) hl.2.1 hl.2.2;simp only[List.length_nil,Nat.zero_add] at h3;simp only;omega
   ·simp
  ·rw [h2] at h1
   simp at h1
 ·simp
theorem KA {u u':World}(hk:∀{b o:Nat}{x:Int},u.cell? ⟨b,o,none⟩=some (.int .i64 x)->u'.cell? ⟨b,o,none⟩=some (.int .i64 x)){p:Option Addr}{l:List An}(h:Zp.aL Zy.iH u p l):Zp.aL Zy.iH u' p l:=by
 rcases h with h | ⟨b,o,e,hc⟩
 ·exact .inl h
 ·refine .inr ⟨b,o,e,fun j hj k y hy=> ?_⟩
  have h1:=hc j hj k y hy;obtain⟨x,rfl⟩:∃x,y=.int .i64 x:=by
   have hm:=List.mem_of_getElem? hy;simp only[Zy.iH,List.mem_cons,List.not_mem_nil,or_false] at hm;rcases hm with rfl | rfl | rfl
   ·exact ⟨_,rfl⟩
   ·exact ⟨_,rfl⟩
   ·exact ⟨_,rfl⟩
  exact hk h1
theorem C3 (t:Tk):Zx.rQ t t=true:=by
 have hi:Zx.mZ t.stamps t.stamps=true:=by
  unfold Zx.mZ;rw[beq_self_eq_true,Bool.true_and];exact Zx.dO fun j _=>by simp
 simp[Zx.rQ,hi,Zv.Fi]
def WN (PW:yS)(W:World)(q v:Nat)(c:Cf)(pf:Option Addr)(kf:Nat)(s:Vs)(u:World):Prop :=
 ∃R ps cs pt d,eR PW W R q v c s.e s.e s.t ps pt u/\j9 W c pf kf s.t ps cs pt d u/\R W.heap.size/\R (W.heap.size+1)
theorem KC {PW:yS}(P:tU PW)(W:World)(c:Cf)(pf:Option Addr)(kf:Nat)(t:Tk)(ps:Option Addr)(cs:Nat)(pt:Option Addr)(d:Nat)(pa:Option Addr)(ka:Nat)(l:List Av)(hl:l.length<=40)(ha:IB W pa l)(C4:∀a∈l,tS a)(ht:tT t)(C5:dZ (fun g=>g<W.heap.size) W t ps pt)(hz:c.zs.length<=40)(hr:bD W.heap.size W pf c.zs)(hc:fh c)(EG:c.bI=0)(hq:0<=c.qu/\c.qu<=16)(hk:c.ke<=16)
 (HF:∀u,Below W.heap.size W u->Calls prog 6 #[aS t ps cs pt (d+t.table.rows.length),c.val pf kf,.slice pa l.length ka] u (cG u true))
 (HAL:∀u,Calls prog 7 #[] u (cG u true)) :
 Calls prog 3 #[c.val pf kf,aS t ps cs pt (d+t.table.rows.length),.slice pa l.length ka] W fun e w'=>e=.returned (.bool true)/\Below W.heap.size W w':=by
 have Sj:=uQ W (.cells #[.int .i64 c.n,.int .i64 c.sk,.int .i64 c.tl,.int .i64 c.va,.int .i64 c.lo,.int .i64 c.he,.int .i64 c.ke,.int .i64 c.qu,.slice pf c.zs.length kf] 24) (.cells #[.int .i64 t.gen,.int .i64 t.bP,.slice ps t.stamps.length cs,.int .i64 t.table.start,.slice pt t.table.rows.length (d+t.table.rows.length)] 30);have hX0:j9 W c pf kf t ps cs pt d ((W.alloc (.cells #[.int .i64 c.n,.int .i64 c.sk,.int .i64 c.tl,.int .i64 c.va,.int .i64 c.lo,.int .i64 c.he,.int .i64 c.ke,.int .i64 c.qu,.slice pf c.zs.length kf] 24)).alloc (.cells #[.int .i64 t.gen,.int .i64 t.bP,.slice ps t.stamps.length cs,.int .i64 t.table.start,.slice pt t.table.rows.length (d+t.table.rows.length)] 30)):=by
  have h1:=heap_alloc_new W (.cells #[.int .i64 c.n,.int .i64 c.sk,.int .i64 c.tl,.int .i64 c.va,.int .i64 c.lo,.int .i64 c.he,.int .i64 c.ke,.int .i64 c.qu,.slice pf c.zs.length kf] 24);have h2:=heap_alloc_new (W.alloc (.cells #[.int .i64 c.n,.int .i64 c.sk,.int .i64 c.tl,.int .i64 c.va,.int .i64 c.lo,.int .i64 c.he,.int .i64 c.ke,.int .i64 c.qu,.slice pf c.zs.length kf] 24)) (.cells #[.int .i64 t.gen,.int .i64 t.bP,.slice ps t.stamps.length cs,.int .i64 t.table.start,.slice pt t.table.rows.length (d+t.table.rows.length)] 30);have hs:(W.alloc (.cells #[.int .i64 c.n,.int .i64 c.sk,.int .i64 c.tl,.int .i64 c.va,.int .i64 c.lo,.int .i64 c.he,.int .i64 c.ke,.int .i64 c.qu,.slice pf c.zs.length kf] 24)).heap.size=W.heap.size+1:=by simp
  rw[hs] at h2;exact⟨(heap_alloc_old _ _ (ae h1)).trans h1,h2⟩
 have fD:=hid Sj;have Iq:=hid hX0;have hsz:((W.alloc (.cells #[.int .i64 c.n,.int .i64 c.sk,.int .i64 c.tl,.int .i64 c.va,.int .i64 c.lo,.int .i64 c.he,.int .i64 c.ke,.int .i64 c.qu,.slice pf c.zs.length kf] 24)).alloc (.cells #[.int .i64 t.gen,.int .i64 t.bP,.slice ps t.stamps.length cs,.int .i64 t.table.start,.slice pt t.table.rows.length (d+t.table.rows.length)] 30)).heap.size=W.heap.size+2:=by simp
 clear Sj hX0;obtain⟨x0,x1,x2,x3,x4,x5,x6,x7,x8,y0,y1,y2,y3,y4,-⟩:=Iq.out.cells;have HP:=hid P;have HN:=hid (fun u (hu:Below W.heap.size W u)=>P.new W.heap.size c pf kf u hu.size (hr.on hu) (by omega) hc EG)
 have HM:=hid (fun u (hu:Below W.heap.size W u)=>(Zy.Cl (k:=kf) hu.size (hr.on hu) (by omega)).mono (fun x w' (h:_/\(_∨_))=>show ∃v,x=.returned (.tuple #[.pointer (some ⟨v,0,none⟩),.int .i64 0])/\Ed W.heap.size w' v c e0/\Below u.heap.size u w' from by
  obtain⟨h1,h2 | ⟨_,v,h2,h3,_⟩⟩:=h
  ·exact absurd EG h2.1
  ·exact ⟨v,h2,h3,h1⟩))
 have HI:=hid (fun j (hj:j<=l.length)=>NY hq.1 hk ht l C4 j hj)
 have HS:=hid (fun(j:Nat) (hj:j<l.length)=>yP c ⟨t,e0⟩ l hj)
 have Eh:=hid (yO c ⟨t,e0⟩ l);have HT:=hid C5;have HAV:=hid C4;have HA:=hid ha;have HR:=hid hr;have N6:=hid HF;have WO:=hid HAL;generalize hST:Kg c ⟨t,e0⟩ l=ST at *;clear hST P hr C5 C4 ha HF HAL;simp only[Cf.val,aS] at N6 HN HM ⊢;go_enter func3,ntmps3
 go_upto_region 1 with (fail)
 generalize(W.alloc (.cells #[.int .i64 c.n,.int .i64 c.sk,.int .i64 c.tl,.int .i64 c.va,.int .i64 c.lo,.int .i64 c.he,.int .i64 c.ke,.int .i64 c.qu,.slice pf c.zs.length kf] 24)).alloc (.cells #[.int .i64 t.gen,.int .i64 t.bP,.slice ps t.stamps.length cs,.int .i64 t.table.start,.slice pt t.table.rows.length (d+t.table.rows.length)] 30)=W0 at *;go_wp2_with (first
  |(go_at_call 6;(with_reducible refine(N6.out _ fD.out).mono ?_);rintro x u1 ⟨rfl,hb⟩;have aO:=hid (fD.out.trans (hb.mono fD.out.size));have BM:=hid (Iq.out.below hb);have hz1:=hb.size;clear x0 x1 x2 x3 x4 x5 x6 x7 x8 y0 y1 y2 y3 y4;obtain⟨x0,x1,x2,x3,x4,x5,x6,x7,x8,y0,y1,y2,y3,y4,-⟩:=BM.out.cells;clear hb N6)
  |(go_at_call 8;(with_reducible refine(HN.out _ aO.out).mono ?_);rintro x u2 ⟨q,rfl,hp,hb⟩;have bJ:=hid (aO.out.trans (hb.mono aO.out.size));have Ig:=hid (BM.out.below hb);have HP2:=hid hp;have hz2:=hb.size;clear x0 x1 x2 x3 x4 x5 x6 x7 x8 y0 y1 y2 y3 y4;obtain⟨x0,x1,x2,x3,x4,x5,x6,x7,x8,y0,y1,y2,y3,y4,-⟩:=Ig.out.cells;clear hb hp HN)
  |(go_at_call 9;(with_reducible refine(HM.out _ bJ.out).mono ?_);rintro x u3 ⟨v,rfl,he,hb⟩;have cH:=hid (bJ.out.trans (hb.mono bJ.out.size));have YX:=hid (Ig.out.below hb);have HP3:=hid (HP.out.fr.below HP2.out hb);have HE3:=hid he;clear x0 x1 x2 x3 x4 x5 x6 x7 x8 y0 y1 y2 y3 y4;clear hb he HM))
 have hz3:W.heap.size+2<=u1.heap.size:=by omega
 have HH0:=hid (show WN PW W q v c pf kf (ST 0) u3 from by
  rw[Eh.out];exact⟨_,ps,cs,pt,d,⟨HP3.out,HE3.out,HT.out.on (fun b hb _=>Nat.lt_of_lt_of_le hb (by omega)) (fun b hb _ _=>cH.out.block b hb),cH.out⟩,YX.out,by show W.heap.size<u1.heap.size;omega,by show W.heap.size+1<u1.heap.size;omega⟩)
 clear HP2 Iq BM Ig fD aO bJ HP3 HE3 YX HT Eh hz1 hz2 hz3 hsz;go_loopw [12] (fun i wr=>∃(j:Nat),j<=l.length/\i=.int .i64 (j:Int)/\Hid (WN PW W q v c pf kf (ST j) wr)) (fun i _=>l.length-(intOf i).toNat)
 case atStart=>exact ⟨0,by omega,rfl,HH0⟩
 case round =>
  obtain⟨j,hj,rfl,hH⟩:=hrel;have hI:=HI.out j hj;by_cases aC:j<l.length
  ·have bE:(j:Int)<(l.length:Int):=by omega
   have hst:=HS.out j aC;obtain⟨S1,hS1⟩:∃S1,S1=ST (j+1):=⟨_,rfl⟩;rw[<-hS1] at hst;have Ej:=hid hS1;clear hS1;obtain⟨bl,ol,rfl,C6⟩:∃b o,pa=some ⟨b,o,none⟩/\QS W b (o+j*8) (l.getD j zv):=by
    rcases HA.out with h0 | ⟨b,o,e1,hc⟩
    ·rw [h0] at aC;simp at aC
    ·exact ⟨b,o,e1,hc j aC⟩
   have QB:=HAV.out (l.getD j zv) (by simp[List.getD,aC])
   generalize l.getD j zv=a at *;clear HA HAV HS HH0 HI;generalize ST j=S at *;obtain⟨R,gF,cs1,FM,d1,hE,hX,Vl,hr1⟩:=hH.out;have HE:=hid hE;have HX:=hid hX;have abA:QS wr bl (ol+j*8) a:=⟨(hE.below.cell (p:=⟨bl,_,none⟩) (World.block_lt_of_cell? _ _ C6.k0)).trans C6.k0,(hE.below.cell (p:=⟨bl,_,none⟩) (World.block_lt_of_cell? _ _ C6.k1)).trans C6.k1,(hE.below.cell (p:=⟨bl,_,none⟩) (World.block_lt_of_cell? _ _ C6.k2)).trans C6.k2,(hE.below.cell (p:=⟨bl,_,none⟩) (World.block_lt_of_cell? _ _ C6.k3)).trans C6.k3,(hE.below.cell (p:=⟨bl,_,none⟩) (World.block_lt_of_cell? _ _ C6.k4)).trans C6.k4,(hE.below.cell (p:=⟨bl,_,none⟩) (World.block_lt_of_cell? _ _ C6.k5)).trans C6.k5,(hE.below.cell (p:=⟨bl,_,none⟩) (World.block_lt_of_cell? _ _ C6.k6)).trans C6.k6,(hE.below.cell (p:=⟨bl,_,none⟩) (World.block_lt_of_cell? _ _ C6.k7)).trans C6.k7⟩;clear C6 hE hX hH;obtain⟨k0,k1,k2,k3,k4,k5,k6,k7⟩:=abA;go_upto_region 12 with (fail)
   have yF:=cQ wr (.cells #[.bool a.visit,.bool a.eI,.int .i64 a.r.id,.int .i64 a.r.key,.int .i64 a.r.cost,.int .i64 a.r.bU,.int .i64 a.r.bR,.int .i64 a.now] 44);have hSt:eT PW W (fun g=>R g∨wr.heap.size<=g/\g<(wr.alloc (.cells #[.bool a.visit,.bool a.eI,.int .i64 a.r.id,.int .i64 a.r.key,.int .i64 a.r.cost,.int .i64 a.r.bU,.int .i64 a.r.bR,.int .i64 a.now] 44)).heap.size) q v c pf kf S.e S.e S.t gF cs1 FM d1 wr.heap.size a (wr.alloc (.cells #[.bool a.visit,.bool a.eI,.int .i64 a.r.id,.int .i64 a.r.key,.int .i64 a.r.cost,.int .i64 a.r.bU,.int .i64 a.r.bR,.int .i64 a.now] 44)) :=
    ⟨HE.out.grow HP.out.fr yF,HX.out.below yF,.inl Vl,.inl hr1,heap_alloc_new wr _,.inr ⟨Nat.le_refl _,ae (heap_alloc_new wr _)⟩⟩
   clear yF HE HX Vl hr1 k0 k1 k2 k3 k4 k5 k6 k7;generalize(fun g=>R g∨wr.heap.size<=g/\g<(wr.alloc (.cells #[.bool a.visit,.bool a.eI,.int .i64 a.r.id,.int .i64 a.r.key,.int .i64 a.r.cost,.int .i64 a.r.bU,.int .i64 a.r.bR,.int .i64 a.now] 44)).heap.size)=R1 at *
   generalize wr.alloc (.cells #[.bool a.visit,.bool a.eI,.int .i64 a.r.id,.int .i64 a.r.key,.int .i64 a.r.cost,.int .i64 a.r.bU,.int .i64 a.r.bR,.int .i64 a.now] 44)=wa at *;generalize wr.heap.size=g at *;have hm:16*j<=640:=by omega
   have aT:=hI.lens hq.2 (by omega)
   have Pu:=hid (fun u R ps pt (hu:eR PW W R q v c S.e S.e S.t ps pt u)=>HP.out.eI hu.pw hu.below.size hI.ie ⟨by omega,aT.2.1,aT.2.2⟩)
   have FI:=hid (fun u (hu:Ed W.heap.size u v c S.e) (hb:W.heap.size<=u.heap.size)=>Zy.Fa hu hb (by omega))
   have Vm:=nI hq.1 hI a;have HST:=hid hSt;have m1:=HST.out.rP.cells.k1;simp only[Nat.zero_add] at m1;have hcc:(a.eI=true/\fy S.e a=(Zy.eI S.e).1)∨(a.eI=false/\fy S.e a=S.e):=by
    unfold fy;cases a.eI
    ·exact .inr ⟨rfl,if_neg (by simp)⟩
    ·exact .inl ⟨rfl,if_pos rfl⟩
   rcases hcc with ⟨hcr,hce⟩ | ⟨hcr,hce⟩
   all_goals first
    |(rw[show a.eI=true from hcr] at m1
      go_upto_region 15 with (first
       |(go_at_call 10;(with_reducible refine(Pu.out _ _ _ _ HST.out.nN).mono ?_);rintro x u4 ⟨y4,rfl,-,Mh⟩;have TW:=hid (HST.out.ic Mh);clear Mh)
       |(go_at_call 11;(with_reducible refine(FI.out _ TW.out.nN.ed TW.out.nN.below.size).mono ?_);rintro x u5 ⟨y5,rfl,-,hs5⟩;have Wy:=hid (TW.out.TR HP.out.fr hs5);clear hs5))
      have wm:=hid (show eT PW W R1 q v c pf kf (fy S.e a) (fy S.e a) S.t gF cs1 FM d1 g a _ from by rw[hce];exact Wy.out)
      clear TW Wy)
    |(rw[show a.eI=false from hcr] at m1
      go_upto_region 15 with (fail)
      have wm:=hid (show eT PW W R1 q v c pf kf (fy S.e a) (fy S.e a) S.t gF cs1 FM d1 g a _ from by rw[hce];exact HST.out))
   all_goals
    have N7:=Vm.lens hq.2 (by omega)
    simp only at N7;have FN:=Vm.ie;simp only at FN;have hst:S1=(if a.visit then dw c ⟨S.t,fy S.e a⟩ a.now else (⟨S.t,(Zy.jF c (fy S.e a) a.r a.now).1⟩,(Zy.jF c (fy S.e a) a.r a.now).2)).1:=hst
    clear Pu FI HST hSt m1 hce;generalize fy S.e a=E1 at *;obtain⟨m0,m1,m2,m3,m4,m5,m6,m7⟩:=wm.out.rP.cells;simp only[Nat.zero_add] at m1 m2 m3 m4 m5 m6 m7;have QP:=hid (wm.out.on HP.out.fr (Below.refl _ _).drew);cases YY:a.visit with
    | false =>
      rw[YY] at m0;rw[YY,if_neg (by simp)] at hst
      have HAP:=hid (fun u R ps pt (hu:eR PW W R q v c E1 E1 S.t ps pt u)=>HP.out.jF hu.pw hu.below.size FN ⟨by omega,N7.2.1,N7.2.2⟩ a.r QB.1 a.now QB.2)
      have HAR:=hid (fun u e (hu:Ed W.heap.size u v c e) (he:e=E1) (hb:W.heap.size<=u.heap.size)=>show Calls prog 14 #[.pointer (some ⟨v,0,none⟩),Zy.kY a.r,.int .i64 a.now] u fun e' w'=>∃y,e'=.returned y/\Zy.jt w' y (Zy.jF c E1 a.r a.now).2/\aM W.heap.size u v c (Zy.jF c E1 a.r a.now).1 w' from by
       subst he;exact Zy.ND hu hb FN ⟨by omega,by omega⟩ a.r a.now)
      have h1:=QT c E1 a.r a.now;generalize Zy.jF c E1 a.r a.now=AK at *;simp only[Zy.kY] at HAP HAR;have z7:=QP.out.rP.Vk;go_upto_region 16 with (fail)
      go_region_held3 (fun u=>u.cell? ⟨g,2,none⟩=some (.int .i64 a.r.id)/\u.cell? ⟨g,3,none⟩=some (.int .i64 a.r.key)/\u.cell? ⟨g,4,none⟩=some (.int .i64 a.r.cost)/\u.cell? ⟨g,5,none⟩=some (.int .i64 a.r.bU)/\u.cell? ⟨g,6,none⟩=some (.int .i64 a.r.bR)/\u.cell? ⟨g,7,none⟩=some (.int .i64 a.now)) (first | with_reducible assumption) (first
       |(go_at_call 13;(with_reducible refine(HAP.out _ _ _ _ QP.out.nN).mono ?_);rintro x u8 ⟨y8,rfl,hs8,Mh⟩;have HY8:=hid hs8;obtain⟨pA,kA,rfl,-,-,-⟩:=hs8;have T5:=hid (QP.out.ic Mh);have z8:=T5.out.rP.Vk;clear Mh)
       |(go_at_call 14;(with_reducible refine(HAR.out _ _ T5.out.nN.ed rfl T5.out.nN.below.size).mono ?_);rintro x u9 ⟨y9,rfl,ht9,hs9⟩;have HY9:=hid (HY8.out.step T5.out.nN.ed hs9);obtain⟨pB,kB,rfl,hT9,-⟩:=ht9;have HT9:=hid hT9;have HS9:=hid (T5.out.TR HP.out.fr hs9);have z9:=HS9.out.rP.Vk;clear hs9 hT9)
       |(go_at_call 12;(with_reducible refine(Zy.iJ (sW HY9.out) HT9.out (by omega)).mono ?_);rintro x u10 ⟨rfl,hb⟩;have WQ:=hid (HS9.out.on HP.out.fr hb);have z10:=WQ.out.rP.Vk;clear hb))
      all_goals (go_wp2_with (fail))
      all_goals (refine⟨⟨j+1,by omega,by simp,?_⟩,by simp only[intOf];omega⟩)
      all_goals (rw[<-Ej.out,hst])
      all_goals exact hid (eT.head (S:=⟨S.t,AK.1⟩) WQ.out)
    | true =>
      rw[YY] at m0;rw[YY,if_pos rfl] at hst;have HV:=hid (N4 HP.out wm.out.nN Vm (by omega) QB.2 hc (by omega) HR.out kf cs1 d1)
      have QU:=nJ hk Vm QB.2;have HRT:=hid (fun u (hi:cX u gF S.t.stamps) (Ky:ar u FM S.t.table.rows) (hb:Below W.heap.size W u)=>l7 S.t gF cs1 FM (d1+S.t.table.rows.length) 0 a.now c pf kf u hi Ky.frame (by have:=hI.Bk.stamps;omega) (fun r hr=>by have:=hI.Bk.QH r hr;omega) (HR.out.on hb).aH (by omega))
      have WE:=hid (fun u (hr:right c S.t 0 a.now=true) (hi:cX u gF S.t.stamps) (Ky:ar u FM S.t.table.rows) (he:Ed W.heap.size u v c E1) (hb:W.heap.size<=u.heap.size)=>N5 he hb hi Ky Vm (by omega) QB.2 hq.2 hk hr cs1 d1)
      have ym:¬right c S.t 0 a.now=true->dw c ⟨S.t,E1⟩ a.now=(⟨S.t,E1⟩,[]):=fun h=>if_neg h
      have T6:=AA c ⟨S.t,E1⟩ a.now;have hvf:=C2 hq.2 hk (by omega) Vm QB.2
      simp only at T6;have PI:=hid T6;clear T6;generalize dw c ⟨S.t,E1⟩ a.now=V at *;generalize right c S.t 0 a.now=RT at *;simp only[aS,Cf.val] at HV HRT WE;obtain⟨b0,b1,b2,b3,b4,b5,b6,b7,b8,c0,c1,c2,c3,c4,-⟩:=wm.out.boxes.cells;go_upto_region 20 with (go_at_call 15;(with_reducible refine HV.out.mono ?_);rintro x u7 ⟨C7,yr,C8,d2,y7,R7,rfl,hsy,WC,hE7,hO7,gL⟩;have QQ:=hid gL;have HY7:=hid hsy;have TG:=hid hE7;have HO7:=hid hO7;have JA:=hid WC;clear hsy WC hE7 hO7 gL)
      have yF:=cQ u7 (.cells #[.int .i64 V.1.t.gen,.int .i64 V.1.t.bP,.slice C7 V.1.t.stamps.length yr,.int .i64 V.1.t.table.start,.slice C8 V.1.t.table.rows.length (d2+V.1.t.table.rows.length)] 30);have HD:=hid (show wo PW W R7 q v c pf kf V.1.e E1 V.1.t C7 yr C8 d2 u7.heap.size S.t gF cs1 FM d1 g a y7 V.2 (u7.alloc (.cells #[.int .i64 V.1.t.gen,.int .i64 V.1.t.bP,.slice C7 V.1.t.stamps.length yr,.int .i64 V.1.t.table.start,.slice C8 V.1.t.table.rows.length (d2+V.1.t.table.rows.length)] 30)) from
       ⟨TG.out.on HP.out.fr yF,HO7.out.below yF,(show j9 W c pf kf S.t gF cs1 FM d1 u7 from⟨(QQ.out _ wm.out.r0 ⟨_,_,_,b0⟩ (ae wm.out.boxes.dW)).trans wm.out.boxes.dW,(QQ.out _ wm.out.r1 ⟨_,_,_,c0⟩ (ae wm.out.boxes.mV)).trans wm.out.boxes.mV⟩).below yF,JA.out _ wm.out.r0,JA.out _ wm.out.r1,(yF.block _ (ae ((QQ.out _ wm.out.rg ⟨_,_,_,m2⟩ (ae wm.out.rP)).trans wm.out.rP))).trans ((QQ.out _ wm.out.rg ⟨_,_,_,m2⟩ (ae wm.out.rP)).trans wm.out.rP),heap_alloc_new u7 _,HY7.out.off (Zp.fN.cw yF)⟩)
      clear yF TG HO7 QQ JA HY7 wm QP b0 b1 b2 b3 b4 b5 b6 b7 b8 c0 c1 c2 c3 c4 m0 m1 m2 m3 m4 m5 m6 m7 HV;generalize u7.alloc (.cells #[.int .i64 V.1.t.gen,.int .i64 V.1.t.bP,.slice C7 V.1.t.stamps.length yr,.int .i64 V.1.t.table.start,.slice C8 V.1.t.table.rows.length (d2+V.1.t.table.rows.length)] 30)=u8 at *;generalize u7.heap.size=gb at *;obtain⟨b0,b1,b2,b3,b4,b5,b6,b7,b8,c0,c1,c2,c3,c4,-⟩:=HD.out.boxes.cells;obtain⟨-,-,-,-,-,m7⟩:=HD.out.rP.Vk;go_upto_region 23 with (go_at_call 16;(with_reducible refine(HRT.out _ HD.out.PH.stamps.rest (eN HD.out.PH.rows) HD.out.nN.below).mono ?_);rintro x u9 ⟨rfl,hb⟩;have Vn:=hid (HD.out.on HP.out.fr hb);clear b0 b1 b2 b3 b4 b5 b6 b7 b8 c0 c1 c2 c3 c4 m7;obtain⟨b0,b1,b2,b3,b4,b5,b6,b7,b8,c0,c1,c2,c3,c4,-⟩:=Vn.out.boxes.cells;clear hb)
      have Sk:=cQ u9 (.cells #[.int .i64 S.t.gen,.int .i64 S.t.bP,.slice gF S.t.stamps.length cs1,.int .i64 S.t.table.start,.slice FM S.t.table.rows.length (d1+S.t.table.rows.length)] 30);have PJ:=hid (Vn.out.on HP.out.fr Sk);have WR:=hid (heap_alloc_new u9 (.cells #[.int .i64 S.t.gen,.int .i64 S.t.bP,.slice gF S.t.stamps.length cs1,.int .i64 S.t.table.start,.slice FM S.t.table.rows.length (d1+S.t.table.rows.length)] 30));have hgw:=ae Vn.out.boxes.mV;have qE:W.heap.size+1≠u9.heap.size:=Nat.ne_of_lt (ae Vn.out.boxes.mV);have jJ:gb≠u9.heap.size:=Nat.ne_of_lt (ae Vn.out.bx);clear Sk HD Vn b0 b1 b2 b3 b4 b5 b6 b7 b8 c0 c1 c2 c3 c4 HRT;generalize u9.alloc (.cells #[.int .i64 S.t.gen,.int .i64 S.t.bP,.slice gF S.t.stamps.length cs1,.int .i64 S.t.table.start,.slice FM S.t.table.rows.length (d1+S.t.table.rows.length)] 30)=ua at *;generalize u9.heap.size=gw at *;obtain⟨w0,w1,w2,w3,w4,ww⟩:=bz WR.out;obtain⟨c0,c1,c2,c3,c4,-⟩:=(bz PJ.out.boxes.mV);obtain⟨-,-,-,-,-,m7⟩:=PJ.out.rP.Vk;cases hRT:RT with
      | true =>
        go_upto_region 25 with (go_at_call 17;(with_reducible refine(WE.out _ hRT PJ.out.PH.stamps.rest (eN PJ.out.PH.rows) PJ.out.nN.ed PJ.out.nN.below.size).mono ?_);rintro x ub ⟨WU,TU,WV,d3,yb,rfl,hib,RU,V6,QA⟩;have WX:=hid hib;have HRB:=hid RU;have HTB:=hid V6;have HDB:=hid (PJ.out.TR HP.out.fr QA);have WY:=hid ((QA.only _ (uS PJ.out.nN.ed WR.out (by decide)) (ae WR.out)).trans WR.out);obtain⟨n0,n1,n2,n3,n4,nn⟩:=bz WY.out;clear hib RU V6 QA)
        have FO:=WY.out;rw[<-PI.out.1,<-PI.out.2.1,<-PI.out.2.2] at FO;have Bn:∀b,b≠gw->_:=fun b hb=>dH (u:=ub) (g:=gw) (b:=b) hb (.int .i64 V.1.t.gen) (.int .i64 V.1.t.bP) (.slice WU V.1.t.stamps.length TU) (.int .i64 V.1.t.table.start) (.slice WV V.1.t.table.rows.length (d3+V.1.t.table.rows.length))
        have Hw:=gm (u:=ub) (g:=gw) (C:=W.heap.size) (by omega) (.int .i64 V.1.t.gen) (.int .i64 V.1.t.bP) (.slice WU V.1.t.stamps.length TU) (.int .i64 V.1.t.table.start) (.slice WV V.1.t.table.rows.length (d3+V.1.t.table.rows.length))
        have WZ:=qY FO (.int .i64 V.1.t.gen) (.int .i64 V.1.t.bP) (.slice WU V.1.t.stamps.length TU) (.int .i64 V.1.t.table.start) (.slice WV V.1.t.table.rows.length (d3+V.1.t.table.rows.length));have KE:=hid (HDB.out.swap HP.out.fr FO WZ Bn Hw qE jJ);have hic:=yE FO WZ Bn WX.out;have hrc:=yC FO WZ Bn HRB.out;obtain⟨pb,kb,rfl,Sk,-⟩:=HTB.out;have hlc:=KA (fun hx=>eK FO WZ Bn hx) Sk
        generalize((((ub.setCell ⟨gw,0,none⟩ (.int .i64 V.1.t.gen)).setCell ⟨gw,1,none⟩ (.int .i64 V.1.t.bP)).setCell ⟨gw,2,none⟩ (.slice WU V.1.t.stamps.length TU)).setCell ⟨gw,3,none⟩ (.int .i64 V.1.t.table.start)).setCell ⟨gw,4,none⟩ (.slice WV V.1.t.table.rows.length (d3+V.1.t.table.rows.length))=uc at *;clear Bn Hw FO n0 n1 n2 n3 n4 nn w0 w1 w2 w3 w4 ww c0 c1 c2 c3 c4 m7;obtain⟨w0,w1,w2,w3,w4,-⟩:=bz WZ;obtain⟨p7,k7,rfl,-,-,-⟩:=KE.out.FK;obtain⟨v0,v1,v2,v3,v4,-⟩:=bz KE.out.bx;have AB:=hid (show Calls prog 18 _ _ _ from(Zx.pc V.1.t V.1.t C7 C8 WU WV yr (d2+V.1.t.table.rows.length) TU (d3+V.1.t.table.rows.length) uc (by have:=QU.Bk.stamps;omega) (by have:=QU.Bk.rows;omega) KE.out.nN.mV.stamps.rest hic (eN KE.out.nN.mV.rows).frame hrc.frame (fun r hr=>by have:=QU.Bk.QH r hr;omega)).mono fun x w' hx=>show x=.returned (.bool true)/\Below uc.heap.size uc w' from by have:=hx;rw[C3] at this;exact this)
        have wq:=QU.lens hq.2 (by omega)
        have U0:=hid (fun u (hu:eR PW W R7 q v c V.1.e V.1.e V.1.t C7 C8 u)=>yT HP.out hu QU.ie ⟨by omega,wq.2.1,wq.2.2⟩)
        go_wp2_with (first
         |(go_at_call 18;(with_reducible refine AB.out.mono ?_);rintro x ud ⟨rfl,hb⟩;have W4:=hid (KE.out.on HP.out.fr hb);have HLD:=hid (Zp.aL.below hlc hb);clear hb)
         |(go_at_call 12;(with_reducible refine(Zy.iJ (sW W4.out.FK) HLD.out (by omega)).mono ?_);rintro x ue ⟨rfl,hb⟩;have W5:=hid (W4.out.on HP.out.fr hb);clear hb)
         |(go_at_call 19;(with_reducible refine(U0.out _ W5.out.nN).mono ?_);rintro x uf ⟨rfl,hb⟩;have FP:=hid (W5.out.on HP.out.fr hb);obtain⟨l0,l1,l2,l3,l4,-⟩:=bz FP.out.bx;obtain⟨o0,o1,o2,o3,o4,oo⟩:=bz FP.out.boxes.mV;clear hb))
        have Vo:=FP.out.boxes.mV;rw[<-PI.out.1,<-PI.out.2.1,<-PI.out.2.2] at Vo;have N8:∀b,b≠W.heap.size+1->_:=fun b hb=>dH (u:=uf) (g:=W.heap.size+1) (b:=b) hb (.int .i64 V.1.t.gen) (.int .i64 V.1.t.bP) (.slice C7 V.1.t.stamps.length yr) (.int .i64 V.1.t.table.start) (.slice C8 V.1.t.table.rows.length (d2+V.1.t.table.rows.length))
        have T7:=gm (u:=uf) (g:=W.heap.size+1) (C:=W.heap.size) (by omega) (.int .i64 V.1.t.gen) (.int .i64 V.1.t.bP) (.slice C7 V.1.t.stamps.length yr) (.int .i64 V.1.t.table.start) (.slice C8 V.1.t.table.rows.length (d2+V.1.t.table.rows.length))
        have W6:=qY Vo (.int .i64 V.1.t.gen) (.int .i64 V.1.t.bP) (.slice C7 V.1.t.stamps.length yr) (.int .i64 V.1.t.table.start) (.slice C8 V.1.t.table.rows.length (d2+V.1.t.table.rows.length));refine⟨⟨j+1,by omega,by simp,?_⟩,by simp only[intOf];omega⟩
        rw[<-Ej.out,hst];exact hid ⟨R7,C7,yr,C8,d2,FP.out.nN.swap HP.out.fr Vo W6 N8 T7,⟨(N8 _ (by omega)).trans FP.out.boxes.dW,W6⟩,FP.out.r0,FP.out.r1⟩
      | false =>
        have hV:=ym (by simp[hRT])
        subst hV;have KE:=hid (show wo PW W R7 q v c pf kf E1 E1 S.t C7 yr C8 d2 gb S.t gF cs1 FM d1 g a y7 [] ua from PJ.out)
        have hwc:=WR.out;have HIC:=hid KE.out.PH.stamps.rest;have YH:=hid (eN KE.out.PH.rows);have QU:uJ c (16*j+16) ⟨S.t,E1⟩:=QU;have hst:S1=⟨S.t,E1⟩:=hst;clear PJ w0 w1 w2 w3 w4 ww;obtain⟨p7,k7,rfl,-,-,-⟩:=KE.out.FK;obtain⟨w0,w1,w2,w3,w4,-⟩:=bz hwc;obtain⟨v0,v1,v2,v3,v4,-⟩:=bz KE.out.bx;have AB:=hid (show Calls prog 18 _ _ _ from(Zx.pc S.t S.t C7 C8 gF FM yr (d2+S.t.table.rows.length) cs1 (d1+S.t.table.rows.length) ua (by have:=hI.Bk.stamps;omega) (by have:=hI.Bk.rows;omega) KE.out.nN.mV.stamps.rest HIC.out (eN KE.out.nN.mV.rows).frame YH.out.frame (fun r hr=>by have:=hI.Bk.QH r hr;omega)).mono fun x w' hx=>show x=.returned (.bool true)/\Below ua.heap.size ua w' from by have:=hx;rw[C3] at this;exact this)
        have wq:=QU.lens hq.2 (by omega)
        have U0:=hid (fun u (hu:eR PW W R7 q v c E1 E1 S.t C7 C8 u)=>yT HP.out hu QU.ie ⟨by omega,wq.2.1,wq.2.2⟩)
        have RZ:=hid (fun u (hu:eo u (.slice p7 ([]:List An).length k7) [])=>show Calls prog 12 #[.slice p7 0 k7,.slice none 0 0] u fun x w'=>x=.returned (.bool true)/\Below u.heap.size u w' from Zy.iJ (l:=[]) (sW hu) (.inl rfl) (by simp))
        go_wp2_with (first
         |(go_at_call 18;(with_reducible refine AB.out.mono ?_);rintro x ud ⟨rfl,hb⟩;have W4:=hid (KE.out.on HP.out.fr hb);clear hb)
         |(go_at_call 12;(with_reducible refine(RZ.out _ W4.out.FK).mono ?_);rintro x ue ⟨rfl,hb⟩;have W5:=hid (W4.out.on HP.out.fr hb);clear hb)
         |(go_at_call 19;(with_reducible refine(U0.out _ W5.out.nN).mono ?_);rintro x uf ⟨rfl,hb⟩;have FP:=hid (W5.out.on HP.out.fr hb);obtain⟨l0,l1,l2,l3,l4,-⟩:=bz FP.out.bx;obtain⟨o0,o1,o2,o3,o4,oo⟩:=bz FP.out.boxes.mV;clear hb))
        have Vo:=FP.out.boxes.mV;have N8:∀b,b≠W.heap.size+1->_:=fun b hb=>dH (u:=uf) (g:=W.heap.size+1) (b:=b) hb (.int .i64 S.t.gen) (.int .i64 S.t.bP) (.slice C7 S.t.stamps.length yr) (.int .i64 S.t.table.start) (.slice C8 S.t.table.rows.length (d2+S.t.table.rows.length))
        have T7:=gm (u:=uf) (g:=W.heap.size+1) (C:=W.heap.size) (by omega) (.int .i64 S.t.gen) (.int .i64 S.t.bP) (.slice C7 S.t.stamps.length yr) (.int .i64 S.t.table.start) (.slice C8 S.t.table.rows.length (d2+S.t.table.rows.length))
        have W6:=qY Vo (.int .i64 S.t.gen) (.int .i64 S.t.bP) (.slice C7 S.t.stamps.length yr) (.int .i64 S.t.table.start) (.slice C8 S.t.table.rows.length (d2+S.t.table.rows.length));refine⟨⟨j+1,by omega,by simp,?_⟩,by simp only[intOf];omega⟩
        rw[<-Ej.out,hst];exact hid ⟨R7,C7,yr,C8,d2,FP.out.nN.swap HP.out.fr Vo W6 N8 T7,⟨(N8 _ (by omega)).trans FP.out.boxes.dW,W6⟩,FP.out.r0,FP.out.r1⟩
  ·have bE:¬(j:Int)<(l.length:Int):=by omega
   obtain⟨R,gF,cs1,FM,d1,hE,hX,Vl,hr1⟩:=hH.out;have abF:=hI.Bk;generalize ST j=S at *;have HVN:=hid (HP.out.uN 0 1 S.t none gF cs1 FM d1 c pf kf wr (.inl rfl) abF hc (by omega) hE.mV.stamps.rest (eN hE.mV.rows) (nM HR.out hE.below.size hE.below))
   simp only[aS,Cf.val] at HVN;obtain⟨b0,b1,b2,b3,b4,b5,b6,b7,b8,c0,c1,c2,c3,c4,-⟩:=hX.cells;have cA:=hid hE.below;clear hE hX Vl hr1 hH hI HI HS HH0 HA HAV;go_wp2_with (first
    |(go_at_call 15;(with_reducible refine HVN.out.mono ?_);rintro x u4 ⟨Mg,Ko,p4,d4,y4,rfl,hy,-,hb⟩;obtain⟨py,ky,rfl,-,-,-⟩:=hy;have fp:=hid (cA.out.trans (hb.mono cA.out.size));clear hb)
    |(go_at_call 7;(with_reducible refine(WO.out _).mono ?_);rintro x u5 ⟨rfl,hb⟩;have jy:=hid ((fp.out.trans ((cQ u4 _).mono fp.out.size)).trans (hb.mono (Nat.le_trans fp.out.size (cQ u4 _).size)));clear hb))
   go_ret;exact⟨rfl,jy.out⟩
end Zn
end Go.Proofs.YtbgdlokegibkmaaGreat
