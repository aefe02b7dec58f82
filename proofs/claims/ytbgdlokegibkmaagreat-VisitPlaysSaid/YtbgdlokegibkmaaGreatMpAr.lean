/-
  A part of the proof of VisitPlays.
-/
import Derived.Test.YtbgdlokegibkmaaGreatMpAp
import Derived.Test.YtbgdlokegibkmaaGreatMpAq
set_option maxRecDepth 100000
set_option maxHeartbeats 8000000
namespace Go.Proofs.YtbgdlokegibkmaaGreat
open Go.RowKit
open Tryz
open Lib (hid)
namespace Zn
open Zx (Rw Tb Tk aq ak af)
open Zv (dK ar cI bV held has bN gD)
open Zq (cX ae aj ai)
open Zy (Cf Eg Ed aM bD bB drop Ch)
open Zo (aS bz)
open Zw (bC)
theorem cQ (w:World)(o:Obj):Below w.heap.size w (w.alloc o):=(Below.refl _ w).alloc (Nat.le_refl _) o
theorem wb {B:Nat}{w:World}{p:Option Addr}{zs:List (Int×Int)}(h:bD B w p zs):Zv.iU w p zs:=by
 rcases h with h | ⟨b,o,e,-,hc⟩
 ·exact .inl h
 ·exact .inr ⟨b,o,e,hc⟩
structure QJ (B:Nat)(w:World)(v:Nat)(c:Cf)(t:Tk)(ps:Option Addr)(cs:Nat)(pl:Option Addr)(l:List Int)(p:Option Addr)(n d:Nat)(s:Tb×Eg)(u:World):Prop where
 box:u.heap[w.heap.size]? =some (.cells #[.int .i64 t.gen,.int .i64 t.bP,.slice ps t.stamps.length cs,.int .i64 t.table.start,.slice p n (d+n)] 30 (0,0))
 gG:u.heap[w.heap.size+1]? =some (.cells #[.int .i64 0,.int .i64 0,.slice none 0 0,.int .i64 0,.slice none 0 0] 30 (0,0))
 rows:ar u p s.1.rows
 len:s.1.rows.length=n
 start:s.1.start=t.table.start
 xK:cX u pl l
 step:aM B w v c s.2 u
theorem iy (w0:World)(o:Obj):Below w0.heap.size w0 (w0.alloc o).drew:=(cQ w0 o).drew
theorem yU {w0 u:World}(h:Below w0.heap.size w0 u)(o:Obj):Below w0.heap.size w0 (u.alloc o):=h.trans ((cQ u o).mono h.size)
theorem yV {w0 u:World}(h:Below w0.heap.size w0 u)(x y:Value):Below w0.heap.size w0 ((u.setCell ⟨w0.heap.size,0,none⟩ x).setCell ⟨w0.heap.size,1,none⟩ y):=(h.setCell (p:=⟨w0.heap.size,0,none⟩) (Nat.le_refl _) x).setCell (p:=⟨w0.heap.size,1,none⟩) (Nat.le_refl _) y
theorem kQ {w0 u:World}(h:Below w0.drew.heap.size w0.drew u):Below w0.heap.size w0 u:=⟨h.os,h.tape,h.output,h.size,h.block⟩
def Km (w0 wx:World)(a:Value)(start:Int)(n:Nat)(rows:List Rw):Prop:=∃g p d,a=.pointer (some ⟨g,0,none⟩)/\wx.heap[g]? =some (.cells #[.int .i64 start,.slice p n (d+n)] 28 (0,0))/\w0.heap.size<=g/\ar wx p rows/\Below w0.heap.size w0 wx
theorem Aq {w0 u:World}{start:Int}{n d:Nat}{p:Option Addr}{rows:List Rw}(hb:Below w0.heap.size w0 u)(hr:ar u p rows):Km w0 (u.alloc (.cells #[.int .i64 start,.slice p n (d+n)] 28)) (.pointer (some ⟨u.heap.size,0,none⟩)) start n rows :=
 ⟨_,p,d,rfl,heap_alloc_new u _,hb.size,hr.below (cQ u _),hb.trans ((cQ u _).mono hb.size)⟩
theorem Ar {w0 u:World}{start:Int}{n d:Nat}{p:Option Addr}{rows:List Rw}(hb:Below (w0.alloc (.cells #[.int .i64 0,.slice none 0 0] 28)).drew.heap.size (w0.alloc (.cells #[.int .i64 0,.slice none 0 0] 28)).drew u)(hr:ar u p rows) :
 Km w0 ((u.setCell ⟨w0.heap.size,0,none⟩ (.int .i64 start)).setCell ⟨w0.heap.size,1,none⟩ (.slice p n (d+n))) (.pointer (some ⟨w0.heap.size,0,none⟩)) start n rows:=by
 have hz:u.heap[w0.heap.size]? =some (.cells #[.int .i64 0,.slice none 0 0] 28 (0,0)):=(hb.block _ (ae (show(w0.alloc (.cells #[.int .i64 0,.slice none 0 0] 28)).drew.heap[w0.heap.size]? =_ from heap_alloc_new w0 _))).trans (heap_alloc_new w0 _)
 have h1:=ai w0.heap.size 0 _ (.int .i64 start) hz;have h2:=ai w0.heap.size 1 _ (.slice p n (d+n)) h1;have hb2:Below w0.heap.size w0 u:=(cQ w0 _).drew.trans (hb.mono (cQ w0 _).drew.size);exact⟨_,p,d,rfl,h2,Nat.le_refl _,Zv.gl (o:=1) h1 (Zv.gl (o:=0) hz hr),(hb2.setCell (p:=⟨w0.heap.size,0,none⟩) (Nat.le_refl _) _).setCell (p:=⟨w0.heap.size,1,none⟩) (Nat.le_refl _) _⟩
theorem iN {w0 u:World}(hb:Below (w0.alloc (.cells #[.int .i64 0,.slice none 0 0] 28)).drew.heap.size (w0.alloc (.cells #[.int .i64 0,.slice none 0 0] 28)).drew u):u.cell? ⟨w0.heap.size,0,none⟩=some (.int .i64 0)/\u.cell? ⟨w0.heap.size,1,none⟩=some (.slice none 0 0)/\u.frozen? ⟨w0.heap.size,0,none⟩=false/\u.frozen? ⟨w0.heap.size,1,none⟩=false:=by
 have hz:u.heap[w0.heap.size]? =some (.cells #[.int .i64 0,.slice none 0 0] 28 (0,0)):=(hb.block _ (ae (show(w0.alloc (.cells #[.int .i64 0,.slice none 0 0] 28)).drew.heap[w0.heap.size]? =_ from heap_alloc_new w0 _))).trans (heap_alloc_new w0 _)
 exact⟨by rw[cell_of_row u _ 0 _ _ (0,0) hz];rfl,by rw[cell_of_row u _ 1 _ _ (0,0) hz];rfl,aj hz,aj hz⟩
theorem fO (t:Tb)(key now:Int)(f:Zv.Cf):(bV t key now f).1.start=t.start:=by
 unfold bV;split
 ·rfl
 ·split
  ·rfl
  ·split
   ·rfl
   ·rfl
theorem jH (t:Tb)(key node spent:Int):(Zv.settle t key node spent).1.start=t.start:=by
 unfold Zv.settle;split <;>rfl
section
variable {B:Nat}{w u u':World}{v:Nat}{c:Cf}{t:Tk}{ps pl p:Option Addr}{cs n d:Nat}{l:List Int}{s:Tb×Eg}
theorem QJ.on (h:QJ B w v c t ps cs pl l p n d s u)(hB:B<=w.heap.size)(hb:Below u.heap.size u u'):QJ B w v c t ps cs pl l p n d s u' :=
 ⟨(hb.block _ (ae h.box)).trans h.box,(hb.block _ (ae h.gG)).trans h.gG,h.rows.below hb,h.len,h.start,h.xK.below hb,h.step.on (Nat.le_trans hB h.step.size) hb⟩
end
theorem uO {u:World}{g o:Nat}{cs:Array Value}{z:Nat×Nat}(hb:u.heap[g]? =some (.cells cs 30 z))(y:Value):Zp.fN Zy.eV u (u.setCell ⟨g,o,none⟩ y) :=
 ⟨((Below.refl 0 u).setCell (p:=⟨g,o,none⟩) (Nat.zero_le _) y).size,fun k cs' t z' e ht=>(Below.heap_setCell _ _ _ _ (by
   rintro rfl;rw[hb] at e;simp only[Option.some.injEq,Obj.cells.injEq] at e;rw[<-e.2.1] at ht;simp[Zy.eV] at ht)).trans e⟩
theorem nK {B:Nat}{w u u':World}{v:Nat}{c:Cf}{e:Eg}(h:aM B w v c e u)(hB:B<=w.heap.size)(ho:Zp.fN Zy.eV u u')(hb:Below w.heap.size u u'):aM B w v c e u' :=
 ⟨h.ed.off ho (hb.mono hB),fun g hn hg=>(hb.block g hg).trans (h.only g hn hg),h.below.trans (hb.mono hB),Nat.le_trans h.size ho.size,fun i a b d=>by
  obtain⟨_,cs,_,_,_,_,_,h1,_⟩:=h.ed;exact(World.cell?_of_block (a:=⟨v,i,none⟩) ((ho.block v _ _ _ h1 (by simp[Zy.eV])).trans h1.symm)).trans (h.cells i a b d)⟩
theorem nL {u u':World}{g:Nat}{cs:Array Value}{z:Nat×Nat}(hb:u.heap[g]? =some (.cells cs 30 z))(hs:u.heap.size<=u'.heap.size)(hk:∀b,b≠g->u'.heap[b]? =u.heap[b]?):Zp.fN Zy.eV u u' :=
 ⟨hs,fun k cs' t z' e ht=>(hk k (by
  rintro rfl;rw[hb] at e;simp only[Option.some.injEq,Obj.cells.injEq] at e;rw[<-e.2.1] at ht;simp[Zy.eV] at ht)).trans e⟩
theorem dH {u:World}{g b:Nat}(h:b≠g)(v0 v1 v2 v3 v4:Value):(((((u.setCell ⟨g,0,none⟩ v0).setCell ⟨g,1,none⟩ v1).setCell ⟨g,2,none⟩ v2).setCell ⟨g,3,none⟩ v3).setCell ⟨g,4,none⟩ v4).heap[b]? =u.heap[b]? :=
 (Below.heap_setCell _ _ _ _ h).trans ((Below.heap_setCell _ _ _ _ h).trans ((Below.heap_setCell _ _ _ _ h).trans ((Below.heap_setCell _ _ _ _ h).trans (Below.heap_setCell _ _ _ _ h))))
theorem CV {α:Type}{l:List α}{j:Nat}(h:j<l.length)(d:α):l.getD j d∈l:=by simp[List.getD,h]
theorem yX {u u':World}{g:Nat}{T:TypeId}(hz:u.heap[g]? =some (.cells #[.int .i64 0,.int .i64 0,.slice none 0 0,.int .i64 0,.slice none 0 0] T (0,0)))(hk:∀b,b≠g->u'.heap[b]? =u.heap[b]?){p:Option Addr}{l:List Rw}(ha:∀r∈l,∀x∈r.out,1<=x.2)(hl:ar u p l):ar u' p l:=by
 have hc:∀b i,b≠g->∀v,u.cell? ⟨b,i,none⟩=some v->u'.cell? ⟨b,i,none⟩=some v:=fun b i hb v hv=>(World.cell?_of_block (a:=⟨b,i,none⟩) (hk b hb)).trans hv
 rcases hl with hl | ⟨b,o,e1,h⟩
 ·exact .inl hl
 ·refine .inr ⟨b,o,e1,fun j hj=> ?_⟩
  obtain⟨k0,k1,k2,q,d,k3,k4⟩:=h j hj;have hne:b≠g:=by
   rintro rfl;rw[cell_of_row _ b _ _ _ (0,0) hz] at k0 k1 k2;generalize o+j*4=i at k0 k1 k2
   match i,k0,k1,k2 with
   | 0,k0,k1,k2=>simp at k2
   | 1,k0,k1,k2=>simp at k1
   | 2,k0,k1,k2=>simp at k0
   | 3,k0,k1,k2=>simp at k1
   | n+4,k0,k1,k2=>simp at k1
  refine⟨hc b _ hne _ k0,hc b _ hne _ k1,hc b _ hne _ k2,q,d,hc b _ hne _ k3,?_⟩;rcases k4 with k4 | ⟨b2,o2,e2,h2⟩
  ·exact .inl k4
  ·refine .inr ⟨b2,o2,e2,fun i hi=> ?_⟩
   have h1:=ha (l.getD j aq) (CV hj _) ((l.getD j aq).out.getD i (0,0)) (CV hi _);have hne:b2≠g:=by
    rintro rfl;obtain⟨k0,k1⟩:=h2 i hi;generalize(l.getD j aq).out.getD i (0,0)=x at *;rw[cell_of_row _ b2 _ _ _ (0,0) hz] at k0 k1;generalize o2+i*2=n at k0 k1
    match n,k0,k1 with
    | 0,k0,k1 =>
      simp only[List.getElem?_toArray,List.getElem?_cons_succ,List.getElem?_cons_zero,Option.some.injEq,Value.int.injEq,true_and,Nat.zero_add] at k1;omega
    | 1,k0,k1=>simp at k1
    | 2,k0,k1=>simp at k0
    | 3,k0,k1=>simp at k1
    | n+4,k0,k1=>simp at k1
   exact⟨hc b2 _ hne _ (h2 i hi).1,hc b2 _ hne _ (h2 i hi).2⟩
theorem QJ.CW {B:Nat}{w u u':World}{v:Nat}{c:Cf}{t:Tk}{ps pl p:Option Addr}{cs n d:Nat}{l:List Int}{s:Tb×Eg}{e':Eg}(h:QJ B w v c t ps cs pl l p n d s u)(hv:v<w.heap.size)(hs:aM B u v c e' u'):QJ B w v c t ps cs pl l p n d (s.1,e') u' :=
 ⟨(hs.only _ (by omega) (ae h.box)).trans h.box,(hs.only _ (by omega) (ae h.gG)).trans h.gG,sF h.step.ed hs h.rows,h.len,h.start,yB h.step.ed hs h.xK,h.step.trans hs⟩
section
variable {u:World}{b m1 k1 m2 k2:Nat}{g hp st:Int}{q1 q2:Option Addr}{T:TypeId}(hb:u.heap[b]? =some (.cells #[.int .i64 g,.int .i64 hp,.slice q1 m1 k1,.int .i64 st,.slice q2 m2 k2] T (0,0)))
include hb
theorem sP (y:Value):((u.setCell ⟨b,3,none⟩ (.int .i64 st)).setCell ⟨b,4,none⟩ y).heap[b]? =some (.cells #[.int .i64 g,.int .i64 hp,.slice q1 m1 k1,.int .i64 st,y] T (0,0)) :=
 ai b 4 _ y (ai b 3 _ (.int .i64 st) hb)
theorem gC (y:Value){b' o:Nat}{k:IntKind}{x:Int}(hx:u.cell? ⟨b',o,none⟩=some (.int k x)):((u.setCell ⟨b,3,none⟩ (.int .i64 st)).setCell ⟨b,4,none⟩ y).cell? ⟨b',o,none⟩=some (.int k x):=by
 by_cases hne:b'=b
 ·subst hne
  rw[cell_of_row _ b' _ _ _ (0,0) hb] at hx;rw[cell_of_row _ b' _ _ _ (0,0) (sP hb y)]
  match o,hx with
  | 0,hx=>exact hx
  | 1,hx=>exact hx
  | 2,hx=>simp at hx
  | 3,hx=>exact hx
  | 4,hx=>simp at hx
  | n+5,hx=>simp at hx
 ·exact (World.cell?_of_block ((Below.heap_setCell _ _ _ _ hne).trans (Below.heap_setCell _ _ _ _ hne))).trans hx
theorem CX (y:Value){b' o:Nat}{k k':IntKind}{x x':Int}{z:Value}(h1:u.cell? ⟨b',o+1,none⟩=some (.int k x))(h2:u.cell? ⟨b',o+2,none⟩=some (.int k' x'))(h3:u.cell? ⟨b',o+3,none⟩=some z):((u.setCell ⟨b,3,none⟩ (.int .i64 st)).setCell ⟨b,4,none⟩ y).cell? ⟨b',o+3,none⟩=some z:=by
 by_cases hne:b'=b
 ·subst hne
  rw[cell_of_row _ b' _ _ _ (0,0) hb] at h1 h2
  match o,h1,h2 with
  | 0,h1,h2=>simp at h2
  | 1,h1,h2=>simp at h1
  | 2,h1,h2=>simp at h2
  | n+3,h1,h2=>simp at h2
 ·exact (World.cell?_of_block ((Below.heap_setCell _ _ _ _ hne).trans (Below.heap_setCell _ _ _ _ hne))).trans h3
theorem Fz (y:Value){p:Option Addr}{l:List Int}(hl:cX u p l):cX ((u.setCell ⟨b,3,none⟩ (.int .i64 st)).setCell ⟨b,4,none⟩ y) p l:=by
 rcases hl with hl | ⟨b',o,e1,hc⟩
 ·exact .inl hl
 ·exact .inr ⟨b',o,e1,fun j hj=>gC hb y (hc j hj)⟩
theorem wh (y:Value){p:Option Addr}{l:List Rw}(hl:ar u p l):ar ((u.setCell ⟨b,3,none⟩ (.int .i64 st)).setCell ⟨b,4,none⟩ y) p l:=by
 rcases hl with hl | ⟨b',o,e1,hc⟩
 ·exact .inl hl
 ·refine .inr ⟨b',o,e1,fun j hj=> ?_⟩
  obtain⟨k0,k1,k2,q,d,k3,k4⟩:=hc j hj;refine⟨gC hb y k0,gC hb y k1,gC hb y k2,q,d,CX hb y k1 k2 k3,?_⟩;rcases k4 with k4 | ⟨b2,o2,e2,h2⟩
  ·exact .inl k4
  ·exact .inr ⟨b2,o2,e2,fun i hi=>⟨gC hb y (h2 i hi).1,gC hb y (h2 i hi).2⟩⟩
end
theorem Au {B:Nat}{w:World}{v:Nat}{c:Cf}{e:Eg}(h:Ed B w v c e)(hB:B<=w.heap.size)(hq:c.qu<=16)(hk:c.ke<=16){node:Int}{m:Nat}(t:Tk)(gL:fE c node m t.table e)(hm:m<=660)(ps:Option Addr)(cs:Nat)(p:Option Addr)(d:Nat)(now:Int)(hn:bC now)(hr:ar w p t.table.rows) :
 Calls prog 60 #[aS t ps cs p (d+t.table.rows.length),.pointer (some ⟨v,0,none⟩),.int .i64 node,.int .i64 now] w fun x w'=>∃p' d',x=.returned (aS ⟨t.gen,t.bP,t.stamps,(aP c node t.gen now t.table e).1⟩ ps cs p' (d'+(aP c node t.gen now t.table e).1.rows.length))/\ar w' p' (aP c node t.gen now t.table e).1.rows/\aM B w v c (aP c node t.gen now t.table e).2 w':=by
 unfold aS;have hW:Below w.heap.size w ((w.alloc (.cells #[.int .i64 t.gen,.int .i64 t.bP,.slice ps t.stamps.length cs,.int .i64 t.table.start,.slice p t.table.rows.length (d+t.table.rows.length)] 30)).alloc (.cells #[.int .i64 0,.int .i64 0,.slice none 0 0,.int .i64 0,.slice none 0 0] 30)):=(cQ w _).trans ((cQ _ _).mono (cQ w _).size);have M0:=hid (((Zo.Mem.start w).box #[.int .i64 t.gen,.int .i64 t.bP,.slice ps t.stamps.length cs,.int .i64 t.table.start,.slice p t.table.rows.length (d+t.table.rows.length)] 30).box #[.int .i64 0,.int .i64 0,.slice none 0 0,.int .i64 0,.slice none 0 0] 30);simp only[Zo.size_alloc] at M0;obtain⟨x0,x1,x2,x3,x4,-⟩:=bz (M0.out.boxes 1 _ _ _ rfl);have afH:=Zv.iu gL.en;have HH:=hid (fun u (hu:Below w.heap.size w u)=>show Calls prog 112 #[.agg #[.int .i64 t.table.start,.slice p t.table.rows.length (d+t.table.rows.length)],.int .i64 node] u (Zv.r8 u (held t.table node)) from Zv.MJ t.table p d node u (hr.below hu) (by omega) (fun r hr=>by have:=(gL.en.dJ.rows r hr).len;omega))
 go_enter func60,ntmps60
 go_upto_region 1 with (fail)
 have HW:=hid hW;clear hW;generalize(w.alloc (.cells #[.int .i64 t.gen,.int .i64 t.bP,.slice ps t.stamps.length cs,.int .i64 t.table.start,.slice p t.table.rows.length (d+t.table.rows.length)] 30)).alloc (.cells #[.int .i64 0,.int .i64 0,.slice none 0 0,.int .i64 0,.slice none 0 0] 30)=W at *;have HV:=hid h;have eF:=hid hB;have ED:=hid gL;have YA:=hid hr;have N0:=hid (show aP c node t.gen now t.table e=((mJ c node t.gen now (held t.table node) (t.table,e)).1,drop (mJ c node t.gen now (held t.table node) (t.table,e)).2 t.gen) from rfl)
 have tJ:=hid (qX gL.en node);have hl2:=Zv.vY gL.en node;generalize held t.table node=l at *;have HST:=hid (fun(j:Nat) (hj:j<l.length)=>show mJ c node t.gen now (l.take (j+1)) (t.table,e)=Sb c node t.gen now (mJ c node t.gen now (l.take j) (t.table,e)) (l.getD j 0) from by
  rw[List.take_succ_eq_append_getElem hj];unfold mJ;rw[List.foldl_append];simp[List.getD,hj])
 have Bj:=hid (fun(j:Nat) (hj:j<=l.length)=>show fE c node (m+j) (mJ c node t.gen now (l.take j) (t.table,e)).1 (mJ c node t.gen now (l.take j) (t.table,e)).2 from by
  have:=oK (c:=c) (node:=node) hk (gen:=t.gen) hn (l.take j) (s:=(t.table,e)) (fun k hk=>tJ.out k (List.mem_of_mem_take hk)) ED.out
  rwa [List.length_take,Nat.min_eq_left hj] at this)
 have Eh:=hid (show mJ c node t.gen now (l.take 0) (t.table,e)=(t.table,e) from rfl)
 have FB:=hid (show mJ c node t.gen now (l.take l.length) (t.table,e)=mJ c node t.gen now l (t.table,e) by rw[List.take_length])
 clear h hB gL hr x2;go_wp2_with (go_at_call 112;(with_reducible refine(HH.out _ HW.out).mono ?_);rintro x u1 ⟨pl,cl,rfl,hi,hb⟩;have aO:=hid hb;have tV:=hid hi;clear hi hb HH)
 have HZ0:=hid (show QJ B w v c t ps cs pl l p t.table.rows.length d (mJ c node t.gen now (l.take 0) (t.table,e)) u1 from by
  rw[Eh.out];have hb:=HW.out.trans (aO.out.mono HW.out.size);refine⟨(aO.out.block _ (ae (M0.out.boxes 1 _ _ _ rfl))).trans (M0.out.boxes 1 _ _ _ rfl),(aO.out.block _ (ae (M0.out.boxes 0 _ _ _ rfl))).trans (M0.out.boxes 0 _ _ _ rfl),YA.out.below hb,rfl,rfl,?_,aM.same HV.out eF.out hb⟩;by_cases h0:l=[]
  ·exact .inl h0
  ·obtain ⟨b,o,e1,-⟩:=tV.out 0 (List.length_pos_iff.2 h0)
   refine .inr ⟨b,o,e1,fun j hj=> ?_⟩
   obtain⟨b2,o2,e2,hc⟩:=tV.out j hj;rw[e1] at e2;simp only[Option.some.injEq,Addr.mk.injEq,and_true] at e2;obtain⟨rfl,rfl⟩:=e2;exact hc)
 clear tV aO M0 x0 x1 x3 x4 YA Eh;go_loopw [10] (fun i wr=>∃(j:Nat) (p':Option Addr) (n d':Nat),j<=l.length/\i=.int .i64 (j:Int)/\Hid (QJ B w v c t ps cs pl l p' n d' (mJ c node t.gen now (l.take j) (t.table,e)) wr)) (fun i _=>l.length-(intOf i).toNat)
 case atStart=>exact ⟨0,p,_,d,by omega,rfl,HZ0⟩
 case round =>
  obtain⟨j,p',n,d',hj,rfl,hZ⟩:=hrel;have hkj:=Bj.out j hj;by_cases aC:j<l.length
  ·have bE:(j:Int)<(l.length:Int):=by omega
   have hst:=HST.out j aC;clear HST Bj FB HZ0;obtain⟨s1,hs1⟩:∃s1,s1=mJ c node t.gen now (l.take (j+1)) (t.table,e):=⟨_,rfl⟩;rw[<-hs1] at hst;have Ej:=hid hs1;clear hs1;generalize mJ c node t.gen now (l.take j) (t.table,e)=s at *;obtain⟨bl,ol,rfl,hcell⟩:∃b o,pl=some ⟨b,o,none⟩/\wr.cell? ⟨b,o+j,none⟩=some (.int .i64 (l.getD j 0)):=by
    rcases hZ.out.xK with h0 | ⟨b,o,e1,hc⟩
    ·rw [h0] at aC;simp at aC
    ·exact ⟨b,o,e1,hc j aC⟩
   have xL:bC (l.getD j 0):=tJ.out _ (by simp[List.getD,aC])
   generalize l.getD j 0=key at *;obtain⟨x0,x1,x2,x3,x4,-⟩:=bz hZ.out.box;obtain⟨pf,kf,hrt,y0,y1,y2,y3,y4,y5,y6,y7,y8⟩:=hZ.out.step.ed.dW;have QK:=Zv.yK hkj.en (key:=key) (now:=now) xL hn (f:=gW c) hk;have Ix:Hid (∀u,Below wr.heap.size wr u->Calls prog 62 #[.agg #[.int .i64 t.table.start,.slice p' n (d'+n)],.int .i64 key,.int .i64 now,.agg #[.int .i64 c.n,.int .i64 c.sk,.int .i64 c.tl,.int .i64 c.va,.int .i64 c.lo,.int .i64 c.he,.int .i64 c.ke,.int .i64 c.qu,.slice pf c.zs.length kf]] u fun e u'=>∃px dx,e=.returned (.tuple #[.agg #[.int .i64 t.table.start,.slice px (bV s.1 key now (gW c)).1.rows.length (dx+(bV s.1 key now (gW c)).1.rows.length)],.int .i64 (bV s.1 key now (gW c)).2])/\ar u' px (bV s.1 key now (gW c)).1.rows/\Below u.heap.size u u'):=hid (fun u hu=>by
    have Sa:=Zv.iu hkj.en;have:=Zv.BS s.1 p' d' key now (gW c) pf kf u (hZ.out.rows.below hu) ((wb hrt).below hu) (by omega) (fun r hr=>by have:=(hkj.en.dJ.rows r hr).len;omega)
    have uy:=fO s.1 key now (gW c);generalize bV s.1 key now (gW c)=MT at *;rw[<-hZ.out.start,<-hZ.out.len];refine this.mono ?_;rintro e u' ⟨px,dx,rfl,h2,h3⟩;exact⟨px,dx,by rw[<-uy];rfl,h2,h3⟩)
   have hst:s1=((Zv.settle (bV s.1 key now (gW c)).1 key node (bB s.2 key t.gen).2).1,(bB s.2 key t.gen).1):=hst;have uy:=(fO s.1 key now (gW c)).trans hZ.out.start;generalize bV s.1 key now (gW c)=MT at *;have HY:=hid (fun u (hu:Below wr.heap.size wr u)=>show Below wr.heap.size wr u/\u.cell? ⟨w.heap.size,3,none⟩=some (.int .i64 t.table.start)/\u.cell? ⟨w.heap.size,4,none⟩=some (.slice p' n (d'+n))/\u.cell? ⟨bl,ol+j,none⟩=some (.int .i64 key)/\u.cell? ⟨v,0,none⟩=some (.int .i64 c.n)/\u.cell? ⟨v,1,none⟩=some (.int .i64 c.sk)/\u.cell? ⟨v,2,none⟩=some (.int .i64 c.tl)/\u.cell? ⟨v,3,none⟩=some (.int .i64 c.va)/\u.cell? ⟨v,4,none⟩=some (.int .i64 c.lo)/\u.cell? ⟨v,5,none⟩=some (.int .i64 c.he)/\u.cell? ⟨v,6,none⟩=some (.int .i64 c.ke)/\u.cell? ⟨v,7,none⟩=some (.int .i64 c.qu)/\u.cell? ⟨v,8,none⟩=some (.slice pf c.zs.length kf) from
    ⟨hu,af x3 hu,af x4 hu,af hcell hu,af y0 hu,af y1 hu,af y2 hu,af y3 hu,af y4 hu,af y5 hu,af y6 hu,af y7 hu,af y8 hu⟩)
   have z0:=HY.out _ (Below.refl wr.heap.size wr).drew;have HX:=hid (show ∀u,Below wr.heap.size wr u->QJ B w v c t ps cs (some ⟨bl,ol,none⟩) l p' n d' s u from fun u hu=>hZ.out.on eF.out hu)
   clear x0 x1 x2 x3 x4 y0 y1 y2 y3 y4 y5 y6 y7 y8 hcell;go_upto_region 5 with (fail)
   go_cut [11] (fun a wx=>Km wr wx a t.table.start MT.1.rows.length MT.1.rows)
   case first =>
    go_region_held3 (fun u=>Below wr.heap.size wr u/\u.cell? ⟨w.heap.size,3,none⟩=some (.int .i64 t.table.start)/\u.cell? ⟨w.heap.size,4,none⟩=some (.slice p' n (d'+n))/\u.cell? ⟨bl,ol+j,none⟩=some (.int .i64 key)/\u.cell? ⟨v,0,none⟩=some (.int .i64 c.n)/\u.cell? ⟨v,1,none⟩=some (.int .i64 c.sk)/\u.cell? ⟨v,2,none⟩=some (.int .i64 c.tl)/\u.cell? ⟨v,3,none⟩=some (.int .i64 c.va)/\u.cell? ⟨v,4,none⟩=some (.int .i64 c.lo)/\u.cell? ⟨v,5,none⟩=some (.int .i64 c.he)/\u.cell? ⟨v,6,none⟩=some (.int .i64 c.ke)/\u.cell? ⟨v,7,none⟩=some (.int .i64 c.qu)/\u.cell? ⟨v,8,none⟩=some (.slice pf c.zs.length kf))
     (first | with_reducible assumption | ((with_reducible refine HY.out _ ?_);first | with_reducible exact aO.out | with_reducible exact iy wr _ | with_reducible exact yU aO.out _ | with_reducible exact yV aO.out _ _)) (first
     |(go_at_call 62;(with_reducible refine(Ix.out _ (iy wr _)).mono ?_);rintro x u1 ⟨px,dx,rfl,hr1,hb1⟩;have uz:=hid hr1;have fD:=hid hb1;obtain⟨e0,e1,f0,f1⟩:=iN hb1;have aO:=hid ((iy wr _).trans (hb1.mono (iy wr _).size));clear hr1 hb1)
     |(go_at_call 62;(with_reducible refine(Ix.out _ (Below.refl wr.heap.size wr).drew).mono ?_);rintro x u1 ⟨px,dx,rfl,hr1,hb1⟩;have uz:=hid hr1;have aO:=hid (kQ hb1);clear hr1 hb1))
    all_goals (go_wp2_with fail;go_meet;first | exact Aq aO.out uz.out | exact Ar fD.out uz.out)
   case rest =>
    obtain⟨gx,px,dx,rfl,gH,hgx,N1,lQ⟩:=hcut;have hvw:=HV.out.lt;have CY:=hid (HX.out _ lQ);obtain⟨hL,hQ,hD⟩:=hkj.lens hq (by omega)
    have Jj:Hid (∀u,Below wc.heap.size wc u->Calls prog 113 #[.pointer (some ⟨v,0,none⟩),.int .i64 key,.int .i64 t.gen] u fun x w'=>x=.returned (.int .i64 (bB s.2 key t.gen).2)/\aM B wc v c (bB s.2 key t.gen).1 w'):=hid (fun u hu=>by
     have Vc:=Nat.le_trans eF.out CY.out.step.size;refine(Zy.pI (CY.out.step.ed.below Vc hu) (Nat.le_trans Vc hu.size) ⟨by omega,by omega,by omega⟩ key t.gen).mono ?_
     rintro x w' ⟨h1,h2⟩;exact⟨h1,(aM.same CY.out.step.ed Vc hu).trans h2⟩)
    generalize bB s.2 key t.gen=CL at *;have hss:=(jH MT.1 key node CL.2).trans uy;have Wt:Hid (∀u,ar u px MT.1.rows->Calls prog 114 #[.agg #[.int .i64 t.table.start,.slice px MT.1.rows.length (dx+MT.1.rows.length)],.int .i64 key,.int .i64 node,.int .i64 CL.2] u fun e u'=>∃p2 d2,e=.returned (.tuple #[.agg #[.int .i64 t.table.start,.slice p2 (Zv.settle MT.1 key node CL.2).1.rows.length (d2+(Zv.settle MT.1 key node CL.2).1.rows.length)],.int .i64 (Zv.settle MT.1 key node CL.2).2])/\ar u' p2 (Zv.settle MT.1 key node CL.2).1.rows/\Below u.heap.size u u'):=hid (fun u hu=>by
     have:=Zv.Ak QK.dJ (by omega) px dx xL node CL.2 u hu
     generalize Zv.settle MT.1 key node CL.2=ST at *;rw[<-uy];refine this.mono ?_;rintro e u' ⟨p2,d2,rfl,h2,h3⟩;exact⟨p2,d2,by rw[uy,<-hss];rfl,h2,h3⟩)
    generalize Zv.settle MT.1 key node CL.2=ST at *;have Wu:=hid (fun u (hu:Below wc.heap.size wc u)=>show u.cell? ⟨bl,ol+j,none⟩=some (.int .i64 key)/\u.cell? ⟨w.heap.size,0,none⟩=some (.int .i64 t.gen) from
     ⟨af (HY.out _ lQ).2.2.2.1 hu,af (bz CY.out.box).1 hu⟩)
    have z1:=Wu.out _ (Below.refl wc.heap.size wc);have z2:=Wu.out _ (Below.refl wc.heap.size wc).drew;clear Ix HY HX;go_upto_region 6 with (fail)
    go_cut [13] (fun a wx=>a=.int .i64 CL.2/\aM B wc v c CL.1 wx)
    case first =>
     go_region_held3 (fun u=>u.cell? ⟨bl,ol+j,none⟩=some (.int .i64 key)/\u.cell? ⟨w.heap.size,0,none⟩=some (.int .i64 t.gen))
      (first | with_reducible assumption) (first | (go_at_call 113;(with_reducible refine(Jj.out _ (Below.refl wc.heap.size wc).drew).mono ?_);rintro x u1 ⟨rfl,hs1⟩;have Ec:=hid hs1;have z3:=And.intro (cD CY.out.step.ed hs1 z1.1) (cD CY.out.step.ed hs1 z1.2);clear hs1))
     all_goals (go_wp2_with (fail))
     all_goals go_meet
     all_goals exact⟨rfl,Ec.out⟩
    case rest =>
     obtain⟨rfl,hsc⟩:=hcut;have HZD:=hid (CY.out.CW hvw hsc);have hrd:=sF CY.out.step.ed hsc N1;have hbd:=(hsc.only gx (by have:=CY.out.step.size;have:=ae gH;have:=hZ.out.step.size;omega) (ae gH)).trans gH
     have z4:=And.intro (cD CY.out.step.ed hsc z1.1) (cD CY.out.step.ed hsc z1.2);obtain⟨x0,x1,x2,x3,x4,-⟩:=bz HZD.out.box;clear Jj Wu z1 z2 gH N1 lQ;have Vd:=hid (fun u (hu:Below wc.heap.size wc u)=>show Below wc.heap.size wc u/\u.cell? ⟨gx,0,none⟩=some (.int .i64 t.table.start)/\u.cell? ⟨gx,1,none⟩=some (.slice px MT.1.rows.length (dx+MT.1.rows.length))/\u.cell? ⟨bl,ol+j,none⟩=some (.int .i64 key) from
      ⟨hu,af (by rw[cell_of_row _ gx _ _ _ (0,0) hbd];rfl) hu,af (by rw[cell_of_row _ gx _ _ _ (0,0) hbd];rfl) hu,af z4.1 hu⟩)
     have Ve:=hid (fun u (hu:Below wc.heap.size wc u)=>hrd.below hu)
     have z5:=Vd.out _ (Below.refl wc.heap.size wc).drew;clear hbd x0 x1 x2 x3 x4 hrd z4;go_upto_region 7 with (fail)
     go_cut [14] (fun a wx=>Km wc wx a t.table.start ST.1.rows.length ST.1.rows)
     case first =>
      go_region_held3 (fun u=>Below wc.heap.size wc u/\u.cell? ⟨gx,0,none⟩=some (.int .i64 t.table.start)/\u.cell? ⟨gx,1,none⟩=some (.slice px MT.1.rows.length (dx+MT.1.rows.length))/\u.cell? ⟨bl,ol+j,none⟩=some (.int .i64 key))
       (first | with_reducible assumption | ((with_reducible refine Vd.out _ ?_);first | with_reducible exact aO.out | with_reducible exact iy wc _ | with_reducible exact yU aO.out _ | with_reducible exact yV aO.out _ _)) (first
      |(go_at_call 114;(with_reducible refine(Wt.out _ (Ve.out _ (iy wc _))).mono ?_);rintro x u1 ⟨py,dy,rfl,hr1,hb1⟩;have uz:=hid hr1;have fD:=hid hb1;obtain⟨e0,e1,f0,f1⟩:=iN hb1;have aO:=hid ((iy wc _).trans (hb1.mono (iy wc _).size));clear hr1 hb1)
      |(go_at_call 114;(with_reducible refine(Wt.out _ (Ve.out _ (Below.refl wc.heap.size wc).drew)).mono ?_);rintro x u1 ⟨py,dy,rfl,hr1,hb1⟩;have uz:=hid hr1;have aO:=hid (kQ hb1);clear hr1 hb1))
      all_goals (go_wp2_with (fail))
      all_goals go_meet
      all_goals first | exact Aq aO.out uz.out | exact Ar fD.out uz.out
     case rest =>
      obtain⟨gy,py,dy,rfl,hby,hgy,hry,Wv⟩:=hcut;have Kn:=hid (HZD.out.on eF.out Wv);obtain⟨x0,x1,x2,x3,x4,ff⟩:=bz Kn.out.box;have y0:wc.cell? ⟨gy,0,none⟩=_:=cell_of_row _ gy 0 _ _ (0,0) hby;have y1:wc.cell? ⟨gy,1,none⟩=_:=cell_of_row _ gy 1 _ _ (0,0) hby;go_upto_region 8 with (fail)
      go_wp2_with (fail)
      refine⟨⟨j+1,py,ST.1.rows.length,dy,by omega,by simp,hid ?_⟩,by simp only[intOf];omega⟩
      rw[<-Ej.out,hst];exact⟨sP Kn.out.box _,(Below.heap_setCell _ _ _ _ (by simp)).trans ((Below.heap_setCell _ _ _ _ (by simp)).trans Kn.out.gG),wh Kn.out.box _ hry,rfl,hss,Fz Kn.out.box _ Kn.out.xK,
       nK Kn.out.step eF.out ((uO Kn.out.box _).trans (uO (ai w.heap.size 3 _ _ Kn.out.box) _)) (((Below.refl _ wc).setCell (p:=⟨w.heap.size,3,none⟩) (Nat.le_refl _) _).setCell (p:=⟨w.heap.size,4,none⟩) (Nat.le_refl _) _)⟩
  ·have bE:¬(j:Int)<(l.length:Int):=by omega
   have Qd:j=l.length:=by omega
   subst Qd;rw[FB.out] at hZ hkj;clear HST Bj FB HZ0;generalize mJ c node t.gen now l (t.table,e)=s at *;obtain⟨x0,x1,x2,x3,x4,-⟩:=bz hZ.out.box;obtain⟨hL,hQ,hD⟩:=hkj.lens hq (by omega)
   have UX:=Nat.le_trans eF.out hZ.out.step.size;have CD:=hid (Ch (hZ.out.step.ed.below UX (Below.refl wr.heap.size wr).drew) UX (by omega) t.gen)
   have z0:=af x0 (Below.refl wr.heap.size wr).drew;go_upto_region 9 with (fail)
   go_cut [67] (fun _ wx=>aM B wr v c (drop s.2 t.gen) wx)
   case first =>
    go_region_held3 (fun u=>u.cell? ⟨w.heap.size,0,none⟩=some (.int .i64 t.gen)) (first | with_reducible assumption) (first | (go_at_call 115;(with_reducible refine CD.out.mono ?_);rintro x u2 ⟨rfl,hs2⟩;have hs3:=(aM.same hZ.out.step.ed UX (Below.refl wr.heap.size wr).drew).trans hs2;have Ec:=hid hs3;have z1:=cD hZ.out.step.ed hs3 x0;clear hs2 hs3))
    all_goals (go_wp2_with (fail))
    all_goals go_meet
    all_goals exact Ec.out
   case rest =>
    have CZ:=hid (hZ.out.CW HV.out.lt hcut);clear x0 x1 x2 x3 x4 z0;obtain⟨z0,z1,z2,z3,z4,-⟩:=bz CZ.out.box;obtain⟨q0,q1,q2,q3,q4,gg⟩:=bz CZ.out.gG;go_upto_region 10 with (fail)
    go_wp2_with (fail)
    refine bodyPost_ret (v:=.agg #[.int .i64 t.gen,.int .i64 t.bP,.slice ps t.stamps.length cs,.int .i64 t.table.start,.slice p' n (d'+n)]) (by simp[results,results60,go_sem,q0,q1,q2,q3,q4]) rfl ⟨p',⟨d',?_⟩,?_,?_⟩
    ·rw [N0.out]
     simp only;rw[hZ.out.len,hZ.out.start]
    ·rw [N0.out]
     exact yX CZ.out.gG (fun b hb=>dH hb _ _ _ _ _) (fun r hr x hx=>((hkj.en.dJ.rows r hr).out x hx).2.1) CZ.out.rows
    ·rw [N0.out]
     have hb:Below w.heap.size wc (((((wc.setCell ⟨w.heap.size+1,0,none⟩ (.int .i64 t.gen)).setCell ⟨w.heap.size+1,1,none⟩ (.int .i64 t.bP)).setCell ⟨w.heap.size+1,2,none⟩ (.slice ps t.stamps.length cs)).setCell ⟨w.heap.size+1,3,none⟩ (.int .i64 t.table.start)).setCell ⟨w.heap.size+1,4,none⟩ (.slice p' n (d'+n))) :=
      ((((((Below.refl _ wc).setCell (p:=⟨w.heap.size+1,0,none⟩) (Nat.le_succ _) _).setCell (p:=⟨w.heap.size+1,1,none⟩) (Nat.le_succ _) _).setCell (p:=⟨w.heap.size+1,2,none⟩) (Nat.le_succ _) _).setCell (p:=⟨w.heap.size+1,3,none⟩) (Nat.le_succ _) _).setCell (p:=⟨w.heap.size+1,4,none⟩) (Nat.le_succ _) _)
     exact nK CZ.out.step eF.out (nL CZ.out.gG hb.size fun b hb=>dH hb _ _ _ _ _) hb
open Zy (Cf Eg Ed An aM bD bB drop dL eC ib)
theorem sQ {c:Cf}{e:Eg}:∀x∈dL c e,bC x.1:=by
 intro x hx;unfold dL at hx;obtain⟨h1,h2⟩:=List.mem_filter.1 hx;obtain⟨k,-,rfl⟩:=List.mem_map.1 h1;simp only[decide_eq_true_eq] at h2;unfold Zy.aK at h2;by_cases h:0<=c.fT k
 ·unfold Cf.fT at h
  split at h
  ·rename_i h3
   simp only[bC];omega
  ·omega
 ·rw [if_neg h] at h2
  omega
theorem sR {c:Cf}{e:Eg}(hq:e.Q.length<=16)(hd:e.D.length<=700):(dL c e).length<=960:=by
 refine Nat.le_trans (Zy.sG c e (Zy.aR e)) (Nat.le_trans (Zy.jL _ _) ?_);have:=Zu.fB e.Q;have:=Zz.fB e.D;omega
theorem sS (e:Eg)(x:Zw.Lz)(now:Int):(Zy.aQ e x now).2.length<=e.Q.length:=by
 unfold Zy.aQ;split
 ·exact Nat.le_trans (Zy.vO x.key now (Zu.of e.Q x.key) ⟨(Zw.put e.L x).1,e.Q,e.D⟩) (Zu.lR e.Q x.key)
 ·exact Nat.zero_le _
theorem pT (e:Eg)(k fX:Int):(eC e k fX).2.length<=e.Q.length:=by
 unfold eC;rw[Zy.Ad];exact Zu.lR e.Q k
theorem QL (c:Cf)(node gen now:Int)(s:Gs)(x:Int×Int):(CM c node gen now s x).out.length<=s.out.length+s.e.Q.length:=by
 unfold CM;split
 ·rw [List.length_append]
  have:=pT s.e x.1 4;omega
 ·split
  ·rw [List.length_append]
   have:=sS s.e (lz c x.1 gen (Zv.aQ (bV s.t x.1 now (gW c)).1 x.1 node x.2).2 now) now;omega
  ·simp
theorem FC (c:Cf)(node gen now:Int)(l:List (Int×Int))(s:Gs){j:Nat}(hj:j<l.length):mK c node gen now (l.take (j+1)) s=CM c node gen now (mK c node gen now (l.take j) s) (l.getD j (0,0)):=by
 rw[List.take_succ_eq_append_getElem hj];unfold mK;rw[List.foldl_append];simp[List.getD,hj]
theorem uP {c:Cf}{node:Int}{m:Nat}(hc:c.ke<=16)(hq:c.qu<=16)(hm:m<=700){gen now:Int}(hg:bC gen)(hn:bC now){l:List (Int×Int)}{s:Gs}(hw:∀x∈l,bC x.1)(h:fE c node m s.t s.e):∀j,j<=l.length->(mK c node gen now (l.take j) s).out.length<=s.out.length+16*j
 | 0,_=>by simp[mK]
 | j+1,hj=>by
   have ih:=uP hc hq hm hg hn hw h j (by omega)
   have hk:=lH (c:=c) (node:=node) hc hg hn (l.take j) (s:=s) (fun x hx=>hw x (List.mem_of_mem_take hx)) h
   rw[FC c node gen now l s (by omega)]
   have h1:=QL c node gen now (mK c node gen now (l.take j) s) (l.getD j (0,0));have h2:=(hk.lens hq hm).2.1;omega
def wj (C:Nat)(w:World)(p:Option Addr)(l:List Int):Prop:=l=[]∨∃b o,p=some ⟨b,o,none⟩/\b<C/\∀j,j<l.length->w.cell? ⟨b,o+j,none⟩=some (.int .i64 (l.getD j 0))
def wk (C:Nat)(w:World)(p:Option Addr)(l:List (Int×Int)):Prop:=l=[]∨∃b o,p=some ⟨b,o,none⟩/\b<C/\∀j,j<l.length->w.cell? ⟨b,o+j*2,none⟩=some (.int .i64 (l.getD j (0,0)).1)/\w.cell? ⟨b,o+j*2+1,none⟩=some (.int .i64 (l.getD j (0,0)).2)
theorem wj.rest {C:Nat}{w:World}{p:Option Addr}{l:List Int}(h:wj C w p l):cX w p l:=by
 rcases h with h | ⟨b,o,e,-,hc⟩
 ·exact .inl h
 ·exact .inr ⟨b,o,e,hc⟩
theorem TT {w:World}{p:Option Addr}{l:List Int}(h:cX w p l):wj w.heap.size w p l:=by
 rcases h with h | ⟨b,o,e,hc⟩
 ·exact .inl h
 ·by_cases h0:l=[]
  ·exact .inl h0
  ·exact .inr ⟨b,o,e,World.block_lt_of_cell? _ _ (hc 0 (List.length_pos_iff.2 h0)),hc⟩
theorem QM {w:World}{p:Option Addr}{l:List (Int×Int)}(h:Zp.aL ib w p l):wk w.heap.size w p l:=by
 rcases h with h | ⟨b,o,e,hc⟩
 ·exact .inl h
 ·by_cases h0:l=[]
  ·exact .inl h0
  ·have hp:∀j,j<l.length->w.cell? ⟨b,o+j*2,none⟩=some (.int .i64 (l.getD j (0,0)).1)/\w.cell? ⟨b,o+j*2+1,none⟩=some (.int .i64 (l.getD j (0,0)).2):=fun j hj=>⟨hc j hj 0 _ rfl,hc j hj 1 _ rfl⟩
   exact .inr ⟨b,o,e,World.block_lt_of_cell? _ _ (hp 0 (List.length_pos_iff.2 h0)).1,hp⟩
section
variable {C:Nat}{w w':World}{p:Option Addr}
theorem wj.bM {l:List Int}(h:wj C w p l)(hk:∀{b o:Nat}{x:Int},b<C->w.cell? ⟨b,o,none⟩=some (.int .i64 x)->w'.cell? ⟨b,o,none⟩=some (.int .i64 x)):wj C w' p l:=by
 rcases h with h | ⟨b,o,e,hb,hc⟩
 ·exact .inl h
 ·exact .inr ⟨b,o,e,hb,fun j hj=>hk hb (hc j hj)⟩
theorem wk.bM {l:List (Int×Int)}(h:wk C w p l)(hk:∀{b o:Nat}{x:Int},b<C->w.cell? ⟨b,o,none⟩=some (.int .i64 x)->w'.cell? ⟨b,o,none⟩=some (.int .i64 x)):wk C w' p l:=by
 rcases h with h | ⟨b,o,e,hb,hc⟩
 ·exact .inl h
 ·exact .inr ⟨b,o,e,hb,fun j hj=>⟨hk hb (hc j hj).1,hk hb (hc j hj).2⟩⟩
end
theorem qY {u:World}{g:Nat}{cs0 cs1 yr TU Ko:Value}{T:TypeId}(hb:u.heap[g]? =some (.cells #[cs0,cs1,yr,TU,Ko] T (0,0)))(v0 v1 v2 v3 v4:Value):(((((u.setCell ⟨g,0,none⟩ v0).setCell ⟨g,1,none⟩ v1).setCell ⟨g,2,none⟩ v2).setCell ⟨g,3,none⟩ v3).setCell ⟨g,4,none⟩ v4).heap[g]? =some (.cells #[v0,v1,v2,v3,v4] T (0,0)) :=
 ai g 4 _ v4 (ai g 3 _ v3 (ai g 2 _ v2 (ai g 1 _ v1 (ai g 0 _ v0 hb))))
theorem gm {u:World}{g C:Nat}(h:C<=g)(v0 v1 v2 v3 v4:Value):Below C u (((((u.setCell ⟨g,0,none⟩ v0).setCell ⟨g,1,none⟩ v1).setCell ⟨g,2,none⟩ v2).setCell ⟨g,3,none⟩ v3).setCell ⟨g,4,none⟩ v4) :=
 ((((((Below.refl _ u).setCell (p:=⟨g,0,none⟩) h _).setCell (p:=⟨g,1,none⟩) h _).setCell (p:=⟨g,2,none⟩) h _).setCell (p:=⟨g,3,none⟩) h _).setCell (p:=⟨g,4,none⟩) h _)
theorem C0 {u u':World}{g:Nat}{p:Option Addr}{l:List Int}(hk:∀b,b≠g->u'.heap[b]? =u.heap[b]?)(hp:∀a,p=some a->a.block≠g)(hl:cX u p l):cX u' p l:=by
 rcases hl with hl | ⟨b,o,rfl,hc⟩
 ·exact .inl hl
 ·exact .inr ⟨b,o,rfl,fun j hj=>(World.cell?_of_block (a:=⟨b,o+j,none⟩) (hk b (hp _ rfl))).trans (hc j hj)⟩
theorem Kq (c:Cf)(node gen now:Int)(s:Tb×Eg)(key:Int):(Sb c node gen now s key).1.start=s.1.start:=(jH _ _ _ _).trans (fO _ _ _ _)
theorem yY (c:Cf)(node gen now:Int):∀(l:List Int)(s:Tb×Eg),(mJ c node gen now l s).1.start=s.1.start
 | [],_=>rfl
 | k :: l,s=>(yY c node gen now l (Sb c node gen now s k)).trans (Kq c node gen now s k)
theorem kZ (c:Cf)(node gen now:Int)(t:Tb)(e:Eg):(aP c node gen now t e).1.start=t.start:=yY c node gen now (held t node) (t,e)
structure Iy (B:Nat)(w:World)(v:Nat)(c:Cf)(C gu:Nat)(gen bP start:Int)(st:List Int)(ps:Option Addr)(cs:Nat)(pl:Option Addr)(l:List (Int×Int))(p:Option Addr)(n d:Nat)(vo:Value)(s:Gs)(u:World):Prop where
 box:u.heap[gu]? =some (.cells #[.int .i64 gen,.int .i64 bP,.slice ps st.length cs,.int .i64 start,.slice p n (d+n)] 30 (0,0))
 gG:u.heap[w.heap.size+1]? =some (.cells #[.int .i64 0,.int .i64 0,.slice none 0 0,.int .i64 0,.slice none 0 0] 30 (0,0))
 rows:ar u p s.t.rows
 len:s.t.rows.length=n
 start:s.t.start=start
 stamps:wj C u ps st
 xK:wk C u pl l
 out:gA C u vo s.out
 step:aM B w v c s.e u
 size:C<=u.heap.size
structure Iz (w:World)(v C gu:Nat):Prop where
 v:v<w.heap.size
 lo:w.heap.size<=gu
 hi:gu<C
 gG:w.heap.size+1<C
 ne:w.heap.size+1≠gu
section
variable {B:Nat}{w u u':World}{v:Nat}{c:Cf}{C gu:Nat}{gen bP start:Int}{st:List Int}{ps pl p:Option Addr}{cs n d:Nat}{l:List (Int×Int)}{vo:Value}{s:Gs}
theorem Iy.on (h:Iy B w v c C gu gen bP start st ps cs pl l p n d vo s u)(hB:B<=w.heap.size)(hb:Below u.heap.size u u'):Iy B w v c C gu gen bP start st ps cs pl l p n d vo s u' :=
 ⟨(hb.block _ (ae h.box)).trans h.box,(hb.block _ (ae h.gG)).trans h.gG,h.rows.below hb,h.len,h.start,h.stamps.bM fun _ hc=>af hc hb,h.xK.bM fun _ hc=>af hc hb,h.out.on hb,h.step.on (Nat.le_trans hB h.step.size) hb,Nat.le_trans h.size hb.size⟩
theorem Iy.CW {e':Eg}(h:Iy B w v c C gu gen bP start st ps cs pl l p n d vo s u)(ha:Iz w v C gu)(hs:aM B u v c e' u'):Iy B w v c C gu gen bP start st ps cs pl l p n d vo ⟨s.t,e',s.out⟩ u' :=
 ⟨(hs.only _ (by have:=ha.v;have:=ha.lo;omega) (ae h.box)).trans h.box,(hs.only _ (by have:=ha.v;omega) (ae h.gG)).trans h.gG,sF h.step.ed hs h.rows,h.len,h.start,h.stamps.bM fun _ hc=>cD h.step.ed hs hc,h.xK.bM fun _ hc=>cD h.step.ed hs hc,
   h.out.bM fun g hg ⟨_,hc⟩=>hs.only g (by have:=ha.v;have:=ha.lo;have:=ha.hi;omega) (ae hc),h.step.trans hs,Nat.le_trans h.size hs.size⟩
theorem Iy.Qq {Bl:Value}{k:List An}(h:Iy B w v c C gu gen bP start st ps cs pl l p n d vo s u)(ha:Iz w v C gu)(hB:B<=w.heap.size)(hr:cI 0 s.t)(ho:gA C u' Bl (s.out++k))(hk:Zp.bS [60] u u')(hb:Below C u u')(hs:gR u u'):Iy B w v c C gu gen bP start st ps cs pl l p n d Bl ⟨s.t,s.e,s.out++k⟩ u' :=
 have hc:∀{b o:Nat} {x:Int},b<C->u.cell? ⟨b,o,none⟩=some (.int .i64 x)->u'.cell? ⟨b,o,none⟩=some (.int .i64 x):=fun {b o x} hb2 hx=>(World.cell?_of_block (a:=⟨b,o,none⟩) (hb.block b hb2)).trans hx
 ⟨(hb.block _ ha.hi).trans h.box,(hb.block _ ha.gG).trans h.gG,hs.rows (fun r hr2 x hx=>((hr.dJ.rows r hr2).out x hx).2.1) h.rows,h.len,h.start,h.stamps.bM hc,h.xK.bM hc,ho,h.step.kept hk (hb.mono (by have:=ha.gG;omega)) hB,Nat.le_trans h.size hk.size⟩
theorem Iy.store {T:Tb}{p':Option Addr}{d':Nat}(h:Iy B w v c C gu gen bP start st ps cs pl l p n d vo s u)(ha:Iz w v C gu)(hB:B<=w.heap.size)(hr:ar u p' T.rows)(hT:T.start=start):Iy B w v c C gu gen bP start st ps cs pl l p' T.rows.length d' vo ⟨T,s.e,s.out⟩ ((u.setCell ⟨gu,3,none⟩ (.int .i64 start)).setCell ⟨gu,4,none⟩ (.slice p' T.rows.length (d'+T.rows.length))):=by
 have hne:∀b,b≠gu->((u.setCell ⟨gu,3,none⟩ (.int .i64 start)).setCell ⟨gu,4,none⟩ (.slice p' T.rows.length (d'+T.rows.length))).heap[b]? =u.heap[b]? :=fun b hb=>(Below.heap_setCell _ _ _ _ hb).trans (Below.heap_setCell _ _ _ _ hb)
 exact⟨sP h.box _,(hne _ ha.ne).trans h.gG,wh h.box _ hr,rfl,hT,h.stamps.bM fun _ hc=>gC h.box _ hc,h.xK.bM fun _ hc=>gC h.box _ hc,h.out.bM fun g hg2 _=>hne g (by have:=ha.hi;omega),
  nK h.step hB ((uO h.box _).trans (uO (ai gu 3 _ _ h.box) _)) (((Below.refl _ u).setCell (p:=⟨gu,3,none⟩) ha.lo _).setCell (p:=⟨gu,4,none⟩) ha.lo _),Nat.le_trans h.size (((Below.refl _ u).setCell (p:=⟨gu,3,none⟩) ha.lo _).setCell (p:=⟨gu,4,none⟩) ha.lo _).size⟩
theorem jg (t:Tb)(key node aF:Int):(Zv.aQ t key node aF).1.start=t.start:=by
 unfold Zv.aQ;split <;>rfl
end
open Zx (Rw Tb Tk aq cG bn)
open Zq (cX ae)
open Zy (Cf)
theorem uQ (w:World)(a b:Obj):Below w.heap.size w ((w.alloc a).alloc b):=((Below.refl _ w).alloc (Nat.le_refl _) a).trans (((Below.refl _ (w.alloc a)).alloc (Nat.le_refl _) b).mono ((Below.refl _ w).alloc (Nat.le_refl _) a).size)
theorem l7 (t:Tk)(ps:Option Addr)(cs:Nat)(p:Option Addr)(d:Nat)(node now:Int)(c:Cf)(pf:Option Addr)(kf:Nat)(w:World)(hst:cX w ps t.stamps)(hr:Zx.ar w p t.table.rows)(hn:t.stamps.length<=1000)(hs:Zx.tI t.table.rows)(hz:Zm.kH w pf c.zs)(hl:c.zs.length<=100) :
 Calls prog 16 #[aS t ps cs p d,.int .i64 node,.int .i64 now,c.val pf kf] w (cG w (right c t node now)):=by
 have HT:=hid fun(u:World) (hu:Below w.heap.size w u)=>Zx.Jv t ps p cs d u (by omega) (hst.below hu) (hr.below hu) hs
 have HC:=hid fun(u:World) (hu:Below w.heap.size w u)=>show Calls prog 34 #[.agg #[.int .i64 c.n,.int .i64 c.sk,.int .i64 c.tl,.int .i64 c.va,.int .i64 c.lo,.int .i64 c.he,.int .i64 c.ke,.int .i64 c.qu,.slice pf c.zs.length kf]] u fun e w'=>e=.returned (.int .i64 c.bI)/\Below u.heap.size u w' from Zm.qO c.n c.sk c.tl c.va c.lo c.he c.ke c.qu pf c.zs kf u hl (hz.Ij hu)
 have b9:bn t=false∨(bn t=true/\¬c.bI=0)∨(bn t=true/\c.bI=0/\¬(t.stamps.length:Int)=c.n)∨(bn t=true/\c.bI=0/\(t.stamps.length:Int)=c.n/\node<0)∨(bn t=true/\c.bI=0/\(t.stamps.length:Int)=c.n/\0<=node/\c.n<=node)∨(bn t=true/\c.bI=0/\(t.stamps.length:Int)=c.n/\0<=node/\node<c.n/\now<0)∨(bn t=true/\c.bI=0/\(t.stamps.length:Int)=c.n/\0<=node/\node<c.n/\0<=now/\4611686018427387904<=now)∨(bn t=true/\c.bI=0/\(t.stamps.length:Int)=c.n/\0<=node/\node<c.n/\0<=now/\now<4611686018427387904):=by
  cases bn t
  ·exact .inl rfl
  ·by_cases h1:c.bI=0
   ·by_cases h2:(t.stamps.length:Int)=c.n
    ·simp only[h1,h2]
     have h3:node<0∨(0<=node/\c.n<=node)∨(0<=node/\node<c.n/\now<0)∨(0<=node/\node<c.n/\0<=now/\4611686018427387904<=now)∨(0<=node/\node<c.n/\0<=now/\now<4611686018427387904):=by omega
     simpa using h3
    ·simp [h1,h2]
   ·simp [h1]
 have hR:∀b,(b=(bn t&&decide (c.bI=0)&&decide ((t.stamps.length:Int)=c.n)&&decide (0<=node)&&decide (node<c.n)&&decide (0<=now)&&decide (now<4611686018427387904)))->right c t node now=b:=fun b h=>h.symm
 have HX:=hid fun(u:World) (hu:Below ((w.alloc (.cells #[.int .i64 t.gen,.int .i64 t.bP,.slice ps t.stamps.length cs,.int .i64 t.table.start,.slice p t.table.rows.length d] 30)).alloc (.cells #[.int .i64 c.n,.int .i64 c.sk,.int .i64 c.tl,.int .i64 c.va,.int .i64 c.lo,.int .i64 c.he,.int .i64 c.ke,.int .i64 c.qu,.slice pf c.zs.length kf] 24)).heap.size ((w.alloc (.cells #[.int .i64 t.gen,.int .i64 t.bP,.slice ps t.stamps.length cs,.int .i64 t.table.start,.slice p t.table.rows.length d] 30)).alloc (.cells #[.int .i64 c.n,.int .i64 c.sk,.int .i64 c.tl,.int .i64 c.va,.int .i64 c.lo,.int .i64 c.he,.int .i64 c.ke,.int .i64 c.qu,.slice pf c.zs.length kf] 24)) u) =>
  show Below w.heap.size w u/\u.heap[w.heap.size]? =some (.cells #[.int .i64 t.gen,.int .i64 t.bP,.slice ps t.stamps.length cs,.int .i64 t.table.start,.slice p t.table.rows.length d] 30 (0,0))/\u.heap[w.heap.size+1]? =some (.cells #[.int .i64 c.n,.int .i64 c.sk,.int .i64 c.tl,.int .i64 c.va,.int .i64 c.lo,.int .i64 c.he,.int .i64 c.ke,.int .i64 c.qu,.slice pf c.zs.length kf] 24 (0,0)) from by
   have h1:=heap_alloc_new w (.cells #[.int .i64 t.gen,.int .i64 t.bP,.slice ps t.stamps.length cs,.int .i64 t.table.start,.slice p t.table.rows.length d] 30);have h2:=heap_alloc_new (w.alloc (.cells #[.int .i64 t.gen,.int .i64 t.bP,.slice ps t.stamps.length cs,.int .i64 t.table.start,.slice p t.table.rows.length d] 30)) (.cells #[.int .i64 c.n,.int .i64 c.sk,.int .i64 c.tl,.int .i64 c.va,.int .i64 c.lo,.int .i64 c.he,.int .i64 c.ke,.int .i64 c.qu,.slice pf c.zs.length kf] 24);have h3:=(heap_alloc_old (w.alloc (.cells #[.int .i64 t.gen,.int .i64 t.bP,.slice ps t.stamps.length cs,.int .i64 t.table.start,.slice p t.table.rows.length d] 30)) (.cells #[.int .i64 c.n,.int .i64 c.sk,.int .i64 c.tl,.int .i64 c.va,.int .i64 c.lo,.int .i64 c.he,.int .i64 c.ke,.int .i64 c.qu,.slice pf c.zs.length kf] 24) (ae h1)).trans h1;have aC:=ae h2;have hs:(w.alloc (.cells #[.int .i64 t.gen,.int .i64 t.bP,.slice ps t.stamps.length cs,.int .i64 t.table.start,.slice p t.table.rows.length d] 30)).heap.size=w.heap.size+1:=by simp
   rw[hs] at h2 aC;exact⟨(uQ w _ _).trans (hu.mono (uQ w _ _).size),(hu.block _ (by omega)).trans h3,(hu.block _ aC).trans h2⟩
 have HL:=hid fun(u:World) (h:u.heap[w.heap.size+1]? =some (.cells #[.int .i64 c.n,.int .i64 c.sk,.int .i64 c.tl,.int .i64 c.va,.int .i64 c.lo,.int .i64 c.he,.int .i64 c.ke,.int .i64 c.qu,.slice pf c.zs.length kf] 24 (0,0))) =>
  show u.cell? ⟨w.heap.size+1,0,none⟩=some (.int .i64 c.n)/\u.cell? ⟨w.heap.size+1,1,none⟩=some (.int .i64 c.sk)/\u.cell? ⟨w.heap.size+1,2,none⟩=some (.int .i64 c.tl)/\u.cell? ⟨w.heap.size+1,3,none⟩=some (.int .i64 c.va)/\u.cell? ⟨w.heap.size+1,4,none⟩=some (.int .i64 c.lo)/\u.cell? ⟨w.heap.size+1,5,none⟩=some (.int .i64 c.he)/\u.cell? ⟨w.heap.size+1,6,none⟩=some (.int .i64 c.ke)/\u.cell? ⟨w.heap.size+1,7,none⟩=some (.int .i64 c.qu)/\u.cell? ⟨w.heap.size+1,8,none⟩=some (.slice pf c.zs.length kf) from
   ⟨by rw[cell_of_row _ _ _ _ _ (0,0) h];rfl,by rw[cell_of_row _ _ _ _ _ (0,0) h];rfl,by rw[cell_of_row _ _ _ _ _ (0,0) h];rfl,by rw[cell_of_row _ _ _ _ _ (0,0) h];rfl,by rw[cell_of_row _ _ _ _ _ (0,0) h];rfl,by rw[cell_of_row _ _ _ _ _ (0,0) h];rfl,by rw[cell_of_row _ _ _ _ _ (0,0) h];rfl,by rw[cell_of_row _ _ _ _ _ (0,0) h];rfl,by rw[cell_of_row _ _ _ _ _ (0,0) h];rfl⟩
 have HR:=hid hR;clear hR;generalize right c t node now=R at *;generalize c.bI=K at *;generalize bn t=O at *;unfold aS Cf.val;rcases b9 with rfl | ⟨rfl,h2⟩ | ⟨rfl,rfl,h3⟩ | ⟨rfl,rfl,h3,h4⟩ | ⟨rfl,rfl,h3,h4,h5⟩ | ⟨rfl,rfl,h3,h4,h5,h6⟩ | ⟨rfl,rfl,h3,h4,h5,h6,h7⟩ | ⟨rfl,rfl,h3,h4,h5,h6,h7⟩
 all_goals
  go_enter func16,ntmps16
  go_upto_region 1 with (fail)
  obtain⟨hb0,hx0,hy0⟩:=HX.out _ (Below.refl _ _);clear HX;generalize(w.alloc (.cells #[.int .i64 t.gen,.int .i64 t.bP,.slice ps t.stamps.length cs,.int .i64 t.table.start,.slice p t.table.rows.length d] 30)).alloc (.cells #[.int .i64 c.n,.int .i64 c.sk,.int .i64 c.tl,.int .i64 c.va,.int .i64 c.lo,.int .i64 c.he,.int .i64 c.ke,.int .i64 c.qu,.slice pf c.zs.length kf] 24)=W at *;have Iq:=hid (And.intro hb0 (And.intro hx0 hy0));obtain⟨x0,x1,x2,x3,x4,-⟩:=bz hx0;clear hb0 hx0 hy0
 all_goals
  go_wp2_with (first
   |(go_at_call 58;(with_reducible refine(HT.out _ Iq.out.1).mono ?_);rintro x u1 ⟨rfl,hb⟩;have BM:=hid (show Below w.heap.size w u1/\_/\_ from⟨Iq.out.1.trans (hb.mono Iq.out.1.size),(hb.block _ (ae Iq.out.2.1)).trans Iq.out.2.1,(hb.block _ (ae Iq.out.2.2)).trans Iq.out.2.2⟩);obtain⟨y0,y1,y2,y3,y4,y5,y6,y7,y8⟩:=HL.out _ BM.out.2.2;clear hb)
   |(go_at_call 34;(with_reducible refine(HC.out _ BM.out.1).mono ?_);rintro x u2 ⟨rfl,hb⟩;have Ig:=hid (show Below w.heap.size w u2/\_/\_ from⟨BM.out.1.trans (hb.mono BM.out.1.size),(hb.block _ (ae BM.out.2.1)).trans BM.out.2.1,(hb.block _ (ae BM.out.2.2)).trans BM.out.2.2⟩);obtain⟨z0,z1,z2,z3,z4,-⟩:=bz Ig.out.2.1;obtain⟨n0,n1,n2,n3,n4,n5,n6,n7,n8⟩:=HL.out _ Ig.out.2.2;clear hb))
 all_goals go_ret
 all_goals refine⟨?_,Ig.out.1⟩
 all_goals rw[HR.out _ rfl]
 all_goals first
  |(simp;done)
  |(simp;omega)
  |(simp[h2];done)
  |(simp[h3];done)
  |(simp[h3];omega)
open Zx (Rw Tb Tk aq af)
open Zq (ae)
open Zy (Cf Eg An bD fh eo iK e0)
theorem TV {u:World}{g:Nat}{a0 a1 a2 a3 a4 a5 a6 a7 a8:Value}{T:TypeId}(h:u.heap[g]? =some (.cells #[a0,a1,a2,a3,a4,a5,a6,a7,a8] T (0,0))):u.cell? ⟨g,0,none⟩=some a0/\u.cell? ⟨g,1,none⟩=some a1/\u.cell? ⟨g,2,none⟩=some a2/\u.cell? ⟨g,3,none⟩=some a3/\u.cell? ⟨g,4,none⟩=some a4/\u.cell? ⟨g,5,none⟩=some a5/\u.cell? ⟨g,6,none⟩=some a6/\u.cell? ⟨g,7,none⟩=some a7/\u.cell? ⟨g,8,none⟩=some a8:=by
 refine⟨?_,?_,?_,?_,?_,?_,?_,?_,?_⟩ <;>(rw[cell_of_row _ _ _ _ _ (0,0) h];rfl)
theorem QN {u:World}{p:Option Addr}{i g y:Int}(h:Zp.aL Zy.iH u p [⟨i,g,y⟩]):∃b o,p=some ⟨b,o,none⟩/\u.cell? ⟨b,o,none⟩=some (.int .i64 i)/\u.cell? ⟨b,o+1,none⟩=some (.int .i64 g)/\u.cell? ⟨b,o+2,none⟩=some (.int .i64 y):=by
 rcases h with h | ⟨b,o,e,hc⟩
 ·simp at h
 ·have h0:=hc 0 (by simp) 0 _ rfl
  have h1:=hc 0 (by simp) 1 _ rfl
  have h2:=hc 0 (by simp) 2 _ rfl
  simp only[Nat.zero_mul,Nat.add_zero] at h0 h1 h2;exact⟨b,o,e,h0,h1,h2⟩
structure IA (PW:yS)(B gc q:Nat)(pf:Option Addr)(R:Nat->Prop)(e:Eg)(W u:World):Prop where
 pw:PW R B u q lc e
 dW:u.heap[gc]? =some (.cells #[.int .i64 1,.int .i64 0,.int .i64 5,.int .i64 9,.int .i64 1,.int .i64 1,.int .i64 1,.int .i64 2,.slice pf 1 1] 24 (0,0))
 rc:R gc
 aH:bD B u pf [(2,9)]
 below:Below W.heap.size W u
 size:B<=u.heap.size
 lo:W.heap.size<=B
section
variable {PW:yS}{B gc q:Nat}{pf:Option Addr}{R R':Nat->Prop}{e e':Eg}{W u u':World}
theorem IA.grow (F:jv PW)(h:IA PW B gc q pf R e W u)(hb:Below u.heap.size u u'):IA PW B gc q pf (fun g=>R g∨u.heap.size<=g/\g<u'.heap.size) e W u' :=
 ⟨F.grow h.pw hb,(hb.block _ (ae h.dW)).trans h.dW,.inl h.rc,h.aH.on (hb.mono h.size),h.below.trans (hb.mono h.below.size),Nat.le_trans h.size hb.size,h.lo⟩
theorem IA.iw (h:IA PW B gc q pf R e W u)(hm:gP PW R B u q lc e' u'):IA PW B gc q pf R e' W u' :=
 ⟨hm.pw,(hm.bM _ h.rc ⟨0,_,_,by rw[cell_of_row _ _ _ _ _ (0,0) h.dW];rfl⟩ (ae h.dW)).trans h.dW,h.rc,h.aH.on hm.below,h.below.trans (hm.below.mono h.lo),Nat.le_trans h.size hm.off.size,h.lo⟩
theorem IA.visit (h:IA PW B gc q pf R e W u)(hm:gP PW R B u q lc e' u')(hp:PW R' B u' q lc e')(hR:∀g,R g->R' g):IA PW B gc q pf R' e' W u' :=
 have k:=h.iw hm
 ⟨hp,k.dW,hR _ h.rc,k.aH,k.below,k.size,k.lo⟩
end
theorem sU {PW:yS}(P:tU PW)(w:World):Calls prog 7 #[] w fun e w'=>e=.returned (.bool true)/\Below w.heap.size w w':=by
 have F:=P.fr;have hA:=cQ w (.cells #[.int .i64 2,.int .i64 9] 77);have QO:=cQ (w.alloc (.cells #[.int .i64 2,.int .i64 9] 77)) (.cells #[.int .i64 1,.int .i64 0,.int .i64 5,.int .i64 9,.int .i64 1,.int .i64 1,.int .i64 1,.int .i64 2,.slice (some ⟨w.heap.size,0,none⟩) 1 1] 24);have hr:bD ((w.alloc (.cells #[.int .i64 2,.int .i64 9] 77)).alloc (.cells #[.int .i64 1,.int .i64 0,.int .i64 5,.int .i64 9,.int .i64 1,.int .i64 1,.int .i64 1,.int .i64 2,.slice (some ⟨w.heap.size,0,none⟩) 1 1] 24)).heap.size ((w.alloc (.cells #[.int .i64 2,.int .i64 9] 77)).alloc (.cells #[.int .i64 1,.int .i64 0,.int .i64 5,.int .i64 9,.int .i64 1,.int .i64 1,.int .i64 1,.int .i64 2,.slice (some ⟨w.heap.size,0,none⟩) 1 1] 24)) (some ⟨w.heap.size,0,none⟩) lc.zs:=by
  have hk:=(QO.block _ (ae (heap_alloc_new w (.cells #[.int .i64 2,.int .i64 9] 77)))).trans (heap_alloc_new w (.cells #[.int .i64 2,.int .i64 9] 77));refine .inr ⟨w.heap.size,0,rfl,ae hk,fun i hi=> ?_⟩
  obtain rfl:i=0:=by simp[lc] at hi;omega
  exact⟨by rw[cell_of_row _ _ _ _ _ (0,0) hk];rfl,by rw[cell_of_row _ _ _ _ _ (0,0) hk];rfl⟩
 have hcf:=heap_alloc_new (w.alloc (.cells #[.int .i64 2,.int .i64 9] 77)) (.cells #[.int .i64 1,.int .i64 0,.int .i64 5,.int .i64 9,.int .i64 1,.int .i64 1,.int .i64 1,.int .i64 2,.slice (some ⟨w.heap.size,0,none⟩) 1 1] 24);rw[show (w.alloc (.cells #[.int .i64 2,.int .i64 9] 77)).heap.size=w.heap.size+1 by simp] at hcf
 have fD:=hid (hA.trans (QO.mono hA.size));have HR:=hid hr;have Ww:=hid hcf;have HF:=hid F;have HP:=hid P;clear hA QO hr hcf F P;go_enter func7,ntmps7
 go_upto_region 2 with (fail)
 generalize(w.alloc (.cells #[.int .i64 2,.int .i64 9] 77)).alloc (.cells #[.int .i64 1,.int .i64 0,.int .i64 5,.int .i64 9,.int .i64 1,.int .i64 1,.int .i64 1,.int .i64 2,.slice (some ⟨w.heap.size,0,none⟩) 1 1] 24)=w1 at *;have HNW:Hid (Calls prog 8 #[.agg #[.int .i64 1,.int .i64 0,.int .i64 5,.int .i64 9,.int .i64 1,.int .i64 1,.int .i64 1,.int .i64 2,.slice (some ⟨w.heap.size,0,none⟩) 1 1]] w1 fun x u=>∃q,x=.returned (.tuple #[.pointer (some ⟨q,0,none⟩),.int .i64 0])/\IA PW w1.heap.size (w.heap.size+1) q (some ⟨w.heap.size,0,none⟩) (fun g=>g<w1.heap.size) e0 w u):=hid ((HP.out.new w1.heap.size lc (some ⟨w.heap.size,0,none⟩) 1 w1 (Nat.le_refl _) HR.out (by decide) Fu lv0).mono fun x u ⟨q,he,hp,hb⟩=>⟨q,he,hp,(hb.block _ (ae Ww.out)).trans Ww.out,ae Ww.out,HR.out.on hb,fD.out.trans (hb.mono fD.out.size),hb.size,fD.out.size⟩)
 obtain⟨c0,c1,c2,c3,c4,c5,c6,c7,c8⟩:=TV Ww.out;clear HR Ww fD;have HAK:=hid (fun(u:World) (q:Nat) (hl:IA PW w1.heap.size (w.heap.size+1) q (some ⟨w.heap.size,0,none⟩) (fun g=>g<w1.heap.size) e0 w u)=>show Calls prog 13 #[.pointer (some ⟨q,0,none⟩),.agg #[.int .i64 5,.int .i64 3,.int .i64 4,.int .i64 0,.int .i64 30],.int .i64 20] u fun x w'=>∃y,x=.returned y/\IA PW w1.heap.size (w.heap.size+1) q (some ⟨w.heap.size,0,none⟩) (fun g=>g<w1.heap.size) QI w w' from
  (HP.out.jF hl.pw hl.size Se.ie ⟨by decide,by decide,by decide⟩ lr NZ 20 (mg (by decide))).mono fun x w' ⟨y,he,_,hm⟩=>⟨y,he,hl.iw (by rw[lv1] at hm;exact hm)⟩)
 go_upto_region 5 with (first
  |(go_at_call 8;(with_reducible refine HNW.out.mono ?_);rintro x u1 ⟨q,rfl,hl⟩;have pz:=hid hl;clear hl HNW c0 c1 c2 c3 c4 c5 c6 c7 c8)
  |(go_at_call 13;(with_reducible refine(HAK.out _ _ pz.out).mono ?_);rintro x u2 ⟨y2,rfl,hl⟩;have Ek:=hid hl;clear hl HAK))
 have hb1:=cQ u2 (.cells #[.int .i64 (-1)] 3);have hb2:=cQ (u2.alloc (.cells #[.int .i64 (-1)] 3)) (.cells #[.int .i64 7,.int .i64 0,.slice (some ⟨u2.heap.size,0,none⟩) 1 1,.int .i64 10,.slice none 0 0] 30);have hb3:=hb1.trans (hb2.mono hb1.size);have xj:=(hb2.block _ (ae (heap_alloc_new u2 (.cells #[.int .i64 (-1)] 3)))).trans (heap_alloc_new u2 (.cells #[.int .i64 (-1)] 3));have hk2:=heap_alloc_new (u2.alloc (.cells #[.int .i64 (-1)] 3)) (.cells #[.int .i64 7,.int .i64 0,.slice (some ⟨u2.heap.size,0,none⟩) 1 1,.int .i64 10,.slice none 0 0] 30);rw[show (u2.alloc (.cells #[.int .i64 (-1)] 3)).heap.size=u2.heap.size+1 by simp] at hk2
 have El:=hid (Ek.out.grow HF.out hb3);have kq:=hid xj;have lX:=hid hk2;clear hb1 hb2 hb3 xj hk2 pz Ek;generalize(u2.alloc (.cells #[.int .i64 (-1)] 3)).alloc (.cells #[.int .i64 7,.int .i64 0,.slice (some ⟨u2.heap.size,0,none⟩) 1 1,.int .i64 10,.slice none 0 0] 30)=u3 at *;have YQ:=hid (show dZ (fun g=>(fun g=>g<w1.heap.size) g∨u2.heap.size<=g/\g<u3.heap.size) u3 Ki (some ⟨u2.heap.size,0,none⟩) none from⟨.inr ⟨_,0,rfl,.inr ⟨Nat.le_refl _,ae kq.out⟩,fun j hj=>by
  obtain rfl:j=0:=by simp[Ki] at hj;omega
  rw[cell_of_row _ _ _ _ _ (0,0) kq.out];rfl⟩,.inl rfl⟩)
 generalize(fun g=>(fun g=>g<w1.heap.size) g∨u2.heap.size<=g/\g<u3.heap.size)=R3 at *
 generalize w1.heap.size=B at *;have Qs:Hid (Calls prog 15 #[.agg #[.int .i64 7,.int .i64 0,.slice (some ⟨u2.heap.size,0,none⟩) 1 1,.int .i64 10,.slice none 0 0],.pointer (some ⟨q,0,none⟩),.int .i64 0,.int .i64 20,.agg #[.int .i64 1,.int .i64 0,.int .i64 5,.int .i64 9,.int .i64 1,.int .i64 1,.int .i64 1,.int .i64 2,.slice (some ⟨w.heap.size,0,none⟩) 1 1]] u3 fun x u'=>∃ix cs' p' d' y R',x=.returned (.tuple #[.agg #[.int .i64 7,.int .i64 0,.slice ix 1 cs',.int .i64 10,.slice p' 1 (d'+1)],y,.int .i64 0])/\eo u' y [⟨5,7,0⟩]/\dZ R' u' EK ix p'/\IA PW B (w.heap.size+1) q (some ⟨w.heap.size,0,none⟩) R' Va w u'):=hid (by
  have h:=HP.out.visit 0 20 Ki 16 (some ⟨u2.heap.size,0,none⟩) 1 none 0 (some ⟨w.heap.size,0,none⟩) 1 El.out.pw El.out.size (Sg Sf (by decide)) (by decide) lr1 (mg (by decide)) (mg (by decide)) Fu (by decide) YQ.out El.out.aH
  rw[lv2] at h;exact h.mono fun x u' ⟨ix,cs',p',d',y,R',h1,h2,h3,h4,h5,h6⟩=>⟨ix,cs',p',d',y,R',h1,h2,h3,El.out.visit h6 h5 h4⟩)
 obtain⟨x0,x1,x2,x3,x4,-⟩:=bz lX.out;obtain⟨c0,c1,c2,c3,c4,c5,c6,c7,c8⟩:=TV El.out.dW;go_upto_region 6 with (go_at_call 15;(with_reducible refine Qs.out.mono ?_);rintro x u4 ⟨Mg,Ko,p4,d4,y4,R4,rfl,Wx,ht4,hl4⟩;have TW:=hid Wx;have HT4:=hid ht4;have Aw:=hid hl4;clear Wx ht4 hl4 Qs x0 x1 x2 x3 x4 c0 c1 c2 c3 c4 c5 c6 c7 c8)
 clear El kq lX YQ;have xD:=cQ u4 (.cells #[.int .i64 7,.int .i64 0,.slice Mg 1 Ko,.int .i64 10,.slice p4 1 (d4+1)] 30);have hk5:=heap_alloc_new u4 (.cells #[.int .i64 7,.int .i64 0,.slice Mg 1 Ko,.int .i64 10,.slice p4 1 (d4+1)] 30);have Si:=hid (Aw.out.grow HF.out xD);have Wy:=hid (TW.out.below xD);have Kr:=hid hk5;have Wz:=hid ((HT4.out.below xD).on (S':=fun g=>R4 g∨u4.heap.size<=g/\g<(u4.alloc (.cells #[.int .i64 7,.int .i64 0,.slice Mg 1 Ko,.int .i64 10,.slice p4 1 (d4+1)] 30)).heap.size) (fun _ h _=>.inl h) fun _ _ _ _=>rfl)
 have TX:=hid (show(fun g=>R4 g∨u4.heap.size<=g/\g<(u4.alloc (.cells #[.int .i64 7,.int .i64 0,.slice Mg 1 Ko,.int .i64 10,.slice p4 1 (d4+1)] 30)).heap.size) u4.heap.size from .inr ⟨Nat.le_refl _,ae hk5⟩)
 clear xD hk5 Aw TW HT4;generalize(fun g=>R4 g∨u4.heap.size<=g/\g<(u4.alloc (.cells #[.int .i64 7,.int .i64 0,.slice Mg 1 Ko,.int .i64 10,.slice p4 1 (d4+1)] 30)).heap.size)=R5 at *
 generalize u4.alloc (.cells #[.int .i64 7,.int .i64 0,.slice Mg 1 Ko,.int .i64 10,.slice p4 1 (d4+1)] 30)=u5 at *;generalize u4.heap.size=gu at *;have HV2:Hid (Calls prog 15 #[.agg #[.int .i64 7,.int .i64 0,.slice Mg 1 Ko,.int .i64 10,.slice p4 1 (d4+1)],.pointer (some ⟨q,0,none⟩),.int .i64 0,.int .i64 22,.agg #[.int .i64 1,.int .i64 0,.int .i64 5,.int .i64 9,.int .i64 1,.int .i64 1,.int .i64 1,.int .i64 2,.slice (some ⟨w.heap.size,0,none⟩) 1 1]] u5 fun x u'=>∃ix cs' p' d' y R',x=.returned (.tuple #[.agg #[.int .i64 7,.int .i64 0,.slice ix 1 cs',.int .i64 10,.slice p' 1 (d'+1)],y,.int .i64 0])/\eo u' y []/\dZ R' u' Wq ix p'/\IA PW B (w.heap.size+1) q (some ⟨w.heap.size,0,none⟩) R' le3 w u'/\eo u' y4 [⟨5,7,0⟩]/\dZ R5 u' EK Mg p4/\u'.heap[gu]? =some (.cells #[.int .i64 7,.int .i64 0,.slice Mg 1 Ko,.int .i64 10,.slice p4 1 (d4+1)] 30 (0,0))):=hid (by
  have h:=HP.out.visit 0 22 EK 32 Mg Ko p4 d4 (some ⟨w.heap.size,0,none⟩) 1 Si.out.pw Si.out.size (Sg Wr (by decide)) (by decide) lr2 (mg (by decide)) (mg (by decide)) Fu (by decide) Wz.out Si.out.aH
  rw[lv3] at h;exact h.mono fun x u' ⟨ix,cs',p',d',y,R',h1,h2,h3,h4,h5,h6⟩=>⟨ix,cs',p',d',y,R',h1,h2,h3,Si.out.visit h6 h5 h4,Wy.out.off h6.off,Wz.out.iw h6,(h6.bM _ TX.out ⟨0,_,_,by rw[cell_of_row _ _ _ _ _ (0,0) Kr.out];rfl⟩ (ae Kr.out)).trans Kr.out⟩)
 obtain⟨x0,x1,x2,x3,x4,-⟩:=bz Kr.out;obtain⟨c0,c1,c2,c3,c4,c5,c6,c7,c8⟩:=TV Si.out.dW;go_upto_region 7 with (go_at_call 15;(with_reducible refine HV2.out.mono ?_);rintro x u6 ⟨ps6,cs6,p6,d6,y6,R6,rfl,BO,ht6,xC,BP,ht7,hk7⟩;have wm:=hid BO;have HT6:=hid ht6;have Vf:=hid xC;have QP:=hid BP;have YR:=hid ht7;have QQ:=hid hk7;clear BO ht6 xC BP ht7 hk7 HV2 x0 x1 x2 x3 x4 c0 c1 c2 c3 c4 c5 c6 c7 c8)
 obtain⟨pa,ka,rfl,la,-,-⟩:=QP.out;obtain⟨pb,kb,rfl,-,-,-⟩:=wm.out;have RS:=cQ u6 (.cells #[.int .i64 7,.int .i64 0,.slice ps6 1 cs6,.int .i64 10,.slice p6 1 (d6+1)] 30);have HK8:=hid (heap_alloc_new u6 (.cells #[.int .i64 7,.int .i64 0,.slice ps6 1 cs6,.int .i64 10,.slice p6 1 (d6+1)] 30));have HA7:=hid (Zp.aL.below la RS);have HK9:=hid ((RS.block _ (ae QQ.out)).trans QQ.out);have uz:=hid (YR.out.below RS).rows;have UZ:=hid (HT6.out.below RS).rows;have U8:=hid (Vf.out.below.trans (RS.mono Vf.out.below.size));clear wm QP HT6 YR Vf QQ RS la Si Wy Wz Kr TX;generalize u6.heap.size=gv at *;generalize u6.alloc (.cells #[.int .i64 7,.int .i64 0,.slice ps6 1 cs6,.int .i64 10,.slice p6 1 (d6+1)] 30)=u7 at *;obtain⟨ba,oa,rfl,a0,a1,a2⟩:=QN HA7.out;obtain⟨x0,x1,x2,x3,x4,-⟩:=bz HK9.out;obtain⟨v0,v1,v2,v3,v4,-⟩:=bz HK8.out;obtain⟨b1,o1,rfl,hq1⟩:∃b o,p4=some ⟨b,o,none⟩/\u7.cell? ⟨b,o+1,none⟩=some (.int .i64 5):=by
  rcases uz.out with h | ⟨b,o,e,-,hc⟩
  ·simp [EK] at h
  ·have h1:=(hc 0 (by simp[EK])).2.1
   rw[Nat.zero_mul,Nat.add_zero] at h1;exact⟨b,o,e,h1⟩
 obtain⟨b2,o2,rfl,r0,r1,r2,pl,cl,r3,hle⟩:∃b o,p6=some ⟨b,o,none⟩/\u7.cell? ⟨b,o,none⟩=some (.int .i64 3)/\u7.cell? ⟨b,o+1,none⟩=some (.int .i64 1)/\u7.cell? ⟨b,o+2,none⟩=some (.int .i64 22)/\∃p c,u7.cell? ⟨b,o+3,none⟩=some (.slice p 1 (c+1))/\Zx.ak u7 p [(0,4)]:=by
  rcases UZ.out with h | ⟨b,o,e,-,hc⟩
  ·simp [Wq] at h
  ·obtain ⟨k0,k1,k2,p,c,k3,k4⟩:=hc 0 (by simp[Wq])
   rw[Nat.zero_mul,Nat.add_zero] at k0 k1 k2 k3;exact⟨b,o,e,k0,k1,k2,p,c,k3,k4.rest⟩
 have YS:=hid (show Calls prog 30 #[.agg #[.int .i64 3,.int .i64 1,.int .i64 22,.slice pl 1 (cl+1)]] u7 fun e w'=>e=.returned (.int .i64 5)/\Below u7.heap.size u7 w' from Zv.ye ⟨3,1,22,[(0,4)]⟩ pl cl u7 hle (by decide))
 go_wp2_with (go_at_call 30;(with_reducible refine YS.out.mono ?_);rintro x u8 ⟨rfl,hb⟩;have HB8:=hid (U8.out.trans (hb.mono U8.out.size));clear hb)
 go_ret;exact⟨rfl,HB8.out⟩
end Zn
end Go.Proofs.YtbgdlokegibkmaaGreat
