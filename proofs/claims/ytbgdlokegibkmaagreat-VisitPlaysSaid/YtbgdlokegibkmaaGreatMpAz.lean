/-
  A part of the proof of VisitPlays.
-/
import Derived.Test.YtbgdlokegibkmaaGreatMpAm
import Derived.Test.YtbgdlokegibkmaaGreatMpAv
import Derived.Test.YtbgdlokegibkmaaGreatMpAx
import Derived.Test.YtbgdlokegibkmaaGreatMpAy
set_option maxRecDepth 100000
set_option maxHeartbeats 8000000
namespace Go.Proofs.YtbgdlokegibkmaaGreat
open Go.RowKit
open Tryz
open Lib (hid)
namespace Zy
open Zq (ae aj ai)
open Zp (iE aL At bS eu fN af aD aA ag dQ)
open Zw (Lz)
open Zu (It)
open Zz (Nt)
def gX (T:TypeId)(w w':World):Prop:=∀(g:Nat)(cs:Array Value)(z:Nat×Nat),w.heap[g]? =some (.cells cs T z)->w'.heap[g]? =some (.cells cs T z)
def holds (w:World)(q b:Nat):Prop:=w.cell? ⟨q,0,none⟩=some (.map (some b))
theorem Gk {B:Nat}{w:World}{q b:Nat}{l:List Lz}(h:Zw.Pm B w q l)(hb:holds w q b):∃es cl,w.heap[b]? =some (.map es cl):=by
 obtain⟨m,hc,-,hm⟩:=h.cell;unfold holds at hb;rw[hc] at hb;simp only[Option.some.injEq,Value.map.injEq] at hb;subst hb;exact hm.sY
theorem Gl {B:Nat}{w:World}{q b:Nat}{l:List Nt}(h:Zz.Pm B w q l)(hb:holds w q b):∃es cl,w.heap[b]? =some (.map es cl):=by
 obtain⟨m,hc,-,hm⟩:=h.cell;unfold holds at hb;rw[hc] at hb;simp only[Option.some.injEq,Value.map.injEq] at hb;subst hb;exact hm.sY
section
variable {R:Nat->Prop}{B q qw qq qd:Nat}{w w':World}{y:Value}{c:Cf}{e:Eg}{L:List Lz}{Q:List It}{D:List Nt}
theorem Um (h:Zw.Pm B w qw L){L':List Lz}(t:Zi.fF B w qw L' w'){T:TypeId}(hT:T≠194):gX T w w':=fun g cs z hg=>by
 refine(t.rest g (ae hg) ?_ ?_).trans hg
 ·rintro rfl
  obtain⟨_,m,h1,_⟩:=h;rw[hg] at h1;simp only[Option.some.injEq,Obj.cells.injEq] at h1;exact hT h1.2.1
 ·intro e
  obtain⟨es,cl,h1⟩:=Gk h e;rw[hg] at h1;cases h1
theorem Un (h:Zz.Pm B w qd D){D':List Nt}(t:Zh.fF B w qd D' w'){T:TypeId}(hT:T≠200):gX T w w':=fun g cs z hg=>by
 refine(t.rest g (ae hg) ?_ ?_).trans hg
 ·rintro rfl
  obtain⟨_,m,h1,_⟩:=h;rw[hg] at h1;simp only[Option.some.injEq,Obj.cells.injEq] at h1;exact hT h1.2.1
 ·intro e
  obtain⟨es,cl,h1⟩:=Gl h e;rw[hg] at h1;cases h1
def Q1 (w:World)(g:Nat):Prop:=g<w.heap.size/\∀cs z,w.heap[g]?≠some (.cells cs 152 z)/\w.heap[g]?≠some (.cells cs 136 z)
theorem AJ {aw:Int}{l:List It}(h:Zu.Pq R B w qq aw l):Zu.Pq (fun g=>Q1 w g∨R g) B w qq aw l:=by
 obtain⟨y,hy⟩:=h;refine⟨y,hy.ge,fun e=>e.elim (fun e=>(e.2 _ _).1 hy.mW) hy.nf,hy.mW,hy.ic,fun g hg hn=> ?_,fun g hg=>hg.elim And.left (hy.fl g)⟩
 rcases hn with hn | hn
 rotate_left
 ·exact hy.Mj g hg hn
 rcases hy.ic.2 with ⟨rfl,-⟩ | ⟨g',cap,cur,rfl,-,h2,-⟩
 ·simp [Value.ownBlock] at hg
 ·simp only[Value.ownBlock,Option.some.injEq] at hg
  subst hg;exact(hn.2 _ _).2 h2
theorem Uo {aw:Int}{l':List It}(t:Zu.eA Zu.Pq (fun g=>Q1 w g∨R g) B w qq aw l' w'){T:TypeId}(h1:T≠152)(h2:T≠136):gX T w w':=fun g cs z hg=>by
 refine(t.rest g (.inl ⟨ae hg,fun cs' z'=>⟨fun e=> ?_,fun e=> ?_⟩⟩) (ae hg)).trans hg
 ·rw [hg] at e
  simp only[Option.some.injEq,Obj.cells.injEq] at e;exact h1 e.2.1
 ·rw [hg] at e
  simp only[Option.some.injEq,Obj.cells.injEq] at e;exact h2 e.2.1
theorem IK {aw:Int}{l':List It}(t:Zu.eA Zu.Pq (fun g=>Q1 w g∨R g) B w qq aw l' w'){g:Nat}{es:_}{cl:_}(hg:w.heap[g]? =some (.map es cl)):w'.heap[g]? =some (.map es cl) :=
 (t.rest g (.inl ⟨ae hg,fun cs' z'=>⟨fun e=>(by rw[hg] at e;cases e),fun e=>(by rw[hg] at e;cases e)⟩⟩) (ae hg)).trans hg
theorem nP (h:Zw.Pm B w qw L)(hc:gX 194 w w')(hm:∀b es cl,holds w qw b->w.heap[b]? =some (.map es cl)->w'.heap[b]? =some (.map es cl)):Zw.Pm B w' qw L:=by
 have hcell:=h.cell;obtain⟨h0,m,h1,h2⟩:=h;refine⟨h0,m,hc _ _ _ h1,?_⟩;rcases h2 with h2 | ⟨b,D,rfl,hB,⟨es,clock,hb,rest⟩,hi⟩
 ·exact .inl h2
 ·exact .inr ⟨b,D,rfl,hB,⟨es,clock,hm b _ _ (by unfold holds;rw[cell_of_row w qw 0 _ _ (0,0) h1];rfl) hb,rest⟩,hi⟩
theorem nQ {aw:Int}{l:List It}(h:Zu.Pq R B w qq aw l)(hs:w.heap.size<=w'.heap.size)(h1:gX 152 w w')(h2:gX 136 w w'):Zu.Pq R B w' qq aw l:=by
 obtain⟨y,hy⟩:=h;refine⟨y,hy.ge,hy.nf,h1 _ _ _ hy.mW,⟨hy.ic.1,?_⟩,hy.Mj,fun g hg=>Nat.lt_of_lt_of_le (hy.fl g hg) hs⟩
 rcases hy.ic.2 with h0 | ⟨g',cap,cur,rfl,k1,k2,k3⟩
 ·exact .inl h0
 ·exact .inr ⟨g',cap,cur,rfl,k1,h2 _ _ _ k2,k3⟩
theorem nR (h:Zz.Pm B w qd D)(hc:gX 200 w w')(hm:∀b es cl,holds w qd b->w.heap[b]? =some (.map es cl)->w'.heap[b]? =some (.map es cl)):Zz.Pm B w' qd D:=by
 obtain⟨h0,m,h1,h2⟩:=h;refine⟨h0,m,hc _ _ _ h1,?_⟩;rcases h2 with h2 | ⟨b,D,rfl,hB,⟨es,clock,hb,rest⟩,hi⟩
 ·exact .inl h2
 ·exact .inr ⟨b,D,rfl,hB,⟨es,clock,hm b _ _ (by unfold holds;rw[cell_of_row w qd 0 _ _ (0,0) h1];rfl) hb,rest⟩,hi⟩
theorem lI {zs:List (Int×Int)}(h:Zp.Own ib 77 B w y zs)(hc:gX 77 w w'):Zp.Own ib 77 B w' y zs:=by
 refine⟨h.1,?_⟩;rcases h.2 with h0 | ⟨g',cap,cur,rfl,k1,k2,k3⟩
 ·exact .inl h0
 ·exact .inr ⟨g',cap,cur,rfl,k1,hc _ _ _ k2,k3⟩
def Gm (qw:Nat)(c:Cf)(y:Value)(qq qd:Nat):Array Value:= #[.pointer (some ⟨qw,0,none⟩),.int .i64 c.n,.int .i64 c.sk,.int .i64 c.tl,.int .i64 c.va,.int .i64 c.lo,.int .i64 c.he,.int .i64 c.ke,.int .i64 c.qu,y,.pointer (some ⟨qq,0,none⟩),.pointer (some ⟨qd,0,none⟩)]
theorem tZ {w:World}{g:Nat}{es:_}{cl:_}(h:iK w g)(hg:w.heap[g]? =some (.map es cl)):False:=by
 obtain⟨o,k,x,hc⟩:=h;simp[World.cell?,hg] at hc
theorem uh {w:World}{g:Nat}{m:Option Nat}{T:TypeId}(h:iK w g)(hg:w.heap[g]? =some (.cells #[.map m] T (0,0))):False:=by
 obtain⟨o,k,x,hc⟩:=h;rw[cell_of_row w g o _ _ (0,0) hg] at hc
 match o,hc with
 | 0,hc=>simp at hc
 | o+1,hc=>simp at hc
structure In (R:Nat->Prop)(B:Nat)(w:World)(q:Nat)(y:Value)(qw qq qd:Nat)(c:Cf)(e:Eg):Prop where
 ge:B<=q
 mW:w.heap[q]? =some (.cells (Gm qw c y qq qd) 88 (0,0))
 rt:Zp.Own ib 77 B w y c.zs
 wl:Zw.Pm B w qw e.L
 qu:Zu.Pq R B w qq c.qu e.Q
 dm:Zz.Pm B w qd e.D
 fZ:∀b,holds w qw b->¬holds w qd b
theorem In.low (h:In R B w q y qw qq qd c e)(g:Nat)(hg:R g):g<w.heap.size:=by
 obtain⟨y,hy⟩:=h.qu;exact hy.fl g hg
theorem In.below (h:In R B w q y qw qq qd c e)(hb:Below w.heap.size w w'):In R B w' q y qw qq qd c e :=
 ⟨h.ge,(hb.block q (ae h.mW)).trans h.mW,h.rt.on hb,h.wl.below hb,(by obtain⟨y,hy⟩:=h.qu;exact⟨y,hy.below hb⟩),h.dm.below hb,fun b h1 h2=>h.fZ b (by unfold holds at h1 ⊢;rwa [hb.cell (p:=⟨qw,0,none⟩) h.wl.lt] at h1) (by unfold holds at h2 ⊢;rwa [hb.cell (p:=⟨qd,0,none⟩) h.dm.lt] at h2)⟩
theorem In.kept (h:In R B w q y qw qq qd c e)(hk:bS [97,60] w w'):In R B w' q y qw qq qd c e:=by
 have k:∀{T:TypeId},T∉[97,60]->gX T w w':=fun hT g cs z hg=>hk.block g _ _ _ hg hT
 have km:∀(b:Nat) es cl,w.heap[b]? =some (.map es cl)->w'.heap[b]? =some (.map es cl):=fun b es cl hb=>hk.tD b _ hb (fun _ _ _ e=>by cases e)
 have hcw:∀b,holds w' qw b->holds w qw b:=fun b hb=>by
  obtain⟨_,m,h1,_⟩:=h.wl;unfold holds at hb ⊢;rwa [World.cell?_of_block (a:=⟨qw,0,none⟩) ((k (by decide) _ _ _ h1).trans h1.symm)] at hb
 have Ul:∀b,holds w' qd b->holds w qd b:=fun b hb=>by
  obtain⟨_,m,h1,_⟩:=h.dm;unfold holds at hb ⊢;rwa [World.cell?_of_block (a:=⟨qd,0,none⟩) ((k (by decide) _ _ _ h1).trans h1.symm)] at hb
 exact⟨h.ge,k (by decide) _ _ _ h.mW,lI h.rt (k (by decide)),nP h.wl (k (by decide)) (fun b es cl _ hb=>km b es cl hb),nQ h.qu hk.size (k (by decide)) (k (by decide)),nR h.dm (k (by decide)) (fun b es cl _ hb=>km b es cl hb),fun b h1 h2=>h.fZ b (hcw b h1) (Ul b h2)⟩
abbrev fV:List TypeId:=[135,42,118,45,30,24,44]
structure bZ (R:Nat->Prop)(B:Nat)(w:World)(q:Nat)(y:Value)(qw qq qd:Nat)(c:Cf)(e':Eg)(w':World):Prop where
 kr:In R B w' q y qw qq qd c e'
 off:fN eV w w'
 below:Below B w w'
 rest:∀g cs z,R g->w.heap[g]? =some (.cells cs 136 z)->w'.heap[g]? =some (.cells cs 136 z)
 lf:fN fV w w'
 bM:∀g,R g->iK w g->g<w.heap.size->w'.heap[g]? =w.heap[g]?
theorem In.AL (h:In R B w q y qw qq qd c e)(t:Zi.fF B w qw L w'):bZ R B w q y qw qq qd c ⟨L,e.Q,e.D⟩ w':=by
 have k:∀{T:TypeId},T≠194->gX T w w':=fun hT=>Um h.wl t hT
 have hd:∀b,holds w' qd b->holds w qd b:=fun b hb=>by
  obtain⟨_,m,h1,_⟩:=h.dm;unfold holds at hb ⊢;rwa [World.cell?_of_block (a:=⟨qd,0,none⟩) ((k (by decide) _ _ _ h1).trans h1.symm)] at hb
 refine⟨⟨h.ge,k (by decide) _ _ _ h.mW,lI h.rt (k (by decide)),t.iw.pw,nQ h.qu t.iw.off.size (k (by decide)) (k (by decide)),nR h.dm (k (by decide)) (fun b es cl hb hm=> ?_),fun b h1 h2=> ?_⟩,⟨t.iw.off.size,fun g cs T z hg ht=>k (by rintro rfl;simp[eV] at ht) g cs z hg⟩,t.iw.below,fun g cs z _ hg=>k (by decide) g cs z hg,⟨t.iw.off.size,fun g cs T z hg ht=>k (by rintro rfl;simp[fV] at ht) g cs z hg⟩,fun g _ hn hl=>t.rest g hl (by rintro rfl;obtain⟨_,m,h1,_⟩:=h.wl;exact uh hn h1) (fun e=>by obtain⟨es,cl,h1⟩:=Gk h.wl e;exact tZ hn h1)⟩
 ·refine (t.rest b (ae hm) ?_ ?_).trans hm
  ·rintro rfl
   obtain⟨_,m,h1,_⟩:=h.wl;rw[hm] at h1;cases h1
  ·intro e
   exact h.fZ b e hb
 ·have h3:=hd b h2
  rcases t.vn b h1 with h4 | h4
  ·exact h.fZ b h4 h3
  ·obtain ⟨es,cl,h5⟩:=Gl h.dm h3
   have:=ae h5;omega
theorem In.E3 (h:In R B w q y qw qq qd c e)(t:Zh.fF B w qd D w'):bZ R B w q y qw qq qd c ⟨e.L,e.Q,D⟩ w':=by
 have k:∀{T:TypeId},T≠200->gX T w w':=fun hT=>Un h.dm t hT
 have hd:∀b,holds w' qw b->holds w qw b:=fun b hb=>by
  obtain⟨_,m,h1,_⟩:=h.wl;unfold holds at hb ⊢;rwa [World.cell?_of_block (a:=⟨qw,0,none⟩) ((k (by decide) _ _ _ h1).trans h1.symm)] at hb
 refine⟨⟨h.ge,k (by decide) _ _ _ h.mW,lI h.rt (k (by decide)),nP h.wl (k (by decide)) (fun b es cl hb hm=> ?_),nQ h.qu t.iw.off.size (k (by decide)) (k (by decide)),t.iw.pw,fun b h1 h2=> ?_⟩,⟨t.iw.off.size,fun g cs T z hg ht=>k (by rintro rfl;simp[eV] at ht) g cs z hg⟩,t.iw.below,fun g cs z _ hg=>k (by decide) g cs z hg,⟨t.iw.off.size,fun g cs T z hg ht=>k (by rintro rfl;simp[fV] at ht) g cs z hg⟩,fun g _ hn hl=>t.rest g hl (by rintro rfl;obtain⟨_,m,h1,_⟩:=h.dm;exact uh hn h1) (fun e=>by obtain⟨es,cl,h1⟩:=Gl h.dm e;exact tZ hn h1)⟩
 ·refine (t.rest b (ae hm) ?_ ?_).trans hm
  ·rintro rfl
   obtain⟨_,m,h1,_⟩:=h.dm;rw[hm] at h1;cases h1
  ·intro e
   exact h.fZ b hb e
 ·have h3:=hd b h1
  rcases t.vn b h2 with h4 | h4
  ·exact h.fZ b h3 h4
  ·obtain ⟨es,cl,h5⟩:=Gk h.wl h3
   have:=ae h5;omega
theorem In.sy (h:In R B w q y qw qq qd c e)(t:Zu.eA Zu.Pq (fun g=>Q1 w g∨R g) B w qq c.qu Q w'):bZ R B w q y qw qq qd c ⟨e.L,Q,e.D⟩ w':=by
 have k:∀{T:TypeId},T≠152->T≠136->gX T w w':=fun h1 h2=>Uo t h1 h2
 have hcw:∀b,holds w' qw b->holds w qw b:=fun b hb=>by
  obtain⟨_,m,h1,_⟩:=h.wl;unfold holds at hb ⊢;rwa [World.cell?_of_block (a:=⟨qw,0,none⟩) ((k (by decide) (by decide) _ _ _ h1).trans h1.symm)] at hb
 have Ul:∀b,holds w' qd b->holds w qd b:=fun b hb=>by
  obtain⟨_,m,h1,_⟩:=h.dm;unfold holds at hb ⊢;rwa [World.cell?_of_block (a:=⟨qd,0,none⟩) ((k (by decide) (by decide) _ _ _ h1).trans h1.symm)] at hb
 have hs:w.heap.size<=w'.heap.size:=t.off.size;refine⟨⟨h.ge,k (by decide) (by decide) _ _ _ h.mW,lI h.rt (k (by decide) (by decide)),nP h.wl (k (by decide) (by decide)) (fun b es cl _ hm=>IK t hm),?_,nR h.dm (k (by decide) (by decide)) (fun b es cl _ hm=>IK t hm),fun b h1 h2=>h.fZ b (hcw b h1) (Ul b h2)⟩,⟨hs,fun g cs T z hg ht=>k (by rintro rfl;simp[eV] at ht) (by rintro rfl;simp[eV] at ht) g cs z hg⟩,t.below,fun g cs z hr hg=>(t.rest g (.inr hr) (ae hg)).trans hg,⟨hs,fun g cs T z hg ht=>k (by rintro rfl;simp[fV] at ht) (by rintro rfl;simp[fV] at ht) g cs z hg⟩,fun g hr _ hl=>t.rest g (.inr hr) hl⟩
 obtain⟨y,hy⟩:=t.pw;exact⟨y,hy.sub fun g hg=>.inr hg⟩
theorem In.sub {F:Nat->Prop}(h:In R B w q y qw qq qd c e)(hF:∀g,F g->R g):In F B w q y qw qq qd c e :=
 ⟨h.ge,h.mW,h.rt,h.wl,(by obtain⟨y,hy⟩:=h.qu;exact⟨y,hy.sub hF⟩),h.dm,h.fZ⟩
theorem In.grow (h:In R B w q y qw qq qd c e)(hb:Below w.heap.size w w'):In (fun g=>R g∨w.heap.size<=g/\g<w'.heap.size) B w' q y qw qq qd c e:=by
 have h':=h.below hb;exact⟨h'.ge,h'.mW,h'.rt,h'.wl,(by obtain⟨y,hy⟩:=h.qu;exact⟨y,hy.grow hb⟩),h'.dm,h'.fZ⟩
end
open Zw (Lz bC)
section
variable {R:Nat->Prop}{B q qw qq qd:Nat}{w w' u:World}{y:Value}{c:Cf}{e e' e2:Eg}
theorem bZ.trans (h:bZ R B w q y qw qq qd c e' w')(k:bZ R B w' q y qw qq qd c e2 u):bZ R B w q y qw qq qd c e2 u:=⟨k.kr,h.off.trans k.off,h.below.trans k.below,fun g cs z hr hg=>k.rest g cs z hr (h.rest g cs z hr hg),h.lf.trans k.lf,fun g hr hn hl=>(k.bM g hr (hn.on (h.bM g hr hn hl)) (Nat.lt_of_lt_of_le hl h.off.size)).trans (h.bM g hr hn hl)⟩
theorem bZ.same (h:In R B w q y qw qq qd c e)(hB:B<=w.heap.size)(hb:Below w.heap.size w w'):bZ R B w q y qw qq qd c e w':=⟨h.below hb,fN.cw hb,hb.mono hB,fun g _ _ _ hg=>(hb.block g (ae hg)).trans hg,fN.cw hb,fun g _ _ hl=>hb.block g hl⟩
theorem bZ.on (h:bZ R B w q y qw qq qd c e' w')(hB:B<=w.heap.size)(hb:Below w'.heap.size w' u):bZ R B w q y qw qq qd c e' u:=h.trans (bZ.same h.kr (Nat.le_trans hB h.off.size) hb)
theorem abR (h:In R B w q y qw qq qd c e)(hB:B<=w.heap.size)(hg:Zw.bu e.L)(hl:e.L.length<=100)(x:Lz)(hx:Zw.kV x) :
 Calls prog 204 #[.pointer (some ⟨qw,0,none⟩),Zw.val x] w fun x' w'=>x'=.returned (.int .i64 (Zw.put e.L x).2)/\bZ R B w q y qw qq qd c ⟨(Zw.put e.L x).1,e.Q,e.D⟩ w' :=
 (Zi.wA h.wl hB hg hl x hx.1).mono fun _ _ ⟨he,ht⟩=>⟨he,h.AL ht⟩
theorem Og (h:In R B w q y qw qq qd c e)(hB:B<=w.heap.size)(hg:Zw.bu e.L)(hl:e.L.length<=150){key cost now:Int}(hk:bC key) :
 Calls prog 87 #[.pointer (some ⟨qw,0,none⟩),.int .i64 key,.int .i64 cost,.int .i64 now] w fun x' w'=>x'=.returned (.tuple #[.int .i64 (Zw.bH e.L key cost now).2.1,.bool (Zw.bH e.L key cost now).2.2])/\bZ R B w q y qw qq qd c ⟨(Zw.bH e.L key cost now).1,e.Q,e.D⟩ w' :=
 (Zi.F6 h.wl hB hg hl hk).mono fun _ _ ⟨he,ht⟩=>⟨he,h.AL ht⟩
theorem Uq (h:In R B w q y qw qq qd c e)(hB:B<=w.heap.size)(hg:Zw.bu e.L){key gen:Int}(hk:bC key) :
 Calls prog 151 #[.pointer (some ⟨qw,0,none⟩),.int .i64 key,.int .i64 gen] w fun x' w'=>x'=.returned (.int .i64 (Zw.bB e.L key gen).2)/\bZ R B w q y qw qq qd c ⟨(Zw.bB e.L key gen).1,e.Q,e.D⟩ w' :=
 (Zi.pW h.wl hB hg hk).mono fun _ _ ⟨he,ht⟩=>⟨he,h.AL ht⟩
theorem Xg (h:In R B w q y qw qq qd c e)(hB:B<=w.heap.size)(hl:e.L.length<=100)(gen:Int) :
 Calls prog 157 #[.pointer (some ⟨qw,0,none⟩),.int .i64 gen] w fun x' w'=>x'=.returned (.int .i64 (Zw.drop e.L gen).2)/\bZ R B w q y qw qq qd c ⟨(Zw.drop e.L gen).1,e.Q,e.D⟩ w' :=
 (Zi.sZ h.wl hB hl gen).mono fun _ _ ⟨he,ht⟩=>⟨he,h.AL ht⟩
theorem Xh (h:In R B w q y qw qq qd c e)(hB:B<=w.heap.size)(hl:e.D.length<=800){key spent:Int}(hk:bC key) :
 Calls prog 152 #[.pointer (some ⟨qd,0,none⟩),.int .i64 key,.int .i64 spent] w fun x' w'=>x'=.returned (.int .i64 (Zz.of (e.D++[⟨key,spent⟩]) key))/\bZ R B w q y qw qq qd c ⟨e.L,e.Q,e.D++[⟨key,spent⟩]⟩ w' :=
 (Zh.KT h.dm hB hl hk).mono fun _ _ ⟨he,ht⟩=>⟨he,h.E3 ht⟩
theorem Xj (P:Zu.jz Zu.Pq)(h:In R B w q y qw qq qd c e)(hB:B<=w.heap.size)(hg:Zu.bu c.qu e.Q)(hl:e.Q.length<=16)(x:It)(hx:Zu.kV x) :
 Calls prog 89 #[.pointer (some ⟨qq,0,none⟩),Zu.val x] w fun x' w'=>x'=.returned (.int .i64 (Zu.put c.qu e.Q x).2)/\bZ R B w q y qw qq qd c ⟨e.L,(Zu.put c.qu e.Q x).1,e.D⟩ w' :=
 (P.put (AJ h.qu) hB hg hl x hx).mono fun _ _ ⟨he,ht⟩=>⟨he,h.sy ht⟩
theorem Xl (P:Zu.jz Zu.Pq)(h:In R B w q y qw qq qd c e)(hB:B<=w.heap.size)(hg:Zu.bu c.qu e.Q)(hl:e.Q.length<=16)(id:Int)(hi:Zu.bC id) :
 Calls prog 162 #[.pointer (some ⟨qq,0,none⟩),.int .i64 id] w fun x' w'=>x'=.returned (.tuple #[Zu.val (Zu.take e.Q id).2.1,.bool (Zu.take e.Q id).2.2])/\bZ R B w q y qw qq qd c ⟨e.L,(Zu.take e.Q id).1,e.D⟩ w' :=
 (P.take (AJ h.qu) hB hg hl id hi).mono fun _ _ ⟨he,ht⟩=>⟨he,h.sy ht⟩
end
open Zp (iE aL At bS eu fN af aD aA ag dQ bQ)
theorem wH {w:World}{B:Nat}{v:Value}{l:List An}(h:Zp.Own iH 60 B w v l):eo w v l:=by
 obtain⟨p,c,rfl,hl⟩:=h.gi;refine⟨p,c,rfl,hl,?_,?_⟩
 ·rintro a rfl
  rcases h.2 with ⟨e,-⟩ | ⟨g,cap,cur,e,-,k,-⟩
  ·simp at e
  ·simp only[Value.slice.injEq,Option.some.injEq] at e
   obtain⟨rfl,-,-⟩:=e;exact⟨_,_,k⟩
 ·rintro rfl
  rcases h.2 with ⟨e,-⟩ | ⟨g,cap,cur,e,-⟩
  ·simp only[Value.slice.injEq] at e
   exact e.2.2
  ·simp at e
theorem Dh (w:World)(x:An):eo (w.alloc (.cells (iH.cs x).toArray 60)) (.slice (some ⟨w.heap.size,0,none⟩) 1 1) [x] :=
 ⟨_,1,rfl,Zp.vt (E:=iH) (x:=x) (heap_alloc_new w _),fun a e=>by cases e;exact⟨_,_,heap_alloc_new w _⟩,fun e=>by cases e⟩
theorem qc (r:Rq)(fX:Int)(w:World) :
 Calls prog 39 #[kY r,.int .i64 fX] w fun e w'=>∃v,e=.returned v/\eo w' v (no r.id fX)/\Below w.heap.size w w':=by
 obtain⟨ri,rk,rc,rs,sB⟩:=r;unfold kY;have HB:=hid (cQ w (.cells #[.int .i64 ri,.int .i64 rk,.int .i64 rc,.int .i64 rs,.int .i64 sB] 42));have HS:=hid (fun(u:World) (g:Nat) (hg:g=u.heap.size)=>show eo (u.alloc (.cells #[.int .i64 ri,.int .i64 0,.int .i64 fX] 60)) (.slice (some ⟨g,0,none⟩) 1 1) [⟨ri,0,fX⟩] from by rw[hg];exact Dh u ⟨ri,0,fX⟩)
 have HL:=hid (fun(u:World) (o:Obj)=>cQ u o)
 simp only;go_enter func39,ntmps39
 go_wp2;go_ret;exact⟨_,rfl,HS.out _ (w.heap.size+1) (by simp),HB.out.trans ((HL.out _ _).mono HB.out.size)⟩
theorem ui (id gen:Int)(w:World) :
 Calls prog 41 #[.int .i64 id,.int .i64 gen] w fun e w'=>e=.returned (vU ⟨id,gen,0⟩)/\Below w.heap.size w w':=by
 unfold vU;simp only;go_enter func41,ntmps41
 go_wp2;refine bodyPost_ret (v:=.agg #[.int .i64 id,.int .i64 gen,.int .i64 0]) (by simp[results,results41,go_sem]) rfl ⟨rfl,cQ _ _⟩
theorem ru {p:Option Addr}{d:Nat}{l:List It}{w:World}(h:aL Zu.aN w p l)(hl:l.length<=1000)(fX:Int) :
 Calls prog 35 #[.slice p l.length d,.int .i64 fX] w fun e w'=>∃v,e=.returned v/\eo w' v (all l fX)/\Below w.heap.size w w':=by
 have HL:=hid h;have HE:=hid (show all l fX=all (l.take l.length) fX by rw[List.take_length])
 clear h;go_enter func35,ntmps35
 go_wp2;go_loopw [5,10] (fun y i wr=>∃(j:Nat) (q:Option Addr) (d:Nat),j<=l.length/\i=.int .i64 (j:Int)/\y=.slice q j d/\Hid (Zp.Own iH 60 w.heap.size wr y (all (l.take j) fX))/\Below w.heap.size w wr) (fun _ i _=>l.length-(intOf i).toNat)
 case atStart=>exact ⟨0,none,0,by omega,rfl,rfl,hid (Zp.Own.none _ _ _ _),Below.refl _ _⟩
 case round =>
  obtain⟨j,q,d,hj,rfl,rfl,ax,aW⟩:=hrel;by_cases aC:j<l.length
  ·obtain ⟨b,o,rfl,ha⟩:=Zu.bj (HL.out.below aW) aC
   obtain⟨k0,k1,k2,k3,k4⟩:=Zu.xu ha;have bE:(j:Int)<(l.length:Int):=by omega
   have HT:=hid (Nn fX aC);have HN:=hid (show(all (l.take j) fX).length=j by rw[Ad,List.length_take];omega)
   have cA:=hid aW;generalize all (l.take j) fX=A0 at *;generalize l.getD j Zu.z=x at *;have HX:=hid (fun(o':Obj)=>(cQ wr (.cells #[.int .i64 x.id,.int .i64 x.key,.int .i64 x.cost,.int .i64 x.bU,.int .i64 x.cJ] 136)).alloc (cQ wr (.cells #[.int .i64 x.id,.int .i64 x.key,.int .i64 x.cost,.int .i64 x.bU,.int .i64 x.cJ] 136)).size o')
   have HG:=hid (fun(o o':Obj)=>show ((wr.alloc o).alloc o').heap[wr.heap.size+1]? =some o' from by have:=heap_alloc_new (wr.alloc o) o';simpa using this)
   obtain⟨xi,xk,xc,xs,xt⟩:=x;simp only at k0 k1 k2 k3 k4 HT HX;clear ha HL HE;go_wp2_with (at_builtin;refine Zp.push yq rfl _ _ rfl w wr (.slice q j d) rfl A0 j HN.out ax.out cA.out (HX.out _) (wr.heap.size+1) ⟨xi,0,fX⟩ rfl (HG.out _ _) (by omega) ?_;intro p6 c6 w6 R6 B6)
   go_roundw
   case rel=>exact ⟨j+1,p6,c6,by omega,by go_num,rfl,by rw[HT.out];exact R6,B6⟩
   case measure=>simp only[intOf];omega
  ·have bE:¬(j:Int)<(l.length:Int):=by omega
   obtain rfl:j=l.length:=by omega
   have HS:=hid (show eo wr (.slice q l.length d) (all l fX) by rw[HE.out];exact wH ax.out)
   clear HE ax HL;go_wp2;go_ret;exact⟨_,rfl,HS.out,aW⟩
def ra (c:Cf)(key:Int):Int:=if 0<=c.fT key then (c.zs.getD (c.fT key).toNat (0,0)).1 else 0
def rb (c:Cf)(key:Int):Int:=if 0<=c.fT key then c.b key else 0
theorem lJ {c:Cf}{w:World}{p:Option Addr}(k:Nat)(h:aL ib w p c.zs)(key:Int) :
 Calls prog 83 #[c.val p k,.int .i64 key] w fun e w'=>e=.returned (.tuple #[.agg #[.int .i64 (ra c key),.int .i64 (rb c key)],.bool (decide (0<=c.fT key))])/\Below w.heap.size w w':=by
 obtain⟨n,sk,tl,va,lo,he,ke,qu,zs⟩:=c;unfold ra rb Cf.b Cf.val Cf.fT;simp only at *;by_cases hk:0<=key/\key<=524287/\key / 65536<zs.length
 ·rw [if_pos hk]
  obtain⟨j,hj⟩:∃j:Nat,key / 65536=(j:Int):=⟨(key / 65536).toNat,by omega⟩
  rw[hj,if_pos (by omega),if_pos (by omega),decide_eq_true (by omega),Int.toNat_natCast]
  obtain⟨b,o,rfl,ha⟩:=Zp.bj h (show j<zs.length by omega)
  exact Zm.yv n sk tl va lo he ke qu b o zs.length k j key _ _ w (Zm.fK hk.1 hk.2.1) hk.1 hk.2.1 hj (by omega) (ha 0 _ rfl) (ha 1 _ rfl)
 ·rw [if_neg hk,if_neg (by decide),if_neg (by decide)]
  refine Zm.yu n sk tl va lo he ke qu p zs.length k key w ?_;by_cases hk2:0<=key/\key<=524287
  ·exact .inr ⟨Zm.fK hk2.1 hk2.2,hk2.1,hk2.2,by omega⟩
  ·exact .inl (Zm.gp hk2)
open Zw (Lz bC bH)
open Zu (It rq QY Sn)
def mb (r:Rq):Prop:=1<=r.cost/\0<=r.bU/\r.bU<=2/\0<=r.bR/\r.bR<=1099511627776/\right r.key
instance (r:Rq):Decidable (mb r):=by unfold mb;infer_instance
theorem AM (Q:List It)(r:Rq):E2 Q r↔¬mb r∨0<=Zu.au Q r.id:=by
 unfold E2 mb;by_cases h:right r.key
 ·simp only[h,not_true_eq_false,and_true,false_or]
  omega
 ·simp only[h,not_false_eq_true,and_false,true_or]
  simp
theorem Gn (key:Int)(w:World):Calls prog 134 #[.int .i64 key] w fun e' w'=>e'=.returned (.bool (decide (right key)))/\w=w':=by
 have:=Zm.fC key w;have e:Zm.aB key 0 524287=decide (right key):=by
  by_cases h:right key
  ·rw [decide_eq_true h];exact Zm.fK h.1 h.2
  ·rw [decide_eq_false h];exact Zm.gp h
 rwa [e] at this
theorem K8 (r:Rq)(w:World) :
 Calls prog 84 #[kY r] w fun e w'=>e=.returned (.bool (decide (mb r)))/\Below w.heap.size w w':=by
 have HR:=hid (fun u=>Gn r.key u)
 have b9:(¬1<=r.cost/\decide (mb r)=false)∨1<=r.cost/\((¬0<=r.bU/\decide (mb r)=false)∨0<=r.bU/\((¬r.bU<=2/\decide (mb r)=false)∨r.bU<=2/\((¬0<=r.bR/\decide (mb r)=false)∨0<=r.bR/\((¬r.bR<=1099511627776/\decide (mb r)=false)∨r.bR<=1099511627776/\decide (mb r)=decide (right r.key))))):=by
  unfold mb;by_cases h1:1<=r.cost
  ·by_cases h2:0<=r.bU
   ·by_cases h3:r.bU<=2
    ·by_cases h4:0<=r.bR
     ·by_cases h5:r.bR<=1099511627776
      ·simp [h1,h2,h3,h4,h5]
      ·simp [h1,h2,h3,h4,h5]
     ·simp [h1,h2,h3,h4]
    ·simp [h1,h2,h3]
   ·simp [h1,h2]
  ·simp [h1]
 generalize decide (mb r)=R at *;generalize decide (right r.key)=K at *;obtain⟨ri,rk,rc,rs,sB⟩:=r;unfold kY;have HB:=hid (cQ w (.cells #[.int .i64 ri,.int .i64 rk,.int .i64 rc,.int .i64 rs,.int .i64 sB] 42));simp only at *;rcases b9 with ⟨h1,rfl⟩ | ⟨h1,⟨h2,rfl⟩ | ⟨h2,⟨h3,rfl⟩ | ⟨h3,⟨h4,rfl⟩ | ⟨h4,⟨h5,rfl⟩ | ⟨h5,rfl⟩⟩⟩⟩⟩
 all_goals
  go_enter func84,ntmps84
  go_wp2_with (go_at_call 134;(with_reducible refine(HR.out _).mono ?_);rintro e1 w1 ⟨rfl,rfl⟩)
  go_ret;exact⟨rfl,HB.out⟩
theorem K9:QY 136:=_root_.Go.Proofs.enters_of func136 (by kernel_rfl) rfl
theorem Di (c:Nat)(id:Int):rq c id 136 (Zu.iP id):=by
 intro u x hc;have hl:=World.block_lt_of_cell? _ _ hc;obtain⟨xi,xk,xc,xs,xt⟩:=x;simp only[Zu.val,Zu.iP];go_enter func136,ntmps136
 go_wp2;go_ret;exact⟨rfl,cQ _ _⟩
section
variable {R:Nat->Prop}{B q qw qq qd:Nat}{w w' u:World}{y:Value}{c:Cf}{e e' e2:Eg}
structure wI (w:World)(q:Nat)(y:Value)(qw qq qd:Nat)(c:Cf):Prop where
 k0:w.cell? ⟨q,0,none⟩=some (.pointer (some ⟨qw,0,none⟩))
 k1:w.cell? ⟨q,1,none⟩=some (.int .i64 c.n)
 k2:w.cell? ⟨q,2,none⟩=some (.int .i64 c.sk)
 k3:w.cell? ⟨q,3,none⟩=some (.int .i64 c.tl)
 k4:w.cell? ⟨q,4,none⟩=some (.int .i64 c.va)
 k5:w.cell? ⟨q,5,none⟩=some (.int .i64 c.lo)
 k6:w.cell? ⟨q,6,none⟩=some (.int .i64 c.he)
 k7:w.cell? ⟨q,7,none⟩=some (.int .i64 c.ke)
 k8:w.cell? ⟨q,8,none⟩=some (.int .i64 c.qu)
 k9:w.cell? ⟨q,9,none⟩=some y
 uj:w.cell? ⟨q,10,none⟩=some (.pointer (some ⟨qq,0,none⟩))
 Sq:w.cell? ⟨q,11,none⟩=some (.pointer (some ⟨qd,0,none⟩))
theorem In.jh (h:In R B w q y qw qq qd c e):wI w q y qw qq qd c:=by
 have hc:∀i,w.cell? ⟨q,i,none⟩=(Gm qw c y qq qd)[i]? :=fun i=>by rw[cell_of_row w q i _ _ (0,0) h.mW]
 exact⟨hc 0,hc 1,hc 2,hc 3,hc 4,hc 5,hc 6,hc 7,hc 8,hc 9,hc 10,hc 11⟩
theorem In.aH (h:In R B w q y qw qq qd c e):∃p k,y=.slice p c.zs.length k/\aL ib w p c.zs:=h.rt.gi
theorem Gp (h:In R B w q y qw qq qd c e)(hl:e.Q.length<=16)(id:Int) :
 Calls prog 85 #[.pointer (some ⟨q,0,none⟩),.int .i64 id] w fun e' w'=>e'=.returned (.bool (decide (0<=Zu.au e.Q id)))/\Below w.heap.size w w':=by
 have hb:=cQ w (.cells #[.int .i64 id] 3);have uj:=(h.below hb).jh.uj;have HA:=hid (Zu.iz (h.below hb).qu hl);have hI9:(w.alloc (.cells #[.int .i64 id] 3)).cell? ⟨w.heap.size,0,none⟩=some (.int .i64 id):=cell_of_row _ w.heap.size 0 _ _ (0,0) (heap_alloc_new w (.cells #[.int .i64 id] 3));have HID:=hid (fun(u:World) (hu:Below (w.alloc (.cells #[.int .i64 id] 3)).heap.size (w.alloc (.cells #[.int .i64 id] 3)) u)=>af hI9 hu)
 have HB:=hid hb;have HC:=hid (fun(u:World) (p:Option Addr) (d:Nat) (hp:aL Zu.aN u p e.Q) (hc:u.cell? ⟨w.heap.size,0,none⟩=some (.int .i64 id))=>Zu.rr K9 (Di w.heap.size id) (d:=d) hp (by omega) hc)
 rw[show Zu.au e.Q id=Zv.spot (Zu.iP id) e.Q from rfl]
 generalize Zv.spot (Zu.iP id) e.Q=R at *;clear h hb hI9;go_enter func85,ntmps85
 go_wp2_with (first
  |(go_at_call 36;(with_reducible refine HA.out.mono ?_);rintro e1 w1 ⟨y1,rfl,ho,hb⟩;obtain⟨p1,d1,rfl,iG⟩:=Zp.Own.gi ho;have pz:=hid iG;have aO:=hid hb;clear ho hb iG HA)
  |(go_at_call 135;(with_reducible refine(HC.out _ _ _ pz.out (HID.out _ aO.out)).mono ?_);rintro e1 w2 ⟨rfl,hb⟩;have bJ:=hid (HB.out.trans ((aO.out.trans (hb.mono aO.out.size)).mono HB.out.size));clear hb HC))
 go_ret;exact⟨rfl,bJ.out⟩
end
open Zu (It take)
theorem Oh {c:Cf}(key now:Int):∀(m t:List It)(e:Eg),bu c e->Zu.of e.Q key=m++t->(serves key now m e).2.length=m.length->Zu.of (serves key now m e).1.Q key=t
 | [],t,e,_,h,_=>by simpa[serves] using h
 | x :: m,t,e,hg,h,hl=>by
   obtain⟨-,-,h1,h2,-,-,-⟩:=Zu.Oe hg.q (show Zu.of e.Q key=x :: (m++t) from h)
   simp only[serves] at hl ⊢;split at hl
   ·rename_i hs
    rw[if_pos hs];refine Oh key now m t _ (oh (jR hg key x.cost now) x.id) ?_ (by simpa using hl)
    show Zu.of (take e.Q x.id).1 key=m++t
    rw[h1];exact h2
   ·simp at hl
section
variable {R:Nat->Prop}{B q qw qq qd:Nat}{w w' u u':World}{y:Value}{c:Cf}{e e' e2:Eg}
theorem bZ.push (m:bZ R B w q y qw qq qd c e' u)(hB:B<=w.heap.size)(k:bS [60] u u')(b:Below w.heap.size u u'):bZ R B w q y qw qq qd c e' u' :=
 ⟨m.kr.kept ⟨k.size,fun g o e ht=>k.tD g o e fun cs t z e2 h=>ht cs t z e2 (by simp at h;simp[h])⟩,
  ⟨Nat.le_trans m.off.size k.size,fun g cs t z e ht=>(b.block g (ae e)).trans (m.off.block g cs t z e ht)⟩,m.below.trans (b.mono hB),
  fun g cs z hr hg=>k.block g _ _ _ (m.rest g cs z hr hg) (by decide),⟨Nat.le_trans m.lf.size k.size,fun g cs t z e ht=>k.block g _ _ _ (m.lf.block g cs t z e ht) (by rintro h;simp only[List.mem_singleton] at h;subst h;simp[fV] at ht)⟩,fun g hr hn hl=>(b.block g hl).trans (m.bM g hr hn hl)⟩
def slen:Value->Nat
 | .slice _ n _=>n
 | _=>0
theorem bZ.box (m:bZ R B w q y qw qq qd c e' w'){g:Nat}(hr:R g){x:It}(hg:w.heap[g]? =some (.cells #[.int .i64 x.id,.int .i64 x.key,.int .i64 x.cost,.int .i64 x.bU,.int .i64 x.cJ] 136 (0,0))) :
 w'.heap[g]? =some (.cells #[.int .i64 x.id,.int .i64 x.key,.int .i64 x.cost,.int .i64 x.bU,.int .i64 x.cJ] 136 (0,0)):=m.rest g _ _ hr hg
theorem bZ.sub {F:Nat->Prop}(h:bZ R B w q y qw qq qd c e' w')(hF:∀g,F g->R g):bZ F B w q y qw qq qd c e' w':=⟨h.kr.sub hF,h.off,h.below,fun g cs z hr hg=>h.rest g cs z (hF g hr) hg,h.lf,fun g hr=>h.bM g (hF g hr)⟩
theorem Ur (h:In R B w q y qw qq qd c e)(x:It):In (fun k=>k=w.heap.size∨R k) B (w.alloc (.cells #[.int .i64 x.id,.int .i64 x.key,.int .i64 x.cost,.int .i64 x.bU,.int .i64 x.cJ] 136)) q y qw qq qd c e :=
 (h.grow (cQ w _)).sub fun g hg=>hg.elim (fun e=>.inr (by subst e;simp)) .inl
theorem Gq (P:Zu.jz Zu.Pq)(h:In R B w q y qw qq qd c e)(hB:B<=w.heap.size)(hg:bu c e)(hf:e.L.length<=150/\e.Q.length<=16){key now:Int}(hk:bC key) :
 Calls prog 205 #[.pointer (some ⟨q,0,none⟩),.int .i64 key,.int .i64 now] w fun e' w'=>∃v,e'=.returned v/\eo w' v (mI e key now).2/\bZ R B w q y qw qq qd c (mI e key now).1 w':=by
 have eF:=hid hB;have HV:=hid h;have aT:=Zu.lR e.Q key;have Tt:=hf.2;have SV:=hid (show mI e key now=serves key now (Zu.of e.Q key) e from rfl)
 have OF:=hid (fun(j:Nat) (hj:(serves key now ((Zu.of e.Q key).take j) e).2.length=((Zu.of e.Q key).take j).length)=>Oh key now ((Zu.of e.Q key).take j) ((Zu.of e.Q key).drop j) e hg (List.take_append_drop j _).symm hj)
 have HQ0:=hid (fun x (hx:x∈Zu.of e.Q key)=>(hg.q.mO x (Zu.Gj hx).1).2)
 generalize mI e key now=RV at *;generalize Zu.of e.Q key=l at *;have S0:=hid (show serves key now (l.take 0) e=(e,[]) from rfl)
 have SS:=hid (fun(j:Nat) (hj:j<l.length)=>show serves key now (l.take (j+1)) e=_ from by rw[aA Zu.z hj,nC])
 have ST:=hid (fun(j:Nat) (hj:j<l.length) (hs:(serves key now (l.take (j+1)) e).2.length<(l.take (j+1)).length)=>show serves key now l e=serves key now (l.take (j+1)) e from by
  have:=nD key now (l.take (j+1)) (l.drop (j+1)) e hs;rwa [List.take_append_drop] at this)
 have SL:=hid (show serves key now l e=serves key now (l.take l.length) e by rw[List.take_length])
 have SG:=hid (fun j=>kM key now (l.take j) hg)
 have SF:=hid (fun j=>l6 key now (l.take j) e)
 have HD:=hid (fun j (hj:j<=l.length)=>Zu.K7 l hj)
 have HF:=hid hf;have Vq:=hid HQ0.out;generalize Qr:(fun j=>serves key now (l.take j) e)=SE
 have Nr:∀j,serves key now (l.take j) e=SE j:=fun j=>by rw[<-Qr]
 simp only[Nr] at S0 SS ST SL SG SF OF;clear h hg hf hB Qr Nr;go_enter func205,ntmps205
 go_wp2;go_loopw [7] (fun o wr=>∃(j:Nat) (p:Option Addr) (d:Nat),j<=l.length/\o=.slice p j d/\Hid (Zp.Own iH 60 w.heap.size wr o (SE j).2)/\Hid ((SE j).2.length=j)/\Hid (bZ R B w q y qw qq qd c (SE j).1 wr)) (fun o _=>l.length-slen o)
 case atStart=>exact ⟨0,none,0,by omega,rfl,by rw[S0.out];exact hid (Zp.Own.none _ _ _ _),by rw[S0.out];exact hid rfl,by rw[S0.out];exact hid (bZ.same HV.out eF.out (Below.refl _ _))⟩
 case round =>
  obtain⟨j,p,d,hj,rfl,ax,hn,hst⟩:=hrel;have hgd:=SG.out j;obtain⟨f1,f2,f3⟩:=SF.out j;have Ee:(SE j).1.L.length<=150:=by have:=HF.out.1;omega
  have Tu:(SE j).1.Q.length<=16:=by have:=HF.out.2;omega
  have uj:=hst.out.kr.jh.uj;have Us:=hid (Nat.le_trans eF.out hst.out.off.size);have c1:=P.first hst.out.kr.qu hgd.q Tu key hk
  rw[OF.out j (by rw[hn.out,List.length_take];omega),HD.out j hj] at c1
  have tV:=hid (fun u (hu:Below wr.heap.size wr u)=>hst.out.on eF.out hu)
  have WX:=hid (fun u (x:It) (hu:Below wr.heap.size wr u)=>Ur (hst.out.on eF.out hu).kr x)
  have Xm:=hid hgd;have Xn:=hid Ee;have AB:=hid (fun v (g:Nat) (L:List Lz) (id:Int) (hi:Zu.bC id) (hv:In (fun k=>k=g∨R k) B v q y qw qq qd c ⟨L,(SE j).1.Q,(SE j).1.D⟩) (hb:B<=v.heap.size)=>Xl P hv hb hgd.q Tu id hi)
  have HNM:=hid (fun TS:j<l.length=>(Vq.out _ (List.getElem_mem TS)).1)
  by_cases aC:j<l.length
  ·have HID:=hid (show Zu.bC (l.getD j Zu.z).id by have:=HNM.out aC;simpa[List.getD,aC] using this)
   have Bh:=hid (SS.out j aC);have HST:=hid (ST.out j aC);rw[if_pos (by rw[hn.out,List.length_take];omega)] at Bh
   rw[decide_eq_true aC] at c1;have Tw:=hid (show(l.take (j+1)).length=j+1 by simp;omega)
   clear SS ST SG SF Tu f1 f2 f3 HF S0 SL HD OF HNM Vq P;generalize l.getD j Zu.z=x at *;have Xo:=hid (fun u=>WX.out u x)
   have nt:=hid (fun u:World=>heap_alloc_new u (.cells #[.int .i64 x.id,.int .i64 x.key,.int .i64 x.cost,.int .i64 x.bU,.int .i64 x.cJ] 136))
   have HMB:=hid (fun u (e':Eg) (w':World) (m:bZ (fun k=>k=u.heap.size∨R k) B (u.alloc (.cells #[.int .i64 x.id,.int .i64 x.key,.int .i64 x.cost,.int .i64 x.bU,.int .i64 x.cJ] 136)) q y qw qq qd c e' w')=>bQ (m.box (x:=x) (.inl rfl) (nt.out u)))
   clear WX;obtain⟨xi,xk,xc,xs,xt⟩:=x;simp only[Zu.val] at *;have Tv:=fun h=>qT (L:=(SE j).1.L) (k:=key) (x:=xc) (now:=now) h
   generalize Jz:SE j=S at *;obtain⟨⟨L,Q,D⟩,jf⟩:=S;simp only at *;generalize hsp:bH L key xc now=SP at *;obtain⟨L',gen,ok⟩:=SP;simp only at *;go_wp2_with (first
    |(go_at_call 86;(with_reducible refine c1.mono ?_);rintro e1 w1 ⟨rfl,hb⟩;have aO:=hid hb;clear hb c1))
   have Em:=hid (Xo.out _ aO.out);have Sr:=hid (tV.out _ (aO.out.trans ((cQ w1 (.cells #[.int .i64 xi,.int .i64 xk,.int .i64 xc,.int .i64 xs,.int .i64 xt] 136)).mono aO.out.size)));have lX:=hid (nt.out w1);have CZ:=hid (Nat.le_trans Us.out (Nat.le_trans aO.out.size (cQ w1 (.cells #[.int .i64 xi,.int .i64 xk,.int .i64 xc,.int .i64 xs,.int .i64 xt] 136)).size));have oY:=hid (ax.out.on (aO.out.trans ((cQ w1 (.cells #[.int .i64 xi,.int .i64 xk,.int .i64 xc,.int .i64 xs,.int .i64 xt] 136)).mono aO.out.size)));clear aO Xo nt HMB tV uj hst ax;generalize w1.heap.size=g at *;generalize w1.alloc (.cells #[.int .i64 xi,.int .i64 xk,.int .i64 xc,.int .i64 xs,.int .i64 xt] 136)=w2 at *;have Xp:=hid (Em.out.below (Below.refl _ w2).drew);have Oi:=Og Xp.out (Nat.le_trans CZ.out (Below.refl w2.heap.size w2).drew.size) Xm.out.l Xn.out (cost:=xc) (now:=now) hk;have Ut:=hid (Sr.out.on eF.out (Below.refl _ w2).drew);have Uu:=hid (oY.out.on (Below.refl _ w2).drew);have s0:=Em.out.jh.k0;have s2:=(bQ lX.out).2.2.1;simp only[hsp] at Oi;have Uv:=hid (fun v (L:List Lz) hv hb=>AB.out v g L xi HID.out hv hb)
   clear AB;cases ok
   ·have HR:=hid (show RV=(⟨L,Q,D⟩,jf) by
     have e1:=Bh.out;rw[if_neg (by simp)] at e1
     rw[SV.out,HST.out (by rw[e1,Tw.out];simp only;have:=hn.out;omega),e1])
    obtain rfl:=Tv rfl;clear Bh HST SV Tv Jz Uv;go_wp2;go_region_held3 (fun u=>u.cell? ⟨q,0,none⟩=some (.pointer (some ⟨qw,0,none⟩))/\u.cell? ⟨g,2,none⟩=some (.int .i64 xc)) (first | assumption | exact⟨s0,s2⟩) (first
     |(go_at_call 87;(with_reducible refine Oi.mono ?_);rintro e1 w3 ⟨rfl,h3⟩;have H3:=hid h3;have y3:_/\_:=⟨h3.kr.jh.k0,(bQ (h3.box (x:=⟨xi,xk,xc,xs,xt⟩) (.inl rfl) lX.out)).2.2.1⟩;clear h3 Oi))
    go_wp2;refine bodyPost_ret (v:=.slice p j d) (by simp[results,results205,go_sem]) rfl ?_
    refine⟨_,rfl,?_,?_⟩
    ·rw [HR.out]
     have:=wH (Zp.Own.off Uu.out H3.out.off (by simp[eV]))
     exact this
    ·rw [HR.out]
     exact Ut.out.trans (H3.out.sub fun _ h=>.inr h)
   ·have HE:=hid (show SE (j+1)=(⟨L',(take Q xi).1,D⟩,jf++[⟨xi,gen,0⟩]) by have e1:=Bh.out;rwa [if_pos (by simp)] at e1)
    clear Bh HST SV Tv Jz Tw;go_wp2;go_region_held3 (fun u=>u.cell? ⟨q,0,none⟩=some (.pointer (some ⟨qw,0,none⟩))/\u.cell? ⟨g,2,none⟩=some (.int .i64 xc)) (first | assumption | exact⟨s0,s2⟩) (first
     |(go_at_call 87;(with_reducible refine Oi.mono ?_);rintro e1 w3 ⟨rfl,h3⟩;have H3:=hid h3;have y3:_/\_:=⟨h3.kr.jh.k0,(bQ (h3.box (x:=⟨xi,xk,xc,xs,xt⟩) (.inl rfl) lX.out)).2.2.1⟩;clear h3 Oi))
    clear y3 s0 s2;have rN:=hid (H3.out.box (x:=⟨xi,xk,xc,xs,xt⟩) (.inl rfl) lX.out);have zV:=H3.out.kr.jh.uj;have s1:=(bQ rN.out).1;have Tx:=hid (Nat.le_trans CZ.out (Nat.le_trans (Below.refl w2.heap.size w2).drew.size H3.out.off.size));have Xq:=hid (H3.out.kr.below (Below.refl _ w3).drew);have c3:=Uv.out _ L' Xq.out (Nat.le_trans Tx.out (Below.refl w3.heap.size w3).drew.size);have Xr:=hid ((Ut.out.trans (H3.out.sub fun _ h=>.inr h)).on eF.out (Below.refl _ w3).drew)
    have Xu:=hid ((Zp.Own.off Uu.out H3.out.off (by simp[eV])).on (Below.refl _ w3).drew)
    clear Uv Xp Em Sr oY Ut Uu;go_wp2;go_region_held3 (fun u=>u.cell? ⟨q,10,none⟩=some (.pointer (some ⟨qq,0,none⟩))/\u.cell? ⟨g,0,none⟩=some (.int .i64 xi)) (first | assumption | exact⟨zV,s1⟩) (first
     |(go_at_call 162;(with_reducible refine c3.mono ?_);rintro e1 w4 ⟨rfl,h4⟩;have H4:=hid h4;have y4:_/\_:=⟨h4.kr.jh.uj,(bQ (h4.box (x:=⟨xi,xk,xc,xs,xt⟩) (.inl rfl) rN.out)).1⟩;clear h4 c3))
    clear zV s1;obtain⟨-,s1⟩:=y4;have hM4:=hid (Xr.out.trans (H4.out.sub fun _ h=>.inr h))
    have hO4:=hid (Zp.Own.off Xu.out H4.out.off (by simp[eV]))
    clear Xq Xr Xu H3 H4 rN lX;have c5:=ui xi gen w4;simp only[vU] at c5;go_wp2_with (first
     |(go_at_call 41;(with_reducible refine c5.mono ?_);rintro e1 w5 ⟨rfl,hb⟩;have hM5:=hid (hM4.out.on eF.out hb);have hO5:=hid (hO4.out.on hb);clear hb c5)
     |(at_builtin;refine Ik yq rfl _ _ rfl w.heap.size w5 (.slice p j d) rfl jf j hn.out hO5.out hM5.out.off.size (cQ _ _) w5.heap.size ⟨xi,gen,0⟩ rfl (heap_alloc_new _ _) (by omega) ?_;intro p6 c6 w6 R6 K6 B6))
    go_roundw
    case rel=>exact ⟨j+1,p6,c6,by omega,rfl,by rw[HE.out];exact R6,by rw[HE.out];exact hid (by simp[hn.out]),by rw[HE.out];exact hid ((hM5.out.on eF.out (cQ w5 _)).push eF.out K6 B6)⟩
    case measure=>simp only[slen];omega
  ·obtain rfl:j=l.length:=by omega
   have HR:=hid (show RV=SE l.length by rw[SV.out,SL.out])
   rw[decide_eq_false aC] at c1;have HT:=hid (wH ax.out);clear SS ST SG SF Ee Tu f1 f2 f3 hgd HF S0 SL HD OF HNM Vq AB WX Xm Xn P;generalize l.getD l.length Zu.z=x at *;obtain⟨xi,xk,xc,xs,xt⟩:=x;simp only[Zu.val] at *;go_wp2_with (first
    |(go_at_call 86;(with_reducible refine c1.mono ?_);rintro e1 w1 ⟨rfl,hb⟩;have aO:=hid hb;clear hb c1))
   refine bodyPost_ret (v:=.slice p l.length d) (by simp[results,results205,go_sem]) rfl ?_
   have gH:=aO.out.trans ((cQ w1 (.cells #[.int .i64 xi,.int .i64 xk,.int .i64 xc,.int .i64 xs,.int .i64 xt] 136)).mono aO.out.size);exact⟨_,rfl,by rw[HR.out];exact HT.out.below gH,by rw[HR.out];exact hst.out.on eF.out gH⟩
end
section
variable {R:Nat->Prop}{B q qw qq qd:Nat}{w w' u u':World}{y:Value}{c:Cf}{e e' e2:Eg}
theorem Gt (P:Zu.jz Zu.Pq)(h:In R B w q y qw qq qd c e)(hB:B<=w.heap.size)(hg:bu c e)(hf:iL e)(x:Lz)(hx:Zw.kV x)(now:Int) :
 Calls prog 164 #[.pointer (some ⟨q,0,none⟩),Zw.val x,.int .i64 now] w fun e' w'=>∃v,e'=.returned v/\eo w' v (aQ e x now).2/\bZ R B w q y qw qq qd c (aQ e x now).1 w':=by
 have gH:=cQ w (.cells #[.int .i64 x.key,.int .i64 x.gen,.int .i64 x.aK,.int .i64 x.spent,.int .i64 x.cJ] 135);have Bo:=hid (bZ.same h hB gH);have Uw:=hid (bZ.same h hB (gH.trans ((Below.refl _ _).drew.mono gH.size)));have s0:=Bo.out.kr.jh.k0;have c1:=abR Uw.out.kr (Nat.le_trans hB gH.size) hg.l hf.1 x hx;have c2:=fun u (hs:In R B u q y qw qq qd c ⟨(Zw.put e.L x).1,e.Q,e.D⟩) (hb:B<=u.heap.size)=>Gq P hs hb (jQ hg hx) ⟨by have:=Zw.Hq e.L x;have:=hf.1;simp only;omega,hf.2.1⟩ (now:=now) hx.1
 have hG:aQ e x now=if (Zw.put e.L x).2=0 then mI ⟨(Zw.put e.L x).1,e.Q,e.D⟩ x.key now else (e,[]):=rfl
 have hno:(Zw.put e.L x).2≠0->(Zw.put e.L x).1=e.L:=by
  unfold Zw.put;split
  ·intro _;rfl
  ·split
   ·intro _;rfl
   ·intro h0;exact absurd rfl h0
 have HB:=hid (Nat.le_trans hB gH.size);have HK:=hid (heap_alloc_new w (.cells #[.int .i64 x.key,.int .i64 x.gen,.int .i64 x.aK,.int .i64 x.spent,.int .i64 x.cJ] 135));have cA:=hid hB;generalize aQ e x now=RV at *;generalize Zw.put e.L x=PU at *;obtain⟨L',f⟩:=PU;obtain⟨xk,xg,xa,xs,xt⟩:=x;simp only[Zw.val] at *;obtain⟨b0,b1,b2,b3,b4⟩:=bQ HK.out;clear h hg hf hx P gH Bo;by_cases hf:f=0
 ·subst hf
  rw[if_pos rfl] at hG;subst hG;clear hno;go_enter func164,ntmps164
  go_wp2;generalize w.alloc (.cells #[.int .i64 xk,.int .i64 xg,.int .i64 xa,.int .i64 xs,.int .i64 xt] 135)=w0 at *;generalize w.heap.size=g at *;go_region_held3 (fun u=>u.cell? ⟨q,0,none⟩=some (.pointer (some ⟨qw,0,none⟩))/\u.cell? ⟨g,0,none⟩=some (.int .i64 xk)/\u.cell? ⟨g,1,none⟩=some (.int .i64 xg)/\u.cell? ⟨g,2,none⟩=some (.int .i64 xa)/\u.cell? ⟨g,3,none⟩=some (.int .i64 xs)/\u.cell? ⟨g,4,none⟩=some (.int .i64 xt)) (first | assumption | exact⟨s0,b0,b1,b2,b3,b4⟩) (first
   |(go_at_call 204;(with_reducible refine c1.mono ?_);rintro e1 w1 ⟨rfl,h1⟩;have H1:=hid h1;have y1:_/\_:=⟨h1.kr.jh.k0,bQ (h1.lf.block g _ _ _ HK.out (by simp[fV]))⟩;clear h1 c1))
  clear s0 b0 b1 b2 b3 b4;obtain⟨-,b0,-⟩:=y1;have hb1:=hid (Nat.le_trans HB.out (Nat.le_trans (Below.refl w0.heap.size w0).drew.size H1.out.off.size));go_wp2_with (go_at_call 205;(with_reducible refine(c2 _ H1.out.kr hb1.out).mono ?_);rintro e1 w2 ⟨v,rfl,ht,h2⟩;have H2:=hid h2;have HT:=hid ht;clear h2 ht c2)
  go_ret;exact⟨v,rfl,HT.out,Uw.out.trans (H1.out.trans H2.out)⟩
 ·rw [if_neg hf] at hG
  subst hG;obtain rfl:=hno hf;have hf2:(f != 0)=true:=by simp[hf]
  clear hno c2;go_enter func164,ntmps164
  go_wp2;generalize w.alloc (.cells #[.int .i64 xk,.int .i64 xg,.int .i64 xa,.int .i64 xs,.int .i64 xt] 135)=w0 at *;generalize w.heap.size=g at *;go_region_held3 (fun u=>u.cell? ⟨q,0,none⟩=some (.pointer (some ⟨qw,0,none⟩))/\u.cell? ⟨g,0,none⟩=some (.int .i64 xk)/\u.cell? ⟨g,1,none⟩=some (.int .i64 xg)/\u.cell? ⟨g,2,none⟩=some (.int .i64 xa)/\u.cell? ⟨g,3,none⟩=some (.int .i64 xs)/\u.cell? ⟨g,4,none⟩=some (.int .i64 xt)) (first | assumption | exact⟨s0,b0,b1,b2,b3,b4⟩) (first
   |(go_at_call 204;(with_reducible refine c1.mono ?_);rintro e1 w1 ⟨rfl,h1⟩;have H1:=hid h1;have y1:_/\_:=⟨h1.kr.jh.k0,bQ (h1.lf.block g _ _ _ HK.out (by simp[fV]))⟩;clear h1 c1))
  clear s0 b0 b1 b2 b3 b4;go_wp2;go_ret;exact⟨_,rfl,gB _,Uw.out.trans H1.out⟩
theorem pW (h:In R B w q y qw qq qd c e)(hB:B<=w.heap.size)(hg:bu c e)(hf:iL e){key gen:Int}(hk:bC key) :
 Calls prog 104 #[.pointer (some ⟨q,0,none⟩),.int .i64 key,.int .i64 gen] w fun e' w'=>e'=.returned (.int .i64 (bB e key gen).2)/\bZ R B w q y qw qq qd c (bB e key gen).1 w':=by
 have c1:=Uq h hB hg.l (gen:=gen) hk;have c2:=fun u (hs:In R B u q y qw qq qd c ⟨(Zw.bB e.L key gen).1,e.Q,e.D⟩) (hb:B<=u.heap.size)=>Xh hs hb (by have:=hf.2.2;simp only;omega) (spent:=(Zw.bB e.L key gen).2) hk
 have hG:bB e key gen=(⟨(Zw.bB e.L key gen).1,e.Q,if 0<=(Zw.bB e.L key gen).2 then e.D++[⟨key,(Zw.bB e.L key gen).2⟩] else e.D⟩,(Zw.bB e.L key gen).2):=rfl
 have HB:=hid hB;have s0:=h.jh.k0;generalize bB e key gen=RR at *;generalize Zw.bB e.L key gen=P at *;obtain⟨L',n⟩:=P;simp only at *;clear h hf hg;by_cases hn:0<=n
 ·rw [if_pos hn] at hG
  subst hG;generalize Zz.of (e.D++[⟨key,n⟩]) key=dv at *;go_enter func104,ntmps104
  go_wp2_with (first
   |(go_at_call 151;(with_reducible refine c1.mono ?_);rintro e1 w1 ⟨rfl,h1⟩;have H1:=hid h1;have YB:=h1.kr.jh.Sq;clear h1 c1)
   |(go_at_call 152;(with_reducible refine(c2 _ H1.out.kr (Nat.le_trans HB.out H1.out.off.size)).mono ?_);rintro e1 w2 ⟨rfl,h2⟩;have H2:=hid h2;clear h2 c2))
  go_ret;exact⟨rfl,H1.out.trans H2.out⟩
 ·rw [if_neg hn] at hG
  subst hG;clear c2;go_enter func104,ntmps104
  go_wp2_with (go_at_call 151;(with_reducible refine c1.mono ?_);rintro e1 w1 ⟨rfl,h1⟩;have H1:=hid h1;clear h1 c1)
  go_ret;exact⟨rfl,H1.out⟩
theorem sZ (h:In R B w q y qw qq qd c e)(hB:B<=w.heap.size)(hf:iL e)(gen:Int) :
 Calls prog 106 #[.pointer (some ⟨q,0,none⟩),.int .i64 gen] w fun e' w'=>e'=.returned (.tuple #[])/\bZ R B w q y qw qq qd c (drop e gen) w':=by
 have c1:=Xg h hB hf.1 gen;have s0:=h.jh.k0;rw[show drop e gen=⟨(Zw.drop e.L gen).1,e.Q,e.D⟩ from rfl]
 generalize Zw.drop e.L gen=P at *;obtain⟨L',n⟩:=P;simp only at *;clear h;go_enter func106,ntmps106
 go_wp2_with (go_at_call 157;(with_reducible refine c1.mono ?_);rintro e1 w1 ⟨rfl,h1⟩;have H1:=hid h1;clear h1 c1)
 go_end0
 exact⟨rfl,H1.out⟩
theorem AO (h:In R B w q y qw qq qd c e)(hf:iL e) :
 Calls prog 24 #[.pointer (some ⟨q,0,none⟩)] w fun x w'=>∃p k,x=.returned (.slice p e.Q.length k)/\aL Zu.aN w' p e.Q/\eW w' p 136/\Below w.heap.size w w':=by
 have c1:=Zu.iz h.qu hf.2.1;have zV:=h.jh.uj;clear h hf;go_enter func24,ntmps24
 go_wp2_with (go_at_call 36;(with_reducible refine c1.mono ?_);rintro e1 w1 ⟨v,rfl,ho,hb⟩;have HO:=hid ho;have aO:=hid hb;clear ho hb c1)
 go_ret;obtain⟨p,k,rfl,hl⟩:=HO.out.gi;refine⟨p,k,rfl,hl,?_,aO.out⟩;rintro a rfl;rcases HO.out.2 with ⟨e,-⟩ | ⟨g,cap,cur,e,-,k,-⟩
 ·simp at e
 ·simp only[Value.slice.injEq,Option.some.injEq] at e
  obtain⟨rfl,-,-⟩:=e;exact⟨_,_,k⟩
end
end Zy
end Go.Proofs.YtbgdlokegibkmaaGreat
