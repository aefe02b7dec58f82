/-
  A part of the proof of VisitPlays.
-/
import Derived.Deep.DeepCutAuto
import Derived.Test.YtbgdlokegibkmaaGreatMpBe
set_option maxRecDepth 100000
namespace Go.Proofs.YtbgdlokegibkmaaGreat
open Go.RowKit
open Tryz
open Lib (hid)
namespace Zo
open Zx (Rw Tb Tk aq ak dK ar af cG bn lg jB Kp kU my)
open Zq (cX ae aj ai cL)
theorem Ls {u u':World}{r:Option Addr}{l:List Rw}(h:my u r l)(hs:jB 0 u r l)(k:Kp 0 80 u u'):my u' r l:=fun g o hr j hj=>by
 obtain⟨q,c,hc⟩:=h g o hr j hj;refine⟨q,c,?_⟩;rcases hs with h0 | ⟨b,o',e,hl,-⟩
 ·rw [h0] at hj;simp at hj
 ·rw [hr] at e
  simp only[Option.some.injEq,Addr.mk.injEq,and_true] at e;obtain⟨rfl,rfl⟩:=e;rcases hl with hl | ⟨cs,z,hl⟩
  ·omega
  ·exact (World.cell?_of_block (a:=⟨g,_,none⟩) ((k.2.2 g cs _ hl).trans hl.symm)).trans hc
def rz (u:World)(r:Option Addr)(l:List Rw):Prop:=jB 0 u r l/\my u r l
theorem rz.bM {u u':World}{r:Option Addr}{l:List Rw}(h:rz u r l)(k:Kp 0 80 u u')(k':Kp 0 141 u u'):rz u' r l:=⟨h.1.bM k k',Ls h.2 h.1 k⟩
structure Sy (w:World)(t:Tk)(q:Option Addr)(k:Nat)(r:Option Addr)(m:Nat)(u:World):Prop where
 stamps:lg w.heap.size u q t.stamps
 rows:rz u r t.table.rows
 box:u.heap[w.heap.size]? =some (.cells #[.int .i64 t.gen,.int .i64 t.bP,.slice q t.stamps.length k,.int .i64 t.table.start,.slice r t.table.rows.length m] 30 (0,0))
 out:u.heap[w.heap.size+1]? =some (.cells #[.int .i64 0,.int .i64 0,.slice none 0 0,.int .i64 0,.slice none 0 0] 30 (0,0))
 below:Below w.heap.size w u
theorem dH {u:World}{g:Nat}{z0 z1 z2 z3 z4:Value}{T:TypeId}(h:u.heap[g]? =some (.cells #[z0,z1,z2,z3,z4] T (0,0)))(v0 v1 v2 v3 v4:Value) :
 (((((u.setCell ⟨g,0,none⟩ v0).setCell ⟨g,1,none⟩ v1).setCell ⟨g,2,none⟩ v2).setCell ⟨g,3,none⟩ v3).setCell ⟨g,4,none⟩ v4).heap[g]? =some (.cells #[v0,v1,v2,v3,v4] T (0,0)):=by
 have h1:(u.setCell ⟨g,0,none⟩ v0).heap[g]? =some (.cells #[v0,z1,z2,z3,z4] T (0,0)):=by rw[ai _ 0 _ _ h];rfl
 have h2:((u.setCell ⟨g,0,none⟩ v0).setCell ⟨g,1,none⟩ v1).heap[g]? =some (.cells #[v0,v1,z2,z3,z4] T (0,0)):=by rw[ai _ 1 _ _ h1];rfl
 have h3:(((u.setCell ⟨g,0,none⟩ v0).setCell ⟨g,1,none⟩ v1).setCell ⟨g,2,none⟩ v2).heap[g]? =some (.cells #[v0,v1,v2,z3,z4] T (0,0)):=by rw[ai _ 2 _ _ h2];rfl
 have h4:((((u.setCell ⟨g,0,none⟩ v0).setCell ⟨g,1,none⟩ v1).setCell ⟨g,2,none⟩ v2).setCell ⟨g,3,none⟩ v3).heap[g]? =some (.cells #[v0,v1,v2,v3,z4] T (0,0)):=by rw[ai _ 3 _ _ h3];rfl
 rw[ai _ 4 _ _ h4];rfl
theorem wQ (u:World)(g:Nat)(v0 v1 v2 v3 v4:Value):u.grownBy (((((u.setCell ⟨g,0,none⟩ v0).setCell ⟨g,1,none⟩ v1).setCell ⟨g,2,none⟩ v2).setCell ⟨g,3,none⟩ v3).setCell ⟨g,4,none⟩ v4) (some g) :=
 ((((cL g 0 v0).trans (cL g 1 v1)).trans (cL g 2 v2)).trans (cL g 3 v3)).trans (cL g 4 v4)
theorem Sy.start {w w0 w1:World}{t:Tk}{q r:Option Addr}{k m:Nat}{z0 z1 z2 z3 z4:Value}(b0:Below w.heap.size w w0)
 (hB:w0.heap[w.heap.size]? =some (.cells #[z0,z1,z2,z3,z4] 30 (0,0)))
 (hR:w0.heap[w.heap.size+1]? =some (.cells #[.int .i64 0,.int .i64 0,.slice none 0 0,.int .i64 0,.slice none 0 0] 30 (0,0)))
 (h1:lg w0.heap.size w1 q t.stamps) (h2:rz w1 r t.table.rows) (hb:Below w0.heap.size w0 w1) :
 Sy w t q k r m (((((w1.setCell ⟨w.heap.size,0,none⟩ (.int .i64 t.gen)).setCell ⟨w.heap.size,1,none⟩ (.int .i64 t.bP)).setCell ⟨w.heap.size,2,none⟩ (.slice q t.stamps.length k)).setCell ⟨w.heap.size,3,none⟩ (.int .i64 t.table.start)).setCell ⟨w.heap.size,4,none⟩ (.slice r t.table.rows.length m)):=by
 have Sw:=(hb.block _ (ae hB)).trans hB;have Y9:=(hb.block _ (ae hR)).trans hR;have hg:=wQ w1 w.heap.size (.int .i64 t.gen) (.int .i64 t.bP) (.slice q t.stamps.length k) (.int .i64 t.table.start) (.slice r t.table.rows.length m);have kp:∀T,T≠30->Kp 0 T w1 _:=fun T hT=>.grown Sw (Ne.symm hT) (Nat.zero_le _) hg
 refine⟨(h1.lower b0.size).bM (kp _ (by decide)),h2.bM (kp _ (by decide)) (kp _ (by decide)),dH Sw _ _ _ _ _,?_,?_⟩
 ·exact (hg.block _ (ae Y9) (by simp)).trans Y9
 ·exact (b0.trans (hb.mono b0.size)).grown hg (Nat.le_trans b0.size hb.size) (fun j hj=>by cases hj;exact Nat.le_refl _)
theorem Sy.set {w u:World}{t:Tk}{g j k m:Nat}{r:Option Addr}(h:Sy w t (some ⟨g,0,none⟩) k r m u)(hj:j<t.stamps.length)(x:Int):u.frozen? ⟨g,j,none⟩=false/\u.cell? ⟨g,j,none⟩=some (.int .i64 (t.stamps.getD j 0))/\Sy w ⟨t.gen,t.bP,t.stamps.set j x,t.table⟩ (some ⟨g,0,none⟩) k r m (u.setCell ⟨g,j,none⟩ (.int .i64 x)):=by
 rcases h.stamps with h0 | ⟨g2,cs,e,hg,hh,hc⟩
 ·rw [h0] at hj;simp at hj
 ·simp only[Option.some.injEq,Addr.mk.injEq,and_true] at e
  subst e;have hgr:=cL (w:=u) g j (.int .i64 x);have hne:∀{b:Nat} {vs:Array Value},u.heap[b]? =some (.cells vs 30 (0,0))->b≠g:=fun hv e=>by
   subst e;rw[hh] at hv;simp at hv
  have hk:∀{b:Nat} {vs:Array Value},u.heap[b]? =some (.cells vs 30 (0,0))->(u.setCell ⟨g,j,none⟩ (.int .i64 x)).heap[b]? =some (.cells vs 30 (0,0)):=fun {b vs} hv=>(Below.heap_setCell _ _ _ _ (hne hv)).trans hv
  have kp:∀T,T≠3->Kp 0 T u (u.setCell ⟨g,j,none⟩ (.int .i64 x)):=fun T hT=>.grown hh (Ne.symm hT) (Nat.zero_le _) hgr
  refine⟨aj hh,hc j hj,⟨.inr ⟨g,_,rfl,hg,ai g j _ _ hh,fun i hi=> ?_⟩,h.rows.bM (kp _ (by decide)) (kp _ (by decide)),?_,hk h.out,h.below.setCell hg _⟩⟩
  ·simp only[List.length_set] at hi
   by_cases og:i=j
   ·subst og
    rw[World.cell?_setCell_same _ _ _ (hc i hi)];simp[List.getD,hi]
   ·rw [World.cell?_setCell_other _ _ _ _ (by intro e;simp only[Addr.mk.injEq] at e;omega),hc i hi]
    simp[List.getD,hi,Ne.symm og]
  ·simp only[List.length_set]
   exact hk h.box
theorem Sy.Sz {w u:World}{t:Tk}{q r:Option Addr}{k m:Nat}(h:Sy w t q k r m u)(v0 v1 v2 v3 v4:Value) :
 lg w.heap.size (((((u.setCell ⟨w.heap.size+1,0,none⟩ v0).setCell ⟨w.heap.size+1,1,none⟩ v1).setCell ⟨w.heap.size+1,2,none⟩ v2).setCell ⟨w.heap.size+1,3,none⟩ v3).setCell ⟨w.heap.size+1,4,none⟩ v4) q t.stamps /\
 rz (((((u.setCell ⟨w.heap.size+1,0,none⟩ v0).setCell ⟨w.heap.size+1,1,none⟩ v1).setCell ⟨w.heap.size+1,2,none⟩ v2).setCell ⟨w.heap.size+1,3,none⟩ v3).setCell ⟨w.heap.size+1,4,none⟩ v4) r t.table.rows /\
 Below w.heap.size w (((((u.setCell ⟨w.heap.size+1,0,none⟩ v0).setCell ⟨w.heap.size+1,1,none⟩ v1).setCell ⟨w.heap.size+1,2,none⟩ v2).setCell ⟨w.heap.size+1,3,none⟩ v3).setCell ⟨w.heap.size+1,4,none⟩ v4):=by
 have hg:=wQ u (w.heap.size+1) v0 v1 v2 v3 v4;have kp:∀T,T≠30->Kp 0 T u _:=fun T hT=>.grown h.out (Ne.symm hT) (Nat.zero_le _) hg
 exact⟨h.stamps.bM (kp _ (by decide)),h.rows.bM (kp _ (by decide)) (kp _ (by decide)),h.below.grown hg h.below.size (fun j hj=>by cases hj;omega)⟩
theorem mA (t:Tk)(ps:Option Addr)(cs:Nat)(p:Option Addr)(c:Nat)(node now:Int)(w:World)(hn:t.stamps.length<=1000)(hm:t.table.rows.length<=1000)(hr:∀r∈t.table.rows,r.out.length<=1000)(hst:cX w ps t.stamps)(hl:ar w p t.table.rows) :
 Calls prog 51 #[aS t ps cs p c,.int .i64 node,.int .i64 now] w fun e w'=>∃ix cs' p' c',e=.returned (.tuple #[aS (cK t node now).1 ix cs' p' c',.int .i64 (cK t node now).2])/\lg w.heap.size w' ix (cK t node now).1.stamps/\rz w' p' (cK t node now).1.table.rows/\(∃c0,c0+(cK t node now).1.table.rows.length=c')/\Below w.heap.size w w':=by
 have hnil:ps=none->t.stamps=[]:=fun e=>by
  rcases hst with h | ⟨b,o,h,_⟩
  ·exact h
  ·rw [e] at h;cases h
 have hc:=fun (u:World) (hu:Below w.heap.size w u)=>kU t ps p cs c u hn hm hr (hst.below hu) hnil (hl.below hu)
 unfold aS;have M0:=hid (((Mem.start w).box #[.int .i64 t.gen,.int .i64 t.bP,.slice ps t.stamps.length cs,.int .i64 t.table.start,.slice p t.table.rows.length c] 30).box #[.int .i64 0,.int .i64 0,.slice none 0 0,.int .i64 0,.slice none 0 0] 30);simp only[size_alloc] at M0;clear hst hl hnil;have b9:((node<0∨¬node<0/\((t.stamps.length:Int)<=node∨¬(t.stamps.length:Int)<=node/\(now<0∨¬now<0/\4611686018427387904<=now)))/\cK t node now=(t,1))∨(∃j:Nat,node=(j:Int)/\j<t.stamps.length/\¬now<0/\¬4611686018427387904<=now/\cK t node now=(⟨t.gen,t.bP,t.stamps.set j now,t.table⟩,0)):=by
  unfold cK;by_cases h:node<0∨(t.stamps.length:Int)<=node∨now<0∨4611686018427387903<now
  ·rw [if_pos h]
   exact .inl ⟨by omega,rfl⟩
  ·rw [if_neg h]
   exact .inr ⟨node.toNat,by omega,by omega,by omega,by omega,rfl⟩
 generalize cK t node now=SN at b9 ⊢;go_enter func51,ntmps51
 go_upto_region 2 with (go_at_call 53;(with_reducible refine(hc _ M0.out.below).mono ?_);rintro e w1 ⟨q,k,r,m,rfl,h1,⟨h2,h2c,Yj⟩,hb⟩;have HM:=hid Yj;have T0:=hid (Sy.start (k:=k) (m:=m) M0.out.below (M0.out.boxes 1 _ _ _ rfl) (M0.out.boxes 0 _ _ _ rfl) h1 ⟨h2,h2c⟩ hb);obtain⟨x0,x1,x2,x3,x4,ff⟩:=bz ((M0.out.on hb).boxes 1 _ _ _ rfl);have f0:=ff 0;have f1:=ff 1;have f2:=ff 2;have f3:=ff 3;have f4:=ff 4;clear ff h1 h2 h2c Yj hb hc)
 clear x0 x1 x2 x3 x4 f0 f1 f2 f3 f4 M0;generalize((((w1.setCell ⟨w.heap.size,0,none⟩ (.int .i64 t.gen)).setCell ⟨w.heap.size,1,none⟩ (.int .i64 t.bP)).setCell ⟨w.heap.size,2,none⟩ (.slice q t.stamps.length k)).setCell ⟨w.heap.size,3,none⟩ (.int .i64 t.table.start)).setCell ⟨w.heap.size,4,none⟩ (.slice r t.table.rows.length m)=W at *;obtain⟨x0,x1,x2,x3,x4,ff⟩:=bz T0.out.box;obtain⟨y0,y1,y2,y3,y4,gg⟩:=bz T0.out.out;rcases b9 with ⟨b9,rfl⟩ | ⟨j,rfl,hj,h3,h4,rfl⟩
 ·skip
  have f0:=gg 0;have f1:=gg 1;have f2:=gg 2;have f3:=gg 3;have f4:=gg 4;clear ff gg;have TD:=hid (T0.out.Sz (.int .i64 t.gen) (.int .i64 t.bP) (.slice q t.stamps.length k) (.int .i64 t.table.start) (.slice r t.table.rows.length m));rcases b9 with h1 | ⟨h1,h2 | ⟨h2,h3 | ⟨h3,h4⟩⟩⟩
  all_goals
   go_wp2;refine bodyPost_ret (v:=.tuple #[.agg #[.int .i64 t.gen,.int .i64 t.bP,.slice q t.stamps.length k,.int .i64 t.table.start,.slice r t.table.rows.length m],.int .i64 1]) (by simp[results,results51,go_sem,y0,y1,y2,y3,y4]) rfl ⟨q,k,r,m,rfl,TD.out.1,TD.out.2.1,HM.out,TD.out.2.2⟩
 ·obtain ⟨g,hq⟩:∃g,q=some ⟨g,0,none⟩:=by
   rcases T0.out.stamps with h | ⟨g,_,h,_⟩
   ·rw [h] at hj;simp at hj
   ·exact ⟨g,h⟩
  subst hq;obtain⟨fz,hcell,hT⟩:=T0.out.set hj now;have T1:=hid hT;clear ff gg hT y0 y1 y2 y3 y4;go_upto_region 5 with fail
  clear x2 fz hcell T0;generalize W.setCell ⟨g,j,none⟩ (.int .i64 now)=V at *;obtain⟨x0,x1,x2,x3,x4,-⟩:=bz T1.out.box;obtain⟨y0,y1,y2,y3,y4,gg⟩:=bz T1.out.out;simp only[List.length_set] at x2;have f0:=gg 0;have f1:=gg 1;have f2:=gg 2;have f3:=gg 3;have f4:=gg 4;clear gg;have TD:=hid (T1.out.Sz (.int .i64 t.gen) (.int .i64 t.bP) (.slice (some ⟨g,0,none⟩) t.stamps.length k) (.int .i64 t.table.start) (.slice r t.table.rows.length m));go_wp2;refine bodyPost_ret (v:=.tuple #[.agg #[.int .i64 t.gen,.int .i64 t.bP,.slice (some ⟨g,0,none⟩) t.stamps.length k,.int .i64 t.table.start,.slice r t.table.rows.length m],.int .i64 0]) (by simp[results,results51,go_sem,y0,y1,y2,y3,y4]) rfl ⟨some ⟨g,0,none⟩,k,r,m,by simp only[],TD.out.1,TD.out.2.1,HM.out,TD.out.2.2⟩
end Zo
end Go.Proofs.YtbgdlokegibkmaaGreat
