/-
  A part of the proof of VisitPlays.
-/
import Derived.Shelf.Abstract
import Derived.Lib.SliceRun
import Derived.Test.YtbgdlokegibkmaaGreatMpAf
set_option maxRecDepth 100000
set_option maxHeartbeats 8000000
namespace Go.Proofs.YtbgdlokegibkmaaGreat
open Go.RowKit
open Tryz
open Lib (hid)
namespace Zu
open Zq (ae aj ai aI)
open Zp (iE aL Own At bS eu fN af aD aA ag bQ bX dQ jo)
theorem Ip:eu prog aN 136 69:=⟨underlying69,.agg #[.int .i64 0,.int .i64 0,.int .i64 0,.int .i64 0,.int .i64 0],40,by kernel_rfl,rfl,by decide⟩
structure rp (F:Nat->Prop)(B:Nat)(w:World)(q:Nat)(aw:Int)(l:List It)(y:Value):Prop where
 ge:B<=q
 nf:¬F q
 mW:w.heap[q]? =some (.cells #[.int .i64 aw,y] 152 (0,0))
 ic:Own aN 136 B w y l
 Mj:∀g,y.ownBlock=some g->¬F g
 fl:∀g,F g->g<w.heap.size
def Pq:Pw:=fun F B w q aw l=>∃y,rp F B w q aw l y
section
variable {F G:Nat->Prop}{B q:Nat}{w w' u:World}{aw:Int}{l l':List It}{y y':Value}
theorem rp.lt (h:rp F B w q aw l y):q<w.heap.size:=ae h.mW
theorem rp.below (h:rp F B w q aw l y)(hb:Below w.heap.size w w'):rp F B w' q aw l y :=
 ⟨h.ge,h.nf,(hb.block q h.lt).trans h.mW,h.ic.on hb,h.Mj,fun g hg=>Nat.lt_of_lt_of_le (h.fl g hg) hb.size⟩
theorem rp.kept (h:rp F B w q aw l y)(hk:bS [90] w w'):rp F B w' q aw l y :=
 ⟨h.ge,h.nf,hk.block q _ _ _ h.mW (by simp),Own.kept h.ic hk (by simp),h.Mj,fun g hg=>Nat.lt_of_lt_of_le (h.fl g hg) hk.size⟩
theorem rp.sub (h:rp F B w q aw l y)(hg:∀g,G g->F g):rp G B w q aw l y :=
 ⟨h.ge,fun e=>h.nf (hg _ e),h.mW,h.ic,fun g e e2=>h.Mj g e (hg _ e2),fun g e=>h.fl g (hg _ e)⟩
theorem rp.grow (h:rp F B w q aw l y)(hb:Below w.heap.size w w'):rp (fun g=>F g∨w.heap.size<=g/\g<w'.heap.size) B w' q aw l y:=by
 have h':=h.below hb;refine⟨h.ge,fun e=> ?_,h'.mW,h'.ic,fun g e e2=> ?_,fun g e=> ?_⟩
 ·rcases e with e | e
  ·exact h.nf e
  ·have:=h.lt;omega
 ·rcases e2 with e2 | e2
  ·exact h.Mj g e e2
  ·have:=jo h.ic e;omega
 ·rcases e with e | e
  ·exact h'.fl g e
  ·exact e.2
theorem rp.cell (h:rp F B w q aw l y):∃p c,y=.slice p l.length c/\w.cell? ⟨q,1,none⟩=some (.slice p l.length c)/\aL aN w p l/\(p=none->c=0)/\w.cell? ⟨q,0,none⟩=some (.int .i64 aw):=by
 obtain⟨p,c,rfl,hl⟩:=h.ic.gi;refine⟨p,c,rfl,by rw[cell_of_row w q 1 _ _ (0,0) h.mW];rfl,hl,?_,by rw[cell_of_row w q 0 _ _ (0,0) h.mW];rfl⟩
 rintro rfl;rcases h.ic.2 with ⟨e,-⟩ | ⟨g,cap,cur,e,-⟩
 ·simp only[Value.slice.injEq] at e
  exact e.2.2
 ·simp at e
theorem Db {B:Nat}{w:World}{v:Value}{l:List It}{T:TypeId}(h:Own aN T B w v l){b:Nat}(hb:v.ownBlock=some b):∃cur,w.heap[b]? =some (.cells cur T (0,0)):=by
 rcases h.2 with ⟨rfl,-⟩ | ⟨g,cap,cur,rfl,h1,h2,-⟩
 ·simp [Value.ownBlock] at hb
 ·simp only[Value.ownBlock,Option.some.injEq] at hb
  subst hb;exact⟨cur,h2⟩
theorem rp.fZ (h:rp F B w q aw l y):y.ownBlock≠some q:=by
 intro e;obtain⟨cur,hc⟩:=Db h.ic e;rw[h.mW] at hc;simp only[Option.some.injEq,Obj.cells.injEq] at hc;exact absurd hc.2.1 (by decide)
theorem rp.CW (h:rp F B w q aw l y)(hB:B<=w.heap.size)(hg:w.grownBy u y.ownBlock)(ho:Own aN 136 B u y' l')(hy:∀g,y'.ownBlock=some g->y.ownBlock=some g∨w.heap.size<=g) :
 u.frozen? ⟨q,1,none⟩=false/\u.cell? ⟨q,1,none⟩=some y/\Hid (eA Pq F B w q aw l' (u.setCell ⟨q,1,none⟩ y')):=by
 have hq:u.heap[q]? =_:=(hg.block q h.lt (fun e=>h.fZ e.symm)).trans h.mW
 have ne1:∀g,y'.ownBlock=some g->g≠q:=fun g e=>by
  rintro rfl;rcases hy g e with e | e
  ·exact h.fZ e
  ·have:=h.lt;omega
 have hb:Below B w u:=(Below.refl B w).grown hg hB (fun k e=>(World.ownsRow.lt h.ic k e).1)
 refine⟨aj hq,by rw[cell_of_row u q 1 _ _ (0,0) hq];rfl,⟨⟨y',⟨h.ge,h.nf,?_,?_,fun g e e2=> ?_,fun g e=> ?_⟩⟩,⟨Nat.le_trans hg.size (by simp),fun g cs t z e ht=> ?_⟩,hb.setCell (p:=⟨q,1,none⟩) h.ge _,fun g hf hl=> ?_⟩⟩
 ·rw [ai q 1 _ _ hq];rfl
 ·exact dQ ho (fun b e=>Below.heap_setCell _ _ _ _ (ne1 b e))
 ·rcases hy g e with e | e
  ·exact h.Mj g e e2
  ·have:=h.fl g e2;omega
 ·exact Nat.lt_of_lt_of_le (h.fl g e) (Nat.le_trans hg.size (by simp))
 ·have hne:g≠q:=by
   rintro rfl;rw[h.mW] at e;simp only[Option.some.injEq,Obj.cells.injEq] at e;rw[<-e.2.1] at ht;exact absurd ht (by decide)
  refine(Below.heap_setCell _ _ _ _ hne).trans ((hg.block g (aD e) (fun e2=> ?_)).trans e)
  obtain⟨cur,hc⟩:=Db h.ic e2.symm;rw[e] at hc;simp only[Option.some.injEq,Obj.cells.injEq] at hc;rw[hc.2.1] at ht;exact absurd ht (by decide)
 ·have hne:g≠q:=fun e=>h.nf (e ▸ hf)
  exact(Below.heap_setCell _ _ _ _ hne).trans (hg.block g hl (fun e=>h.Mj g e.symm hf))
theorem rp.same (h:rp F B w q aw l y)(hB:B<=w.heap.size)(hb:Below w.heap.size w w'):eA Pq F B w q aw l w' :=
 ⟨⟨y,h.below hb⟩,fN.cw hb,hb.mono hB,fun g _ hl=>hb.block g hl⟩
end
theorem eA.Ga {PW:Pw}{F:Nat->Prop}{B q:Nat}{w u w':World}{aw:Int}{l:List It}(hB:B<=w.heap.size)(hb:Below w.heap.size w u)(h:eA PW F B u q aw l w'):eA PW F B w q aw l w' :=
 ⟨h.pw,(fN.cw hb).trans h.off,(hb.mono hB).trans h.below,fun g hf hl=>(h.rest g hf (Nat.lt_of_lt_of_le hl hb.size)).trans (hb.block g hl)⟩
theorem eA.on {F:Nat->Prop}{B q:Nat}{w u w':World}{aw:Int}{l:List It}(hB:B<=w.heap.size)(h:eA Pq F B w q aw l u)(hb:Below u.heap.size u w'):eA Pq F B w q aw l w' :=
 ⟨by obtain⟨y,hy⟩:=h.pw;exact⟨y,hy.below hb⟩,h.off.trans (fN.cw hb),h.below.trans (hb.mono (Nat.le_trans hB h.off.size)),fun g hf hl=>(hb.block g (Nat.lt_of_lt_of_le hl h.off.size)).trans (h.rest g hf hl)⟩
theorem Ue (aw:Int)(w:World)(h:aw<0∨16<aw):Calls prog 79 #[.int .i64 aw] w fun e w'=>e=.returned (.tuple #[.pointer none,.int .i64 1])/\Below w.heap.size w w':=by
 have hc:decide (aw<0)=true∨decide (aw<0)=false/\decide (16<aw)=true:=by
  by_cases h1:aw<0
  ·exact .inl (by simpa using h1)
  ·exact .inr ⟨by simpa using h1,by simp;omega⟩
 rcases hc with h1 | ⟨h1,h2⟩
 all_goals
  go_enter func79,ntmps79
  go_wp2;refine bodyPost_ret (v:=.tuple #[.pointer none,.int .i64 1]) (by simp[results,results79,go_sem]) rfl ⟨rfl,Below.refl _ _⟩
theorem Uf (aw:Int)(w:World)(h0:0<=aw)(h1:aw<=16):Calls prog 79 #[.int .i64 aw] w fun e w'=>∃q,e=.returned (.tuple #[.pointer (some ⟨q,0,none⟩),.int .i64 0])/\Pq (fun g=>g<w.heap.size) w.heap.size w' q aw []/\Below w.heap.size w w':=by
 have h2:decide (aw<0)=false:=by simp;omega
 have h3:decide (16<aw)=false:=by simp;omega
 have HB:=hid (cQ w (.cells #[.int .i64 aw,.slice none 0 0] 152));have HK:=hid (heap_alloc_new w (.cells #[.int .i64 aw,.slice none 0 0] 152));go_enter func79,ntmps79
 go_wp2;refine bodyPost_ret (v:=.tuple #[.pointer (some ⟨w.heap.size,0,none⟩),.int .i64 0]) (by simp[results,results79,go_sem]) rfl ⟨w.heap.size,rfl,⟨_,⟨Nat.le_refl _,by simp,HK.out,Own.none _ _ _ _,fun g e=>by simp[Value.ownBlock] at e,fun g e=>Nat.lt_of_lt_of_le e HB.out.size⟩⟩,HB.out⟩
open Zv (spot eL cP bA)
def rq (c:Nat)(id:Int)(g:Nat)(f:It->Bool):Prop:=∀(u:World)(x:It),u.cell? ⟨c,0,none⟩=some (.int .i64 id)->Calls prog g #[val x,.pointer (some ⟨c,0,none⟩)] u fun e w'=>e=.returned (.bool (f x))/\Below u.heap.size u w'
abbrev Sn (g c:Nat):Value:=.func (.func g) #[] #[.pointer (some ⟨c,0,none⟩)]
abbrev QY (g:Nat):Prop:=∀args w,(callFunc g args).run prog w=.ok (.enter g args) w
theorem zf:QY 184:=_root_.Go.Proofs.enters_of func184 (by kernel_rfl) rfl
theorem Gc:QY 180:=_root_.Go.Proofs.enters_of func180 (by kernel_rfl) rfl
def iP (id:Int)(x:It):Bool:=x.id==id
def fI (k:Int)(x:It):Bool:=x.key==k
theorem tW (c:Nat)(id:Int):rq c id 184 (iP id):=by
 intro u x hc;have hl:=World.block_lt_of_cell? _ _ hc;obtain⟨xi,xk,xc,xs,xt⟩:=x;simp only[val,iP];go_enter func184,ntmps184
 go_wp2;go_ret;exact⟨rfl,cQ _ _⟩
theorem wB (c:Nat)(key:Int):rq c key 180 (fI key):=by
 intro u x hc;have hl:=World.block_lt_of_cell? _ _ hc;obtain⟨xi,xk,xc,xs,xt⟩:=x;simp only[val,fI];go_enter func180,ntmps180
 go_wp2;go_ret;exact⟨rfl,cQ _ _⟩
theorem td (id:Int)(w:World):Calls prog 141 #[.int .i64 id] w fun e w'=>e=.returned (Sn 184 w.heap.size)/\w'.cell? ⟨w.heap.size,0,none⟩=some (.int .i64 id)/\Below w.heap.size w w':=by
 have HB:=hid (cQ w (.cells #[.int .i64 id] 3));have HK:=hid (cell_of_row _ w.heap.size 0 _ _ (0,0) (heap_alloc_new w (.cells #[.int .i64 id] 3)));go_enter func141,ntmps141
 go_wp2;refine bodyPost_ret (v:=Sn 184 w.heap.size) (by simp[results,results141,go_sem]) rfl ⟨rfl,HK.out,HB.out⟩
theorem fC (x:It)(w:World):Calls prog 140 #[val x] w fun e w'=>e=.returned (.bool (decide (¬cY x)))/\Below w.heap.size w w':=by
 have hc:(¬1<=x.cost/\decide (¬cY x)=false)∨1<=x.cost/\((¬0<=x.bU/\decide (¬cY x)=false)∨0<=x.bU/\((¬x.bU<=2/\decide (¬cY x)=false)∨x.bU<=2/\(¬0<=x.cJ/\decide (¬cY x)=false∨0<=x.cJ/\decide (¬cY x)=true))):=by
  simp only[decide_eq_false_iff_not,decide_eq_true_eq];unfold cY;omega
 generalize decide (¬cY x)=R at *;obtain⟨xi,xk,xc,xs,xt⟩:=x;simp only[val] at *;rcases hc with ⟨h1,rfl⟩ | ⟨h1,⟨h2,rfl⟩ | ⟨h2,⟨h3,rfl⟩ | ⟨h3,⟨h4,rfl⟩ | ⟨h4,rfl⟩⟩⟩⟩
 all_goals
  go_enter func140,ntmps140
  go_wp2;go_ret;exact⟨rfl,cQ _ _⟩
theorem zg {c g:Nat}{id:Int}{f:It->Bool}(eg:QY g)(hg:rq c id g f){l:List It}{p:Option Addr}{d:Nat}{w:World}(h:aL aN w p l)(hl:l.length<=1000)(hc:w.cell? ⟨c,0,none⟩=some (.int .i64 id)) :
 Calls prog 178 #[.slice p l.length d,Sn g c] w fun e w'=>e=.returned (.int .i64 (spot f l))/\Below w.heap.size w w':=by
 have HG:=hid (fun u x (hu:Below w.heap.size w u)=>hg u x (af hc hu))
 have HL:=hid h;have HS:=hid (fun(j:Nat) (hj:j<l.length) (hn:∀i,i<j->f (l.getD i z)=false) (hy:f (l.getD j z)=true)=>eL f z l j hj hn hy)
 have HN:=hid (fun(hn:∀i,i<l.length->f (l.getD i z)=false)=>cP f z l hn)
 generalize spot f l=R at *;clear h hc hg;go_enter func178,ntmps178
 go_wp2;go_loopw [8] (fun i wr=>∃j:Nat,j<=l.length/\i=.int .i64 (j:Int)/\Hid (∀i,i<j->f (l.getD i z)=false)/\Hid (Below w.heap.size w wr)) (fun i _=>l.length-(intOf i).toNat)
 case atStart=>exact ⟨0,by omega,rfl,hid fun i hi=>by omega,hid (Below.refl _ _)⟩
 case round =>
  obtain⟨j,hj,rfl,Ug,HB⟩:=hrel;by_cases aC:j<l.length
  ·have bE:(j:Int)<(l.length:Int):=by omega
   obtain⟨b,o,rfl,ha⟩:=bj (HL.out.below HB.out) aC;obtain⟨k0,k1,k2,k3,k4⟩:=xu ha;have HC:=HG.out wr (l.getD j z) HB.out;have HY:=hid (fun hy=>HS.out j aC Ug.out hy)
   have HO:=hid (fun(hy:f (l.getD j z)=false) (i:Nat) (hi:i<j+1)=>show f (l.getD i z)=false by
    by_cases e:i=j
    ·rw [e];exact hy
    ·exact Ug.out i (by omega))
   generalize f (l.getD j z)=B at *;generalize l.getD j z=x at *;obtain⟨xi,xk,xc,xs,xt⟩:=x;simp only[val] at k0 k1 k2 k3 k4 HC;clear ha HL Ug HS HN;cases B
   ·have oY:=hid (HO.out rfl)
    go_wp2_with (go_at_fn g;(with_reducible refine HC.mono ?_);rintro e w2 ⟨rfl,hb⟩;have bJ:=hid (HB.out.trans (hb.mono HB.out.size));clear hb HC)
    go_roundw
    case rel=>exact ⟨j+1,by omega,by go_num,oY,bJ⟩
    case measure=>simp only[intOf];omega
   ·have Wu:=hid (HY.out rfl)
    go_wp2_with (go_at_fn g;(with_reducible refine HC.mono ?_);rintro e w2 ⟨rfl,hb⟩;have bJ:=hid (HB.out.trans (hb.mono HB.out.size));clear hb HC)
    go_ret;exact⟨by rw[Wu.out];rfl,bJ.out⟩
  ·have bE:¬(j:Int)<(l.length:Int):=by omega
   have HE:=hid (HN.out (fun i hi=>Ug.out i (by omega)))
   clear HL Ug HS HN;go_wp2;go_ret;exact⟨by rw[HE.out];rfl,HB.out⟩
theorem rr {c g:Nat}{id:Int}{f:It->Bool}(eg:QY g)(hg:rq c id g f){l:List It}{p:Option Addr}{d:Nat}{w:World}(h:aL aN w p l)(hl:l.length<=1000)(hc:w.cell? ⟨c,0,none⟩=some (.int .i64 id)) :
 Calls prog 135 #[.slice p l.length d,Sn g c] w fun e w'=>e=.returned (.bool (decide (0<=spot f l)))/\Below w.heap.size w w':=by
 have hi:=zg eg hg (d:=d) h hl hc;generalize spot f l=R at *;clear h hc hg;go_enter func135,ntmps135
 go_wp2_with (go_at_call 178;(with_reducible refine hi.mono ?_);rintro e w2 ⟨rfl,hb⟩;have bJ:=hid hb;clear hb hi)
 go_ret;exact⟨rfl,bJ.out⟩
theorem mq {c g:Nat}{id:Int}{f:It->Bool}(eg:QY g)(hg:rq c id g f){l:List It}{p:Option Addr}{d:Nat}{w:World}(h:aL aN w p l)(hl:l.length<=1000)(hc:w.cell? ⟨c,0,none⟩=some (.int .i64 id)) :
 Calls prog 179 #[.slice p l.length d,Sn g c] w fun e w'=>∃y,e=.returned y/\Own aN 136 w.heap.size w' y (l.filter f)/\Below w.heap.size w w':=by
 have HG:=hid (fun u x (hu:Below w.heap.size w u)=>hg u x (af hc hu))
 have HL:=hid h;have HF:=hid (show l.filter f=(l.take l.length).filter f by rw[List.take_length])
 generalize l.filter f=R at *;clear h hc hg;go_enter func179,ntmps179
 go_wp2;go_loopw [5,10] (fun y k wr=>∃(j:Nat) (q:Option Addr) (c' n:Nat),j<=l.length/\k=.int .i64 (j:Int)/\y=.slice q n c'/\Hid (Own aN 136 w.heap.size wr y ((l.take j).filter f))/\Hid (((l.take j).filter f).length=n)/\Hid (Below w.heap.size w wr)) (fun _ k _=>l.length-(intOf k).toNat)
 case atStart=>exact ⟨0,none,0,0,by omega,rfl,rfl,hid (Own.none _ _ _ _),hid rfl,hid (Below.refl _ _)⟩
 case round =>
  obtain⟨j,q,c',n,hj,rfl,rfl,HO,HN,HB⟩:=hrel;by_cases aC:j<l.length
  ·have bE:(j:Int)<(l.length:Int):=by omega
   obtain⟨b,o,rfl,ha⟩:=bj (HL.out.below HB.out) aC;obtain⟨k0,k1,k2,k3,k4⟩:=xu ha;have hn:n<=1000:=by
    rw[<-HN.out];exact Nat.le_trans (List.length_filter_le _ _) (by simp;omega)
   have HY:=hid (fun h=>jZ (f:=f) aC h)
   have HX:=hid (fun h=>ly (f:=f) aC h)
   generalize(l.take j).filter f=L at *;generalize l.getD j z=x at *;have HC:=HG.out (wr.alloc (.cells #[.int .i64 x.id,.int .i64 x.key,.int .i64 x.cost,.int .i64 x.bU,.int .i64 x.cJ] 136)) x (HB.out.trans ((cQ wr _).mono HB.out.size));have K:=hid (heap_alloc_new wr (.cells #[.int .i64 x.id,.int .i64 x.key,.int .i64 x.cost,.int .i64 x.bU,.int .i64 x.cJ] 136));have HA:=hid (cQ wr (.cells #[.int .i64 x.id,.int .i64 x.key,.int .i64 x.cost,.int .i64 x.bU,.int .i64 x.cJ] 136));generalize Sm:f x=fx at *;obtain⟨xi,xk,xc,xs,xt⟩:=x;simp only[val] at k0 k1 k2 k3 k4 HC;clear ha HL HG HF;cases fx
   ·have HE:=hid (HX.out rfl)
    clear Sm HY HX;go_wp2_with (go_at_fn g;(with_reducible refine HC.mono ?_);rintro e w2 ⟨rfl,hb⟩;have bJ:=hid (HA.out.trans (hb.mono HA.out.size));clear hb HC)
    go_roundw
    case rel=>exact ⟨j+1,q,c',n,by omega,by go_num,rfl,by rw[HE.out];exact hid (HO.out.on bJ.out),by rw[HE.out];exact HN,hid (HB.out.trans (bJ.out.mono HB.out.size))⟩
    case measure=>simp only[intOf];omega
   ·have HE:=hid (HY.out rfl)
    clear Sm HY HX;go_wp2_with (first
     |(go_at_fn g;(with_reducible refine HC.mono ?_);rintro e w2 ⟨rfl,hb⟩;have bJ:=hid (HA.out.trans (hb.mono HA.out.size));obtain⟨b0,b1,b2,b3,b4⟩:=bQ ((hb.block _ (aD K.out)).trans K.out);clear hb HC)
     |(at_builtin;refine Zp.push Ip rfl _ _ rfl w wr (.slice q n c') rfl L n HN.out HO.out HB.out (bJ.out.alloc bJ.out.size _) w2.heap.size ⟨xi,xk,xc,xs,xt⟩ rfl (heap_alloc_new _ _) (by omega) ?_;intro p4 c4 w4 R4 B4))
    go_roundw
    case rel=>exact ⟨j+1,p4,c4,n+1,by omega,by go_num,rfl,by rw[HE.out];exact R4,by rw[HE.out];exact hid (by simp[HN.out]),hid B4⟩
    case measure=>simp only[intOf];omega
  ·have bE:¬(j:Int)<(l.length:Int):=by omega
   obtain rfl:j=l.length:=by omega
   rw[<-HF.out] at HO;clear HL HG HF HN;go_wp2;go_ret;exact⟨_,rfl,HO.out,HB.out⟩
theorem Uh (w:World)(a:Option Addr)(n c n' c':Nat):(binOp .eql 69 (.slice a n c) (.slice none n' c')).run prog w=.ok (.bool a.isNone) w:=Lib.run_eql_slice_nil w _ _ a n c n' c' underlying69
theorem fG {T:TypeId}{B:Nat}{w:World}{v:Value}{l:List It}(h:Own aN T B w v l):∃p c,v=.slice p l.length c/\aL aN w p l/\(p=none->c=0):=by
 obtain⟨p,c,rfl,hl⟩:=h.gi;refine⟨p,c,rfl,hl,?_⟩;rintro rfl;rcases h.2 with ⟨e,-⟩ | ⟨g,cap,cur,e,-⟩
 ·simp only[Value.slice.injEq] at e
  exact e.2.2
 ·simp at e
theorem Dc {l:List It}{p:Option Addr}{d:Nat}{w:World}(h:aL aN w p l)(hn:p=none->d=0)(hl:l.length<=1000) :
 Calls prog 82 #[.slice p l.length d] w fun e w'=>∃y,e=.returned y/\Own aN 136 w.heap.size w' y l/\Below w.heap.size w w':=by
 have HL:=hid h;have HN:=hid hn;have hq:=fun (w:World) a n c n' c'=>Uh w a n c n' c'
 clear h hn;cases p with
 | none =>
   have hl0:=HL.out.resolve_right (fun⟨b,o,e,_⟩=>by cases e)
   subst hl0;obtain rfl:=HN.out rfl;go_enter func82,ntmps82
   go_wp2;go_ret;exact⟨_,rfl,Own.none _ _ _ _,Below.refl _ _⟩
 | some a =>
   have OM:=hid (Zp.qF (E:=aN) (T:=136) w w.heap.size (Nat.le_refl _));have HB:=hid (cQ w (.cells #[] 136));have LX:=hid (HL.out.below HB.out);go_enter func82,ntmps82
   go_wp2_with (at_builtin;refine Zp.rV Ip rfl _ _ rfl w _ _ rfl [] 0 rfl OM.out HB.out (Below.refl _ _) l l.length d (some a) rfl rfl LX.out (fun e=>nomatch e) (by omega) ?_;intro p4 c4 w4 R4 B4;have R5:=hid (show Own aN 136 w.heap.size w4 (.slice p4 l.length c4) l from by(have:=R4.out;rw[Nat.zero_add] at this;exact this));have B5:=hid B4;clear R4 B4)
   go_ret;exact⟨_,rfl,R5.out,B5.out⟩
theorem iz {F:Nat->Prop}{B q:Nat}{w:World}{aw:Int}{l:List It}(h:Pq F B w q aw l)(hl:l.length<=16) :
 Calls prog 36 #[.pointer (some ⟨q,0,none⟩)] w fun e w'=>∃y,e=.returned y/\Own aN 136 w.heap.size w' y l/\Below w.heap.size w w':=by
 obtain⟨y,hy⟩:=h;obtain⟨p,c,rfl,c1,eM,hn,-⟩:=hy.cell;have HC:=Dc (d:=c) eM hn (by omega)
 clear hy eM hn;go_enter func36,ntmps36
 go_wp2_with (go_at_call 82;(with_reducible refine HC.mono ?_);rintro e w2 ⟨y,rfl,ho,hb⟩;have HO:=hid ho;have bJ:=hid hb;clear ho hb HC)
 go_ret;exact⟨_,rfl,HO.out,bJ.out⟩
theorem wC (w:World):Calls prog 36 #[.pointer none] w fun e w'=>e=.returned (.slice none 0 0)/\Below w.heap.size w w':=by
 go_enter func36,ntmps36
 go_wp2;go_ret;exact⟨rfl,Below.refl _ _⟩
open Zp (iE aL Own At bS eu fN af aD aA ag bQ bX dQ jo cells)
theorem oN {w:World}{B g n c o s:Nat}{T:TypeId}{xs:List Value}(h:w.ownsRow B T s (.slice (some ⟨g,0,none⟩) n c) n xs)(u:Value):(w.setCell ⟨g,o,none⟩ u).ownsRow B T s (.slice (some ⟨g,0,none⟩) n c) n (xs.set o u):=by
 refine⟨by simpa using h.1,?_⟩
 rcases h.2 with ⟨e,-⟩ | ⟨g',cap,cur,e,h1,h2,h3,h4,h5,h6⟩
 ·simp at e
 ·simp only[Value.slice.injEq,Option.some.injEq,Addr.mk.injEq,and_true,true_and] at e
  obtain⟨rfl,rfl⟩:=e;exact .inr ⟨g,c,_,rfl,h1,ai g o _ _ h2,h3,h4,by simpa using h5,by rw[Array.toList_setIfInBounds,List.take_set,h6]⟩
theorem QZ {w:World}{B g n c o s:Nat}{T:TypeId}{xs:List Value}(h:w.ownsRow B T s (.slice (some ⟨g,0,none⟩) n c) n xs)(ho:n*s<=o)(u:Value):(w.setCell ⟨g,o,none⟩ u).ownsRow B T s (.slice (some ⟨g,0,none⟩) n c) n xs:=by
 have:=oN h (o:=o) u;rwa [List.set_eq_of_length_le (by rw[h.1];exact ho)] at this
theorem Dd {B g n c s:Nat}{T:TypeId}{xs:List Value}:∀(us:List Value){w:World}{o:Nat},w.ownsRow B T s (.slice (some ⟨g,0,none⟩) n c) n xs->n*s<=o->(w.setCells g o us).ownsRow B T s (.slice (some ⟨g,0,none⟩) n c) n xs
 | [],_,_,h,_=>h
 | u :: us,_,_,h,ho=>Dd us (QZ h ho u) (by omega)
theorem Q0 {w:World}{B g n c i s:Nat}{T:TypeId}{xs:List Value}(h:w.ownsRow B T s (.slice (some ⟨g,0,none⟩) n c) n xs)(hi:i<=n):w.ownsRow B T s (.slice (some ⟨g,0,none⟩) i c) i (xs.take (i*s)):=by
 have hm:i*s<=n*s:=Nat.mul_le_mul_right s hi;refine⟨by rw[List.length_take,h.1];omega,?_⟩
 rcases h.2 with ⟨e,-⟩ | ⟨g',cap,cur,e,h1,h2,h3,h4,h5,h6⟩
 ·simp at e
 ·simp only[Value.slice.injEq,Option.some.injEq,Addr.mk.injEq,and_true,true_and] at e
  obtain⟨rfl,rfl⟩:=e;exact .inr ⟨g,c,cur,rfl,h1,h2,by omega,h4,h5,by rw[<-h6,List.take_take];congr 1;omega⟩
theorem Gd (m:List It)(i:Nat):(cells aN m).take (i*5)=cells aN (m.take i):=by
 induction m generalizing i with
 | nil=>simp [cells]
 | cons x m ih =>
   cases i with
   | zero=>simp [cells]
   | succ i =>
     rw[Zp.fM,List.take_succ_cons,Zp.fM,<-ih i,show(i+1)*5=(aN.cs x).length+i*5 by rw[show (aN.cs x).length=5 from rfl];omega,List.take_length_add_append]
theorem zh (x:It):∀(m:List It)(i:Nat),i<m.length->cells aN (m.set i x)=((((((cells aN m).set (i*5) (.int .i64 x.id)).set (i*5+1) (.int .i64 x.key)).set (i*5+2) (.int .i64 x.cost)).set (i*5+3) (.int .i64 x.bU)).set (i*5+4) (.int .i64 x.cJ))
 | [],_,h=>by simp at h
 | y :: m,0,_=>rfl
 | y :: m,i+1,h=>by
   have ih:=zh x m i (by simpa using h)
   rw[List.set_cons_succ,Zp.fM,ih,Zp.fM]
   show _=((((((aN.cs y++cells aN m).set ((i+1)*5) _).set ((i+1)*5+1) _).set ((i+1)*5+2) _).set ((i+1)*5+3) _).set ((i+1)*5+4) _)
   have e:∀(k:Nat) (L:List Value) (u:Value),(aN.cs y++L).set ((i+1)*5+k) u=aN.cs y++L.set (i*5+k) u:=fun k L u=>by
    rw[List.set_append_right _ _ (by rw[show (aN.cs y).length=5 from rfl];omega)]
    congr 2
    rw[show (aN.cs y).length=5 from rfl];omega
   rw[show (i+1)*5=(i+1)*5+0 by omega,e 0,e 1,e 2,e 3,e 4,Nat.add_zero]
   rfl
def II (w:World)(g o:Nat)(x:It):World:=((((w.setCell ⟨g,o,none⟩ (.int .i64 x.id)).setCell ⟨g,o+1,none⟩ (.int .i64 x.key)).setCell ⟨g,o+2,none⟩ (.int .i64 x.cost)).setCell ⟨g,o+3,none⟩ (.int .i64 x.bU)).setCell ⟨g,o+4,none⟩ (.int .i64 x.cJ)
theorem KU {w:World}{B g c:Nat}{T:TypeId}{m:List It}(h:Own aN T B w (.slice (some ⟨g,0,none⟩) m.length c) m){i:Nat}(hi:i<m.length)(x:It):Own aN T B (II w g (i*5) x) (.slice (some ⟨g,0,none⟩) m.length c) (m.set i x):=by
 unfold Own at h ⊢;rw[zh x m i hi,List.length_set];exact oN (oN (oN (oN (oN h _) _) _) _) _
theorem De {w0 w:World}{g:Nat}(h:w0.grownBy w (some g))(o:Nat)(x:It):w0.grownBy (II w g o x) (some g):=by
 have one:∀{u:World} (k:Nat) (v:Value),w0.grownBy u (some g)->w0.grownBy (u.setCell ⟨g,k,none⟩ v) (some g):=fun {u} k v hu =>
  ⟨hu.os,hu.tape,hu.output,by simpa[World.setCell] using hu.size,fun j hj hn=>(Below.heap_setCell _ _ _ _ (by rintro rfl;exact hn rfl)).trans (hu.block j hj hn)⟩
 exact one _ _ (one _ _ (one _ _ (one _ _ (one _ _ h))))
theorem tX {w0:World}{g:Nat}:∀(us:List Value){w:World}{o:Nat},w0.grownBy w (some g)->w0.grownBy (w.setCells g o us) (some g)
 | [],_,_,h=>h
 | v :: us,w,o,hu=>tX us ⟨hu.os,hu.tape,hu.output,by simpa[World.setCell] using hu.size,fun j hj hn=>(Below.heap_setCell _ _ _ _ (by rintro rfl;exact hn rfl)).trans (hu.block j hj hn)⟩
theorem iQ {w:World}{B g n c:Nat}{T:TypeId}{m:List It}(h:Own aN T B w (.slice (some ⟨g,0,none⟩) n c) m){o:Nat}(ho:o<m.length*5):(w.cell? ⟨g,o,none⟩).isSome=true/\w.frozen? ⟨g,o,none⟩=false:=by
 rcases h.2 with ⟨e,-⟩ | ⟨g',cap,cur,e,h1,h2,h3,h4,h5,h6⟩
 ·simp at e
 ·simp only[Value.slice.injEq,Option.some.injEq,Addr.mk.injEq,and_true] at e
  obtain⟨rfl,-,rfl⟩:=e;have hk:o<cur.size:=by
   rw[h5];exact Nat.lt_of_lt_of_le ho (Nat.mul_le_mul_right 5 h3)
  refine⟨by rw[cell_of_row w g o _ _ (0,0) h2];simp[hk],aj h2⟩
theorem Oc {w:World}{B g n c:Nat}{T:TypeId}{m:List It}(h:Own aN T B w (.slice (some ⟨g,0,none⟩) n c) m){i:Nat}(hi:i<m.length) :
 ∃ u0 u1 u2 u3 u4,(w.cell? ⟨g,i*5,none⟩=some u0/\w.cell? ⟨g,i*5+1,none⟩=some u1/\w.cell? ⟨g,i*5+2,none⟩=some u2/\w.cell? ⟨g,i*5+3,none⟩=some u3/\w.cell? ⟨g,i*5+4,none⟩=some u4) /\
   w.frozen? ⟨g,i*5,none⟩=false/\w.frozen? ⟨g,i*5+1,none⟩=false/\w.frozen? ⟨g,i*5+2,none⟩=false/\w.frozen? ⟨g,i*5+3,none⟩=false/\w.frozen? ⟨g,i*5+4,none⟩=false:=by
 obtain⟨a0,f0⟩:=iQ h (o:=i*5) (by omega)
 obtain⟨a1,f1⟩:=iQ h (o:=i*5+1) (by omega)
 obtain⟨a2,f2⟩:=iQ h (o:=i*5+2) (by omega)
 obtain⟨a3,f3⟩:=iQ h (o:=i*5+3) (by omega)
 obtain⟨a4,f4⟩:=iQ h (o:=i*5+4) (by omega)
 obtain⟨u0,e0⟩:=Option.isSome_iff_exists.1 a0;obtain⟨u1,e1⟩:=Option.isSome_iff_exists.1 a1;obtain⟨u2,e2⟩:=Option.isSome_iff_exists.1 a2;obtain⟨u3,e3⟩:=Option.isSome_iff_exists.1 a3;obtain⟨u4,e4⟩:=Option.isSome_iff_exists.1 a4;exact⟨u0,u1,u2,u3,u4,⟨e0,e1,e2,e3,e4⟩,f0,f1,f2,f3,f4⟩
theorem KV {w:World}{B g c i:Nat}{m:List It}(h:Own aN 136 B w (.slice (some ⟨g,0,none⟩) m.length c) m)(hi:i<m.length)(c':Nat)(ty:TypeId) :
 (Builtin.clear_ #[69] ty #[.slice (some ⟨g,i*5,none⟩) (m.length-i) c']).run prog w=.ok (.tuple #[]) (w.setCells g (i*5) (List.replicate ((m.length-i)*5) (.int .i64 0))):=by
 have YZ:∀w,(zeroValue 136).run prog w=.ok (val z) w:=fun w=>by kernel_rfl
 have S4:∀n,(Builtin.zeroCells (val z).cells n).toList=List.replicate (n*5) (.int .i64 0):=fun n=>by
  apply List.ext_getElem
  ·simp [Builtin.zeroCells,val,Value.cells]
  ·intro k h1 h2
   have hm:k % 5=0∨k % 5=1∨k % 5=2∨k % 5=3∨k % 5=4:=by omega
   simp only[Builtin.zeroCells,val,Value.cells,z];rcases hm with e | e | e | e | e <;>simp [e]
 have hst:=run_storeCells_cells (P:=prog) g (i*5) (List.replicate ((m.length-i)*5) (.int .i64 0)) 0 w (fun j hj=>(iQ h (by simp at hj;omega)).1) (fun j hj=>(iQ h (by simp at hj;omega)).2) (fun v hv=>by rw[List.eq_of_mem_replicate hv];rfl)
 simp only[Nat.add_zero] at hst;obtain⟨k,hk⟩:∃k,m.length-i=k+1:=⟨m.length-i-1,by omega⟩
 rw[hk] at hst ⊢;simp[Builtin.clear_,run_underlying underlying69,YZ,S4,hst]
theorem tY {w w':World}(hb:Below w.heap.size w w')(r:Option Nat):w.grownBy w' r:=⟨hb.os,hb.tape,hb.output,hb.size,fun i hi _=>hb.block i hi⟩
theorem pZ {a b c:World}{r:Option Nat}(h:a.grownBy b r)(k:Below b.heap.size b c):a.grownBy c r:=⟨k.os.trans h.os,k.tape.trans h.tape,k.output.trans h.output,Nat.le_trans h.size k.size,fun i hi hn=>(k.block i (Nat.lt_of_lt_of_le hi h.size)).trans (h.block i hi hn)⟩
structure uB (f:It->Bool)(l m:List It)(i j:Nat):Prop where
 len:m.length=l.length
 lt:i<j
 le:j<=l.length
 low:m.take i=(l.take j).filter fun x=> !f x
 PR:m.drop j=l.drop j
theorem uB.Mk {f:It->Bool}{l m:List It}{i j:Nat}(h:uB f l m i j)(_:j<l.length):m.getD j z=l.getD j z:=by
 have:=congrArg (fun t=>t.getD 0 z) h.PR
 simpa[List.getD] using this
theorem uB.skip {f:It->Bool}{l m:List It}{i j:Nat}(h:uB f l m i j)(hj:j<l.length)(hf:f (l.getD j z)=true):uB f l m i (j+1):=by
 refine⟨h.len,by have:=h.lt;omega,hj,?_,?_⟩
 ·rw [h.low,ly (f:=fun x=> !f x) hj (by show(!f (l.getD j z))=false;rw[hf];rfl)]
 ·have:=congrArg (fun t=>t.drop 1) h.PR
  simpa[List.drop_drop] using this
theorem uB.bM {f:It->Bool}{l m:List It}{i j:Nat}(h:uB f l m i j)(hj:j<l.length)(hf:f (l.getD j z)=false):uB f l (m.set i (l.getD j z)) (i+1) (j+1):=by
 have hi:i<m.length:=by have:=h.len;have:=h.lt;omega
 have h1:=h.lt;refine⟨by simpa using h.len,by omega,hj,?_,?_⟩
 ·rw [jZ (f:=fun x=> !f x) hj (by show(!f (l.getD j z))=true;rw[hf];rfl),<-h.low,aA z (by simpa using hi),List.take_set_of_le (Nat.le_refl i)]
  simp[List.getD,hi]
 ·have:=congrArg (fun t=>t.drop 1) h.PR
  simp only[List.drop_drop] at this;rw[List.drop_set_of_lt (by omega)]
  exact this
theorem uB.start {f:It->Bool}{l:List It}{k:Nat}(hk:k<l.length)(hn:∀i,i<k->f (l.getD i z)=false)(hy:f (l.getD k z)=true):uB f l l k (k+1):=by
 refine⟨rfl,by omega,hk,?_,rfl⟩
 rw[ly (f:=fun x=> !f x) hk (by show(!f (l.getD k z))=false;rw[hy];rfl)]
 have key:∀j,j<=k->(l.take j).filter (fun x=> !f x)=l.take j:=by
  intro j
  induction j with
  | zero=>intro _;rfl
  | succ j ih =>
    intro hj;rw[jZ (f:=fun x=> !f x) (by omega) (by show(!f (l.getD j z))=true;rw[hn j (by omega)];rfl),ih (by omega),<-aA z (by omega)]
 exact(key k (Nat.le_refl _)).symm
theorem Ge {f:It->Bool}{l:List It}(hn:∀i,i<l.length->f (l.getD i z)=false):l.filter (fun x=> !f x)=l:=by
 rw[List.filter_eq_self];intro x hx;obtain⟨i,hi,rfl⟩:=List.getElem_of_mem hx;have:=hn i hi;simp only[List.getD,List.getElem?_eq_getElem hi,Option.getD_some] at this;simp[this]
theorem Gg {c g0:Nat}{id:Int}{f:It->Bool}(eg:QY g0)(hg:rq c id g0 f){l:List It}{y:Value}{B:Nat}{w:World}(h:Own aN 136 B w y l)(hl:l.length<=1000)(hc:w.cell? ⟨c,0,none⟩=some (.int .i64 id))(Vp:y.ownBlock≠some c) :
 Calls prog 228 #[y,Sn g0 c] w fun e w'=>∃y',e=.returned y'/\Own aN 136 B w' y' (l.filter fun x=> !f x)/\y'.ownBlock=y.ownBlock/\w.grownBy w' y.ownBlock:=by
 obtain⟨p,d,rfl,eM,-⟩:=fG h;have hi:=zg eg hg (d:=d) eM hl hc;rcases bA f z l with ⟨e,hn⟩ | ⟨k,e,hk,hy,hn⟩
 ·rw [e] at hi
  rw[Ge hn];have HO:=hid h;clear h hc hg eM hn Vp;go_enter func228,ntmps228
  go_wp2_with (go_at_call 178;(with_reducible refine hi.mono ?_);rintro e w2 ⟨rfl,hb⟩;have bJ:=hid hb;clear hb hi)
  go_ret;exact⟨_,rfl,HO.out.on bJ.out,rfl,tY bJ.out _⟩
 ·rw [e] at hi
  have Qk:((k:Int)== -1)=false:=beq_eq_false_iff_ne.2 (by omega)
  obtain⟨g,rfl⟩:∃g,p=some ⟨g,0,none⟩:=by
   rcases h.2 with ⟨e,e0⟩ | ⟨g,cap,cur,e,-⟩
   ·omega
   ·simp only[Value.slice.injEq] at e
    exact⟨g,e.1⟩
  have HK:=hid (uB.start hk hn hy);have HO:=hid h;have hgc:c≠g:=fun e=>Vp (by rw[e];rfl)
  have HC:=hid (fun(u:World) (x:It) (hu:w.grownBy u (some g))=>hg u x ((World.cell?_of_block (hu.block c (World.block_lt_of_cell? _ _ hc) (by simpa using hgc))).trans hc))
  have aC:=jo h (b:=g) rfl;clear h hc hg eM hn hy Vp;go_enter func228,ntmps228
  go_wp2_with (go_at_call 178;(with_reducible refine hi.mono ?_);rintro e w2 ⟨rfl,hb⟩;have bJ:=hid hb;clear hb hi)
  have HD:=hid (show l.filter (fun x=> !f x)=l.filter (fun x=> !f x) from rfl)
  generalize hn:l.length=n at *;go_loopw [5,6] (fun a1 a2 wr=>∃(i j:Nat) (m:List It),a1=.int .i64 (i:Int)/\a2=.int .i64 (j:Int)/\j<=n/\i<j/\Hid (uB f l m i j)/\Hid (Own aN 136 B wr (.slice (some ⟨g,0,none⟩) n d) m)/\Hid (w.grownBy wr (some g))) (fun _ a2 _=>n-(intOf a2).toNat)
  case atStart=>exact ⟨k,k+1,l,rfl,by go_num,by omega,by omega,HK,hid (HO.out.on bJ.out),hid (tY bJ.out _)⟩
  case round =>
   obtain⟨i,j,m,rfl,rfl,hj,og,HI,HM,HG⟩:=hrel;have hm:m.length=n:=by rw[HI.out.len,hn]
   by_cases aC:j<n
   ·have bE:(j:Int)<(n:Int):=by omega
    have hit:(i:Int)<(n:Int):=by omega
    obtain⟨p',c',ep,eM⟩:=HM.out.gi;simp only[Value.slice.injEq] at ep;obtain⟨rfl,-,-⟩:=ep;obtain⟨b,o,eb,ha⟩:=bj eM (show j<m.length by omega)
    simp only[Option.some.injEq,Addr.mk.injEq,and_true] at eb;obtain⟨rfl,rfl⟩:=eb;rw[HI.out.Mk (by omega),Nat.zero_add] at ha
    obtain⟨k0,k1,k2,k3,k4⟩:=xu ha;have HY:=hid (fun h=>HI.out.skip (by omega) h)
    have HN:=hid (fun h=>HI.out.bM (by omega) h)
    generalize l.getD j z=x at *;have gH:=cQ wr (.cells #[.int .i64 x.id,.int .i64 x.key,.int .i64 x.cost,.int .i64 x.bU,.int .i64 x.cJ] 136);have EH:w.grownBy (wr.alloc (.cells #[.int .i64 x.id,.int .i64 x.key,.int .i64 x.cost,.int .i64 x.bU,.int .i64 x.cJ] 136)) (some g):=pZ HG.out gH;have Xb:=HC.out _ x EH;have K:=hid (heap_alloc_new wr (.cells #[.int .i64 x.id,.int .i64 x.key,.int .i64 x.cost,.int .i64 x.bU,.int .i64 x.cJ] 136));have HA:=hid gH;have Sp:=hid EH;generalize Sm:f x=fx at *;obtain⟨xi,xk,xc,xs,xt⟩:=x;simp only[val] at k0 k1 k2 k3 k4 Xb;clear ha eM gH EH HC HD;cases fx
    ·have HE:=hid (HN.out rfl)
     clear Sm HY HN;go_wp2_with (first
      |(go_at_fn g0;(with_reducible refine Xb.mono ?_);rintro e w3 ⟨rfl,hb⟩;have jK:=hid ((HM.out.on HA.out).on hb);have xp:=hid (pZ Sp.out hb);obtain⟨b0,b1,b2,b3,b4⟩:=bQ ((hb.block _ (aD K.out)).trans K.out);obtain⟨u0,u1,u2,u3,u4,⟨c0,c1,c2,c3,c4⟩,f0,f1,f2,f3,f4⟩:=Oc jK.out (i:=i) (by omega);clear hb Xb))
     have HS:=hid (KU (i:=i) (show Own aN 136 B w3 (.slice (some ⟨g,0,none⟩) m.length d) m by rw[hm];exact jK.out) (by omega) ⟨xi,xk,xc,xs,xt⟩)
     rw[hm] at HS;have Ui:=hid (De xp.out (i*5) ⟨xi,xk,xc,xs,xt⟩);rw[show ((((w3.setCell ⟨g,i*5,none⟩ (.int .i64 xi)).setCell ⟨g,i*5+1,none⟩ (.int .i64 xk)).setCell ⟨g,i*5+2,none⟩ (.int .i64 xc)).setCell ⟨g,i*5+3,none⟩ (.int .i64 xs)).setCell ⟨g,i*5+4,none⟩ (.int .i64 xt)=II w3 g (i*5) ⟨xi,xk,xc,xs,xt⟩ from rfl]
     generalize II w3 g (i*5) ⟨xi,xk,xc,xs,xt⟩=w4 at *;go_roundw
     case rel=>exact ⟨i+1,j+1,_,by go_num,by go_num,by omega,by omega,HE,HS,Ui⟩
     case measure=>simp only[intOf];omega
    ·have HE:=hid (HY.out rfl)
     clear Sm HY HN;go_wp2_with (first
      |(go_at_fn g0;(with_reducible refine Xb.mono ?_);rintro e w3 ⟨rfl,hb⟩;have jK:=hid ((HM.out.on HA.out).on hb);have xp:=hid (pZ Sp.out hb);clear hb Xb))
     go_roundw
     case rel=>exact ⟨i,j+1,m,rfl,by go_num,by omega,by omega,HE,jK,xp⟩
     case measure=>simp only[intOf];omega
   ·have bE:¬(j:Int)<(n:Int):=by omega
    have agc:(i:Int)<(n:Int):=by omega
    obtain rfl:j=n:=by omega
    have Df:=HI.out.low;rw[show l.take j=l from List.take_of_length_le (by omega)] at Df
    have hrow:wr.ownsRow B 136 5 (.slice (some ⟨g,0,none⟩) j d) j (cells aN m):=by
     have:=HM.out;unfold Own at this;rwa [hm] at this
    have hcut:=Dd (List.replicate ((j-i)*5) (.int .i64 0)) (Q0 hrow (i:=i) (by omega)) (Nat.le_refl _)
    rw[Gd,Df] at hcut;have hil:(l.filter fun x=> !f x).length=i:=by rw[<-Df,List.length_take,hm];omega
    have HF:=hid (show Own aN 136 B (wr.setCells g (i*5) (List.replicate ((j-i)*5) (.int .i64 0))) (.slice (some ⟨g,0,none⟩) i d) (l.filter fun x=> !f x) by unfold Own;rw[hil];exact hcut)
    have Xd:=hid (tX (List.replicate ((j-i)*5) (.int .i64 0)) (o:=i*5) HG.out);have abO:=fun c' ty=>KV (g:=g) (c:=d) (i:=i) (B:=B) (m:=m) (by rw[hm];exact HM.out) (by omega) c' ty
    rw[hm] at abO;generalize wr.setCells g (i*5) (List.replicate ((j-i)*5) (.int .i64 0))=w5 at *;have Xe:j<=d:=by
     rcases hrow.2 with ⟨e,-⟩ | ⟨g',cap,cur,e,h1,h2,h3,-⟩
     ·simp at e
     ·simp only[Value.slice.injEq] at e
      omega
    have hd1:(i:Int)<=(d:Int):=by omega
    have Y7:¬d=i:=by omega
    clear hrow hcut Df;go_wp2;go_ret;exact⟨_,rfl,HF.out,rfl,Xd.out⟩
theorem wD {l:List It}{id:Int}(h:∀x∈l,x.id≠id):l.filter (iP id)=[]/\l.filter (fun x=> !iP id x)=l:=by
 refine⟨List.filter_eq_nil_iff.2 fun x hx=>by simp[iP,h x hx],List.filter_eq_self.2 fun x hx=>by simp[iP,h x hx]⟩
theorem wE (x:It)(l:List It)(id:Int):au (x :: l) id=if x.id=id then 0 else if au l id<0 then -1 else au l id+1:=by
 unfold au;rw[spot];by_cases h:x.id=id <;>simp [h]
theorem nO {id:Int}:∀{l:List It},(l.Pairwise fun a b=>a.id≠b.id)->(take l id).1=l.filter (fun x=> !iP id x)/\(take l id).2=head (l.filter (iP id))
 | [],_=>⟨rfl,rfl⟩
 | x :: l,h=>by
   obtain⟨h1,h2⟩:=List.pairwise_cons.1 h;obtain⟨i1,i2⟩:=nO h2;by_cases hx:x.id=id
   ·have hp:au (x :: l) id=0:=by rw[wE,if_pos hx]
    obtain⟨f1,f2⟩:=wD (l:=l) (id:=id) (fun y hy=>by have:=h1 y hy;omega)
    unfold take;rw[if_neg (by omega)]
    have e:(jl (x :: l) id)=x:=by unfold jl;rw[hp];rfl
    rw[e,hp];simp only[List.filter_cons,iP,hx,beq_self_eq_true,if_true,Bool.not_true,Bool.false_eq_true,if_false];exact⟨f2.symm,rfl⟩
   ·have hb:iP id x=false:=by simp[iP,hx]
    simp only[List.filter_cons,hb,Bool.false_eq_true,if_false,Bool.not_false,if_true];unfold take at i1 i2 ⊢;have hp:=wE x l id;rw[if_neg hx] at hp;by_cases hl:au l id<0
    ·rw [if_pos hl] at hp i1 i2
     rw[if_pos (by omega)]
     exact⟨congrArg (x :: ·) i1,i2⟩
    ·rw [if_neg hl] at hp i1 i2
     rw[if_neg (by omega)]
     have ht:(au (x :: l) id).toNat=(au l id).toNat+1:=by omega
     have e:jl (x :: l) id=jl l id:=by unfold jl;rw[ht];rfl
     rw[e,ht,List.eraseIdx_cons_succ];exact⟨congrArg (x :: ·) i1,i2⟩
theorem wG {l:List It}{p:Option Addr}{d:Nat}{w:World}(h:aL aN w p l) :
 Calls prog 137 #[.slice p l.length d] w fun e w'=>e=.returned (.tuple #[val (head l).1,.bool (head l).2])/\Below w.heap.size w w':=by
 have hb:=cQ w (.cells #[.int .i64 0,.int .i64 0,.int .i64 0,.int .i64 0,.int .i64 0] 136);have K:=heap_alloc_new w (.cells #[.int .i64 0,.int .i64 0,.int .i64 0,.int .i64 0,.int .i64 0] 136);cases l with
 | nil =>
   go_enter func137,ntmps137
   go_wp2;refine bodyPost_ret (v:=.tuple #[val z,.bool false]) (by simp[results,results137,go_sem,val,z]) rfl ⟨rfl,cQ _ _⟩
 | cons x l =>
   obtain⟨b,o,rfl,ha⟩:=bj (h.below hb) (show 0<(x :: l).length by simp)
   obtain⟨k0,k1,k2,k3,k4⟩:=xu ha;simp only[List.getD_cons_zero,Nat.zero_mul,Nat.add_zero] at k0 k1 k2 k3 k4;simp only[head];have hne:(((x :: l).length:Int)==0)=false:=by simp only[List.length_cons,beq_eq_false_iff_ne];omega
   have C1:(0:Int)<((x :: l).length:Int):=by simp
   generalize(x :: l).length=n at *;obtain⟨xi,xk,xc,xs,xt⟩:=x;simp only[val] at *;clear h ha;go_enter func137,ntmps137
   go_wp2;refine bodyPost_ret (v:=.tuple #[val ⟨xi,xk,xc,xs,xt⟩,.bool true]) (by simp[results,results137,go_sem,val]) rfl ⟨rfl,cQ _ _⟩
theorem KW {F:Nat->Prop}{B q:Nat}{w:World}{aw:Int}{l:List It}{y:Value}(h:rp F B w q aw l y)(hB:B<=w.heap.size)(hl:l.length<=16){c g0:Nat}{id:Int}{f:It->Bool}(eg:QY g0)(hg:rq c id g0 f)(hc:w.cell? ⟨c,0,none⟩=some (.int .i64 id))(Vp:y.ownBlock≠some c) :
 Calls prog 201 #[.pointer (some ⟨q,0,none⟩),Sn g0 c] w fun e w'=>∃p d,e=.returned (.slice p (l.filter f).length d)/\aL aN w' p (l.filter f)/\eA Pq F B w q aw (l.filter fun x=> !f x) w':=by
 obtain⟨p,d,rfl,c1,eM,-,-⟩:=h.cell;have HH:=hid h;have hp:=mq eg hg (d:=d) eM (by omega) hc
 have HD:=hid (fun(u:World) (hu:Below w.heap.size w u)=>Gg eg hg (h.ic.on hu) (by omega) (af hc hu) Vp)
 have Tw:=hid (fun b (e:(Value.slice p l.length d).ownBlock=some b)=>jo h.ic e)
 clear h hg hc Vp eM;generalize l.filter f=R1 at *;generalize(l.filter fun x=> !f x)=R2 at *
 have abP:=HH.out.lt;go_enter func201,ntmps201
 go_wp2_with (first
  |(go_at_call 179;(with_reducible refine hp.mono ?_);rintro e u1 ⟨y0,rfl,ho,hb⟩;have HO:=hid ho;have aO:=hid hb;have c2:=af c1 hb;clear ho hb hp c1)
  |(go_at_call 228;(with_reducible refine(HD.out _ aO.out).mono ?_);rintro e u2 ⟨y',rfl,ko,ax,hg2⟩;obtain⟨p2,d2,rfl,-,-⟩:=fG ko;obtain⟨f0,c3,D⟩:=(HH.out.below aO.out).CW (Nat.le_trans hB aO.out.size) hg2 ko (fun g e=>.inl (ax ▸ e));have oY:=hid (Own.set (b:=q) (o:=1) (u:=.slice p2 R2.length d2) (dQ HO.out (fun b e=>hg2.block b (jo HO.out e) (fun e2=>Nat.lt_irrefl b (Nat.lt_of_lt_of_le (Tw.out b e2.symm) (World.ownsRow.lt HO.out b e).1)))) abP);clear c2 HD ko ax hg2))
 have HM:=hid (D.out.Ga hB aO.out);obtain⟨p0,d0,rfl,hl0,-⟩:=fG oY.out;have VG:=hid hl0;clear hl0;go_ret;exact⟨_,_,rfl,VG.out,HM.out⟩
theorem Gh (fv:Value)(w:World):Calls prog 201 #[.pointer none,fv] w fun e w'=>e=.returned (.slice none 0 0)/\Below w.heap.size w w':=by
 go_enter func201,ntmps201
 go_wp2;go_ret;exact⟨rfl,Below.refl _ _⟩
theorem Gi {F G:Nat->Prop}{B q g:Nat}{w u u':World}{aw:Int}{l:List It}(h:eA Pq G B u q aw l u')(hB:B<=w.heap.size)(hb:Below w.heap.size w u)(hF:∀k,F k->G k)(hF2:∀k,F k->k<w.heap.size)(hx:G g)(hg:w.heap.size<=g)(x:It):eA Pq F B w q aw l (lV u' g x):=by
 obtain⟨y,hy⟩:=h.pw;have Uj:Below B w (lV u' g x):=iI ((hb.mono hB).trans h.below) (by omega) x
 refine⟨⟨y,hy.ge,fun e=>hy.nf (hF _ e),(jV x (show q≠g by rintro rfl;exact hy.nf hx)).trans hy.mW,dQ hy.ic (fun b e=>jV x (show b≠g by rintro rfl;exact hy.Mj _ e hx)),fun k e e2=>hy.Mj k e (hF _ e2),fun k e=>Nat.lt_of_lt_of_le (hF2 k e) Uj.size⟩,⟨Uj.size,fun k cs t z e ht=> ?_⟩,Uj,fun k e hk=> ?_⟩
 ·have hk:=aD e
  exact(jV x (by omega)).trans (h.off.block k cs t z ((hb.block k hk).trans e) ht)
 ·exact (jV x (by omega)).trans ((h.rest k (hF k e) (Nat.lt_of_lt_of_le hk hb.size)).trans (hb.block k hk))
theorem rp.box {F:Nat->Prop}{B q:Nat}{w:World}{aw:Int}{l:List It}{y:Value}(h:rp F B w q aw l y)(o:Obj):rp (fun g=>F g∨g=w.heap.size) B (w.alloc o) q aw l y :=
 (h.grow (cQ w o)).sub (fun g hg=>hg.elim .inl (fun e=>.inr (by subst e;simp)))
theorem KX {F:Nat->Prop}{B q:Nat}{w:World}{aw:Int}{l:List It}(h:Pq F B w q aw l)(hB:B<=w.heap.size)(hg:bu aw l)(hl:l.length<=16)(id:Int) :
 Calls prog 162 #[.pointer (some ⟨q,0,none⟩),.int .i64 id] w fun e w'=>e=.returned (.tuple #[val (take l id).2.1,.bool (take l id).2.2])/\eA Pq F B w q aw (take l id).1 w':=by
 obtain⟨y,hy⟩:=h;obtain⟨e1,e2⟩:=nO (id:=id) hg.vg;rw[e1,e2];have HZ:=hid (cQ w (.cells #[.int .i64 0,.int .i64 0,.int .i64 0,.int .i64 0,.int .i64 0] 136));have KZ:=hid (heap_alloc_new w (.cells #[.int .i64 0,.int .i64 0,.int .i64 0,.int .i64 0,.int .i64 0] 136));have hn:=td id (w.alloc (.cells #[.int .i64 0,.int .i64 0,.int .i64 0,.int .i64 0,.int .i64 0] 136));have hyz:=hy.box (.cells #[.int .i64 0,.int .i64 0,.int .i64 0,.int .i64 0,.int .i64 0] 136);have Xf:=hid (fun(u:World) (hu:Below (w.alloc (.cells #[.int .i64 0,.int .i64 0,.int .i64 0,.int .i64 0,.int .i64 0] 136)).heap.size (w.alloc (.cells #[.int .i64 0,.int .i64 0,.int .i64 0,.int .i64 0,.int .i64 0] 136)) u) (hc:u.cell? ⟨w.heap.size+1,0,none⟩=some (.int .i64 id))=>KW (hyz.below hu) (Nat.le_trans (Nat.le_trans hB HZ.out.size) hu.size) hl zf (tW (w.heap.size+1) id) hc (fun e=>by have:=jo hy.ic e;omega))
 have HFL:=hid hy.fl;have eF:=hid hB;clear hy e1 e2 hyz;generalize l.filter (iP id)=R1 at *;generalize(l.filter fun x=> !iP id x)=R2 at *
 have HH:=hid (fun(u:World) (p:Option Addr) (d:Nat) (hp:aL aN u p R1)=>wG (d:=d) hp)
 generalize head R1=hd at *;obtain⟨⟨xi,xk,xc,xs,xt⟩,ok⟩:=hd;simp only[val] at *;go_enter func162,ntmps162
 go_wp2_with (first
  |(go_at_call 141;(with_reducible refine hn.mono ?_);rintro e u1 ⟨rfl,hc,hb⟩;have aO:=hid hb;have HC:=hid (show u1.cell? ⟨w.heap.size+1,0,none⟩=some (.int .i64 id) from by simpa using hc);have kq:=hid ((hb.block _ (aD KZ.out)).trans KZ.out);clear hb hc hn)
  |(go_at_call 201;(with_reducible refine(Xf.out _ aO.out HC.out).mono ?_);rintro e u2 ⟨p2,d2,rfl,hl2,hm⟩;have HM:=hid hm;have Ek:=hid hl2;have lX:=hid ((hm.rest w.heap.size (.inr rfl) (aD kq.out)).trans kq.out);clear hl2 hm Xf)
  |(go_at_call 137;(with_reducible refine(HH.out _ _ _ Ek.out).mono ?_);rintro e u3 ⟨rfl,hb⟩;have rN:=hid ((hb.block _ (aD lX.out)).trans lX.out);have Dg:=hid (HM.out.on (Nat.le_trans (Nat.le_trans eF.out HZ.out.size) aO.out.size) hb);obtain⟨b0,b1,b2,b3,b4⟩:=bQ rN.out;obtain⟨f0,f1,f2,f3,f4⟩:=Zp.ou rN.out;clear hb HH))
 rw[show ((((u3.setCell ⟨w.heap.size,0,none⟩ (.int .i64 xi)).setCell ⟨w.heap.size,1,none⟩ (.int .i64 xk)).setCell ⟨w.heap.size,2,none⟩ (.int .i64 xc)).setCell ⟨w.heap.size,3,none⟩ (.int .i64 xs)).setCell ⟨w.heap.size,4,none⟩ (.int .i64 xt)=lV u3 w.heap.size ⟨xi,xk,xc,xs,xt⟩ from rfl]
 obtain⟨e0,e1,e2,e3,e4⟩:=bQ (jU rN.out ⟨xi,xk,xc,xs,xt⟩);have HE:=hid (Gi Dg.out eF.out (HZ.out.trans (aO.out.mono HZ.out.size)) (fun k hk=>.inl hk) HFL.out (.inr rfl) (Nat.le_refl _) ⟨xi,xk,xc,xs,xt⟩)
 generalize lV u3 w.heap.size ⟨xi,xk,xc,xs,xt⟩=u4 at *;refine bodyPost_ret (v:=.tuple #[val ⟨xi,xk,xc,xs,xt⟩,.bool ok]) (by simp[results,results162,go_sem,val,e0,e1,e2,e3,e4]) rfl ⟨rfl,HE.out⟩
theorem KY (id:Int)(w:World):Calls prog 162 #[.pointer none,.int .i64 id] w fun e w'=>e=.returned (.tuple #[val z,.bool false])/\Below w.heap.size w w':=by
 have HZ:=hid (cQ w (.cells #[.int .i64 0,.int .i64 0,.int .i64 0,.int .i64 0,.int .i64 0] 136));have KZ:=hid (heap_alloc_new w (.cells #[.int .i64 0,.int .i64 0,.int .i64 0,.int .i64 0,.int .i64 0] 136));have hn:=td id (w.alloc (.cells #[.int .i64 0,.int .i64 0,.int .i64 0,.int .i64 0,.int .i64 0] 136));have Xf:=hid Gh;have HH:=hid (fun(u:World)=>wG (l:=[]) (p:=none) (d:=0) (w:=u) (.inl rfl))
 simp only[head,val,z,List.length_nil] at *;go_enter func162,ntmps162
 go_wp2_with (first
  |(go_at_call 141;(with_reducible refine hn.mono ?_);rintro e u1 ⟨rfl,hc,hb⟩;have aO:=hid (HZ.out.trans (hb.mono HZ.out.size));have kq:=hid ((hb.block _ (aD KZ.out)).trans KZ.out);clear hb hc hn)
  |(go_at_call 201;(with_reducible refine(Xf.out _ _).mono ?_);rintro e u2 ⟨rfl,hb⟩;have bJ:=hid (aO.out.trans (hb.mono aO.out.size));have lX:=hid ((hb.block _ (aD kq.out)).trans kq.out);clear hb Xf)
  |(go_at_call 137;(with_reducible refine(HH.out _).mono ?_);rintro e u3 ⟨rfl,hb⟩;have rN:=hid ((hb.block _ (aD lX.out)).trans lX.out);have cH:=hid (bJ.out.trans (hb.mono bJ.out.size));obtain⟨b0,b1,b2,b3,b4⟩:=bQ rN.out;obtain⟨f0,f1,f2,f3,f4⟩:=Zp.ou rN.out;clear hb HH))
 rw[show ((((u3.setCell ⟨w.heap.size,0,none⟩ (.int .i64 0)).setCell ⟨w.heap.size,1,none⟩ (.int .i64 0)).setCell ⟨w.heap.size,2,none⟩ (.int .i64 0)).setCell ⟨w.heap.size,3,none⟩ (.int .i64 0)).setCell ⟨w.heap.size,4,none⟩ (.int .i64 0)=lV u3 w.heap.size ⟨0,0,0,0,0⟩ from rfl]
 obtain⟨e0,e1,e2,e3,e4⟩:=bQ (jU rN.out ⟨0,0,0,0,0⟩);have HE:=hid (iI cH.out (Nat.le_refl _) ⟨0,0,0,0,0⟩);generalize lV u3 w.heap.size ⟨0,0,0,0,0⟩=u4 at *;refine bodyPost_ret (v:=.tuple #[val z,.bool false]) (by simp[results,results162,go_sem,val,z,e0,e1,e2,e3,e4]) rfl ⟨rfl,HE.out⟩
def wy (k:Int)(x:It):Bool:= !(x.key==k)
theorem Uk {l:List It}(h:l.Pairwise fun a b=>a.id≠b.id):∀{a b:It},a∈l->b∈l->a.id=b.id->a=b:=by
 induction l with
 | nil=>intro a b ha;cases ha
 | cons x t ih =>
   intro a b ha hb e;obtain⟨h1,h2⟩:=List.pairwise_cons.1 h;rcases List.mem_cons.1 ha with rfl | ha'
   ·rcases List.mem_cons.1 hb with rfl | hb'
    ·rfl
    ·exact absurd e (h1 b hb')
   ·rcases List.mem_cons.1 hb with rfl | hb'
    ·exact absurd e.symm (h1 a ha')
    ·exact ih h2 ha' hb' e
theorem IJ {l:List It}{k c:Int}{x:It}:x∈xq l k c↔x∈l/\x.key=k/\x.bU=c:=by
 simp[xq,ng]
theorem Gj {l:List It}{k:Int}{x:It}(h:x∈of l k):x∈l/\x.key=k:=by
 simp only[of,List.mem_append,IJ] at h;rcases h with (h | h) | h <;>exact ⟨h.1,h.2.1⟩
theorem kR (p q:It->Bool)(l:List It):(l.filter p).filter q=(l.filter q).filter p:=by
 rw[List.filter_filter,List.filter_filter];exact List.filter_congr fun x _=>Bool.and_comm _ _
theorem K5 (p:It->Bool)(l:List It)(k:Int):of (l.filter p) k=(of l k).filter p:=by
 simp only[of,xq,List.filter_append];rw[kR p,kR p,kR p]
theorem Od {l:List It}(hn:l.Pairwise fun a b=>a.id≠b.id){x:It}(hx:x∈l):take l x.id=(l.filter (fun y=> !iP x.id y),x,true)/\(l.filter fun y=> !iP x.id y).length+1=l.length:=by
 have hp:0<=au l x.id:=by
  apply Int.not_lt.1;intro h;exact fJ h x hx rfl
 obtain⟨h1,h2,h3⟩:=cM hp;have e:=(nO (id:=x.id) hn).1;unfold take at e ⊢;rw[if_neg (by omega)] at e ⊢
 simp only at e;refine⟨by rw[e,Uk hn h3 hx h2],?_⟩
 rw[<-e,List.length_eraseIdx,if_pos h1];omega
theorem Oe {aw:Int}{l t:List It}(hg:bu aw l){k:Int}{x:It}(h:of l k=x :: t) :
 x.key=k/\x∈l/\take l x.id=(l.filter (fun y=> !iP x.id y),x,true)/\of (l.filter fun y=> !iP x.id y) k=t/\(l.filter fun y=> !iP x.id y).filter (wy k)=l.filter (wy k)/\(l.filter fun y=> !iP x.id y).length+1=l.length/\bu aw (l.filter fun y=> !iP x.id y):=by
 obtain⟨hx,hk⟩:=Gj (l:=l) (k:=k) (x:=x) (by rw[h];exact List.mem_cons_self)
 obtain⟨h1,h2⟩:=Od hg.vg hx;refine⟨hk,hx,h1,?_,?_,h2,ll hg List.filter_sublist⟩
 ·have hn:(of l k).Pairwise fun a b=>a.id≠b.id:=by
   have hs:∀c,(xq l k c).Pairwise fun a b=>a.id≠b.id:=fun c=>hg.vg.sublist List.filter_sublist
   have hd:∀c d,c≠d->∀a∈xq l k c,∀b∈xq l k d,a.id≠b.id:=fun c d Ul a ha b hb e=>by
    rw[IJ] at ha hb;have:=Uk hg.vg ha.1 hb.1 e;rw[this] at ha;exact Ul (ha.2.2.symm.trans hb.2.2)
   unfold of;rw[List.pairwise_append,List.pairwise_append];refine⟨⟨hs 0,hs 1,hd 0 1 (by decide)⟩,hs 2,fun a ha b hb=> ?_⟩
   rcases List.mem_append.1 ha with ha | ha
   ·exact hd 0 2 (by decide) a ha b hb
   ·exact hd 1 2 (by decide) a ha b hb
  rw[K5,h];rw[h] at hn;obtain⟨n1,-⟩:=List.pairwise_cons.1 hn;rw[List.filter_cons];simp only[iP,beq_self_eq_true,Bool.not_true,Bool.false_eq_true,if_false];exact List.filter_eq_self.2 fun y hy=>by
   have:=n1 y hy;simp only[Bool.not_eq_true',beq_eq_false_iff_ne];exact fun e=>this e.symm
 ·rw [kR]
  exact List.filter_eq_self.2 fun y hy=>by
   obtain⟨hy1,hy2⟩:=List.mem_filter.1 hy;simp only[iP,Bool.not_eq_true',beq_eq_false_iff_ne];intro e;rw[Uk hg.vg hy1 hx e] at hy2;simp[wy,hk] at hy2
theorem K7 (l:List It){j:Nat}(hj:j<=l.length):head (l.drop j)=(l.getD j z,decide (j<l.length)):=by
 by_cases h:j<l.length
 ·rw [List.drop_eq_getElem_cons h]
  simp[head,List.getD,h]
 ·have:j=l.length:=by omega
  subst this;simp[head,List.getD]
end Zu
end Go.Proofs.YtbgdlokegibkmaaGreat
