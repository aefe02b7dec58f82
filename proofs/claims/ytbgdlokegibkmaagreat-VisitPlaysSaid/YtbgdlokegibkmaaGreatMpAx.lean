/-
  A part of the proof of VisitPlays.
-/
import Derived.Lib.MinMax
import Derived.Test.YtbgdlokegibkmaaGreatMpAw
set_option maxRecDepth 100000
set_option maxHeartbeats 1000000
namespace Go.Proofs.YtbgdlokegibkmaaGreat
open Tryz
open Lib (hid)
namespace Zz
open Go.RowKit Go.Maps
open Zq (ae aj ai)
open Zp (bS fN af)
open Zr (dh add dD dM)
theorem iX {B q:Nat}{w:World}{l:List Nt}(h:Pm B w q l){k:Int}(hk:bC k) :
 Calls prog 191 #[.pointer (some ⟨q,0,none⟩),.int .i64 k] w fun e w'=>e=.returned (.int .i64 (of l k))/\Below w.heap.size w w':=by
 obtain⟨m,hc,_,hm⟩:=h.cell;have hl:=hm.get hk;generalize of l k=R at *;clear h hm;go_enter func191,ntmps191
 go_wp2;go_ret;exact⟨rfl,Below.refl _ _⟩
theorem eA.Ga {PW:Pw}{B q:Nat}{w u w':World}{l:List Nt}(hB:B<=w.heap.size)(hb:Below w.heap.size w u)(h:eA PW B u q l w'):eA PW B w q l w' :=
 ⟨h.pw,(fN.cw hb).trans h.off,(hb.mono hB).trans h.below⟩
theorem KO (v:Value)(k e qd l5:Int)(w:World)(c1:Calls prog 191 #[v,.int .i64 k] w fun e' w'=>e'=.returned (.int .i64 e)/\Below w.heap.size w w') :
 Calls prog 199 #[v,.int .i64 k,.int .i64 qd,.int .i64 l5] w fun e' w'=>e'=.returned (.int .i64 (aF e qd l5))/\Below w.heap.size w w':=by
 have c2:=fun u=>Zr.qL e qd u _ rfl
 have c3:=fun u=>Zr.ft l5 u
 have HX:=hid (show min (add [e,qd]) (dh l5)=aF e qd l5 from rfl)
 generalize aF e qd l5=R at *;generalize add [e,qd]=a at *;generalize dh l5=b at *;go_enter func199,ntmps199
 go_wp2_with (first
  |(go_at_call 100;(with_reducible refine(c3 _).mono ?_);rintro e1 w1 ⟨rfl,rfl⟩)
  |(go_at_call 191;(with_reducible refine c1.mono ?_);rintro e1 w2 ⟨rfl,hb⟩;have bJ:=hid hb;clear hb c1)
  |(go_at_call 88;(with_reducible refine(c2 _).mono ?_);rintro e1 w3 ⟨rfl,rfl⟩))
 go_ret;exact⟨by simp;exact HX.out,bJ.out.alloc bJ.out.size _⟩
theorem KP {B q:Nat}{w:World}{l:List Nt}(h:Pm B w q l){k:Int}(hk:bC k)(qd l5:Int) :
 Calls prog 199 #[.pointer (some ⟨q,0,none⟩),.int .i64 k,.int .i64 qd,.int .i64 l5] w fun e' w'=>e'=.returned (.int .i64 (aF (of l k) qd l5))/\Below w.heap.size w w' :=
 KO _ k _ qd l5 w (iX h hk)
end Zz
namespace Zh
open Zz
open Go.RowKit Go.Maps
open Zq (ae aj ai)
structure fF (B:Nat)(w:World)(q:Nat)(l:List Nt)(w':World):Prop where
 iw:eA Pm B w q l w'
 rest:∀g,g<w.heap.size->g≠q->w.cell? ⟨q,0,none⟩≠some (.map (some g))->w'.heap[g]? =w.heap[g]?
 vn:∀b,w'.cell? ⟨q,0,none⟩=some (.map (some b))->w.cell? ⟨q,0,none⟩=some (.map (some b))∨w.heap.size<=b
section
variable {B q:Nat}{w w':World}{l:List Nt}
theorem mi {u v:World}{m:Option Nat}{l':List Nt}(h:Pm B w q l)(hB:B<=w.heap.size)(hc:w.cell? ⟨q,0,none⟩=some (.map m))(hu:Below w.heap.size w u)(hm:Mw B w m l)(hv:u.grownBy v m)(hl:Mw B v m l')(hw:Below v.heap.size v w'):fF B w q l' w' :=
 ⟨h.FT hB hc hu hm hv hl hw,fun g hg _ hne=>(hw.block g (Nat.lt_of_lt_of_le (Nat.lt_of_lt_of_le hg hu.size) hv.size)).trans ((hv.block g (Nat.lt_of_lt_of_le hg hu.size) fun e=>hne (by rw[hc,e])).trans (hu.block g hg)),fun b e=>.inl (by
  obtain⟨_,m',h1,_⟩:=h;have hq:q<w.heap.size:=ae h1;have Mi:some q≠m:=fun e2=>by
   rcases hm with ⟨rfl,_⟩ | ⟨b2,D,rfl,_,ho,_⟩
   ·cases e2
   ·cases e2
    obtain⟨es,clock,hb2,_⟩:=ho;rw[hb2] at h1;cases h1
  rwa [World.cell?_of_block (a:=⟨q,0,none⟩) ((hw.block q (Nat.lt_of_lt_of_le (Nat.lt_of_lt_of_le hq hu.size) hv.size)).trans ((hv.block q (Nat.lt_of_lt_of_le hq hu.size) Mi).trans (hu.block q hq)))] at e)⟩
theorem FW {u v:World}{l':List Nt}(h:Pm B w q l)(hB:B<=w.heap.size)(hu:Below w.heap.size w u)(hv:((u.setCell ⟨q,0,none⟩ (.map (some u.heap.size))).alloc (.map #[] 0)).grownBy v (some u.heap.size))(hl:Mw B v (some u.heap.size) l'):fF B w q l' v:=by
 have hq:=h.lt;have es:(u.setCell ⟨q,0,none⟩ (.map (some u.heap.size))).heap.size=u.heap.size:=by simp
 refine⟨h.first hB hu hv hl,fun g hg hne _=> ?_,fun b e=>.inr ?_⟩
 ·have hgu:=Nat.lt_of_lt_of_le hg hu.size
  refine(hv.block g (by simp;omega) (fun e=>by cases e;omega)).trans ?_
  refine(((Below.refl _ _).alloc (Nat.le_refl _) _).block g (by rw[es];exact hgu)).trans ?_
  exact(Below.heap_setCell _ _ _ _ hne).trans (hu.block g hg)
 ·have PK:=Nat.lt_of_lt_of_le hq hu.size
  have e1:v.heap[q]? =(u.setCell ⟨q,0,none⟩ (.map (some u.heap.size))).heap[q]? :=
   (hv.block q (by simp;omega) (fun e=>by cases e;omega)).trans (((Below.refl _ _).alloc (Nat.le_refl _) _).block q (by rw[es];exact PK))
  obtain⟨_,m',h1,_⟩:=h;rw[ai q 0 _ _ ((hu.block q hq).trans h1)] at e1;rw[cell_of_row v q 0 _ _ (0,0) e1] at e;simp at e;have:=hu.size;omega
theorem fF.Ga {u:World}(hB:B<=w.heap.size)(hq:q<w.heap.size)(hb:Below w.heap.size w u)(h:fF B u q l w'):fF B w q l w' :=
 ⟨eA.Ga hB hb h.iw,fun g hg hn hm=>(h.rest g (Nat.lt_of_lt_of_le hg hb.size) hn (by rw[hb.cell (p:=⟨q,0,none⟩) hq];exact hm)).trans (hb.block g hg),fun b e=>(h.vn b e).imp (fun e2=>by rwa [hb.cell (p:=⟨q,0,none⟩) hq] at e2) (Nat.le_trans hb.size)⟩
end
open Zp (bS fN af)
open Zr (dh add dD dM)
theorem map_some (b:Nat)(w:World):(binOp BinOp.eql 198 (.map (some b)) (.map none)).run prog w=.ok (.bool false) w:=by kernel_rfl
theorem wz (w:World):(binOp BinOp.eql 198 (.map none) (.map none)).run prog w=.ok (.bool true) w:=by kernel_rfl
theorem iX {B q:Nat}{w:World}{l:List Nt}(h:Pm B w q l){k:Int}(hk:bC k) :
 Calls prog 191 #[.pointer (some ⟨q,0,none⟩),.int .i64 k] w fun e w'=>e=.returned (.int .i64 (of l k))/\Below w.heap.size w w':=by
 obtain⟨m,hc,_,hm⟩:=h.cell;have hl:=hm.get hk;generalize of l k=R at *;clear h hm;go_enter func191,ntmps191
 go_wp2;go_ret;exact⟨rfl,Below.refl _ _⟩
theorem KQ {B q:Nat}{w:World}{l:List Nt}(hB:B<=w.heap.size)(h:Pm B w q l){k s:Int}(hk:bC k)(h0:of (l++[⟨k,s⟩]) k=0) :
 Calls prog 192 #[.pointer (some ⟨q,0,none⟩),.int .i64 k,.int .i64 0] w fun e w'=>(∃v,e=.returned v)/\fF B w q (l++[⟨k,s⟩]) w':=by
 obtain⟨m,hc,_,hm⟩:=h.cell;have HT:=hid (fun v l' (hv:w.grownBy v m) (hl:Mw B v m l')=>mi h hB hc (Below.refl _ _) hm hv hl (Below.refl _ _))
 have HM:=hid hm;clear h hm;go_enter func192,ntmps192
 go_wp2_with (at_delete;refine rj rfl _ _ rfl (mp:=m) rfl HM.out hk h0 rfl ?_;intro v hv uA)
 refine bodyPost_ret (results_none rfl _ _ _) rfl ?_;exact⟨⟨_,rfl⟩,HT.out _ _ uA hv⟩
theorem KR {B q b:Nat}{w:World}{l:List Nt}(hB:B<=w.heap.size)(h:Pm B w q l)(hc:w.cell? ⟨q,0,none⟩=some (.map (some b))){k s:Int}(hk:bC k)(aT:l.length<=800)(h0:of (l++[⟨k,s⟩]) k≠0) :
 Calls prog 192 #[.pointer (some ⟨q,0,none⟩),.int .i64 k,.int .i64 (of (l++[⟨k,s⟩]) k)] w fun e w'=>(∃v,e=.returned v)/\fF B w q (l++[⟨k,s⟩]) w':=by
 obtain⟨m,hc',_,hm⟩:=h.cell;obtain rfl:m=some b:=by
  rw[hc] at hc';simpa using hc'.symm
 clear hc';have HT:=hid (fun v l' (hv:w.grownBy v (some b)) (hl:Mw B v (some b) l')=>mi h hB hc (Below.refl _ _) hm hv hl (Below.refl _ _))
 obtain⟨v,hrun,hv,uA⟩:=hm.put (by have:=fB l;unfold maxLen;omega) hk h0
 have he:=map_some b;have hne:(of (l++[⟨k,s⟩]) k==0)=false:=by simpa using h0
 generalize of (l++[⟨k,s⟩]) k=R at *;clear h hm h0;go_enter func192,ntmps192
 go_wp2;go_end0
 exact⟨⟨_,rfl⟩,HT.out _ _ uA hv⟩
theorem Gb {B q:Nat}{w:World}{l:List Nt}(hB:B<=w.heap.size)(h:Pm B w q l)(hc:w.cell? ⟨q,0,none⟩=some (.map none))(hl:aR l=[]){k s:Int}(hk:bC k)(aT:l.length<=800)(h0:of (l++[⟨k,s⟩]) k≠0) :
 Calls prog 192 #[.pointer (some ⟨q,0,none⟩),.int .i64 k,.int .i64 (of (l++[⟨k,s⟩]) k)] w fun e w'=>(∃v,e=.returned v)/\fF B w q (l++[⟨k,s⟩]) w':=by
 obtain⟨m,hc',hf,hm⟩:=h.cell;obtain rfl:m=none:=by
  rw[hc] at hc';simpa using hc'.symm
 clear hc';have hq:=h.lt;have HT:=hid (fun v l' hv (hl:Mw B v (some w.heap.size) l')=>FW h hB (Below.refl _ _) hv hl)
 obtain⟨v,hrun,hv,uA⟩:=(pX (q:=q) w hB hl).put (by have:=fB l;unfold maxLen;omega) hk h0
 have he:=wz;have Y3:= @run_makeMap prog;have hne:(of (l++[⟨k,s⟩]) k==0)=false:=by simpa using h0
 generalize of (l++[⟨k,s⟩]) k=R at *;clear h hm h0;go_enter func192,ntmps192
 go_wp2;go_end0
 exact⟨⟨_,rfl⟩,HT.out _ _ uA hv⟩
theorem Ob {B q:Nat}{w:World}{l:List Nt}(h:Pm B w q l)(hB:B<=w.heap.size)(aT:l.length<=800){k s:Int}(hk:bC k) :
 Calls prog 192 #[.pointer (some ⟨q,0,none⟩),.int .i64 k,.int .i64 (of (l++[⟨k,s⟩]) k)] w fun e w'=>(∃v,e=.returned v)/\fF B w q (l++[⟨k,s⟩]) w':=by
 by_cases h0:of (l++[⟨k,s⟩]) k=0
 ·have:=KQ hB h hk h0
  rwa [<-h0] at this
 ·obtain ⟨m,hc,-,hm⟩:=h.cell
  rcases hm with ⟨rfl,he⟩ | ⟨b,D,rfl,-⟩
  ·exact Gb hB h hc he hk aT h0
  ·exact KR hB h hc hk aT h0
theorem KT {B q:Nat}{w:World}{l:List Nt}(h:Pm B w q l)(hB:B<=w.heap.size)(aT:l.length<=800){k s:Int}(hk:bC k) :
 Calls prog 152 #[.pointer (some ⟨q,0,none⟩),.int .i64 k,.int .i64 s] w fun e w'=>e=.returned (.int .i64 (of (l++[⟨k,s⟩]) k))/\fF B w q (l++[⟨k,s⟩]) w':=by
 have c1:=fun u=>Zr.ft s u
 have c2:=fun u (hu:Below w.heap.size w u)=>iX (h.below hu) hk
 have c3:=fun u (hu:Below w.heap.size w u)=>(Ob (h.below hu) (Nat.le_trans hB hu.size) aT (k:=k) (s:=s) hk).mono fun e w' ⟨he,hm⟩=>And.intro he (fF.Ga hB h.lt hu hm)
 simp only[PV l k s] at c3 ⊢;have n0:=S6 l k;generalize of l k=e at *;generalize dh s=f at *;have HB:=hid (Below.refl w.heap.size w);clear h;go_enter func152,ntmps152
 go_wp2_with (first
  |(go_at_call 100;(with_reducible refine(c1 _).mono ?_);rintro e1 w1 ⟨rfl,rfl⟩)
  |(go_at_call 191;(with_reducible refine(c2 _ HB.out).mono ?_);rintro e1 w2 ⟨rfl,hb⟩;have bJ:=hid hb;clear hb c2)
  |(go_at_call 192;(with_reducible refine(c3 _ bJ.out).mono ?_);rintro e1 w3 ⟨⟨v3,rfl⟩,hm⟩;have HM:=hid hm;clear hm c3))
 go_ret;exact⟨rfl,HM.out⟩
end Zh
end Go.Proofs.YtbgdlokegibkmaaGreat
