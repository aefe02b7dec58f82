/-
  A part of the proof of VisitPlays.
-/
import Derived.RangeFuncNested
import Derived.RangeFuncBound
import Derived.Shelf.RegionOpen
import Derived.Sort.MapsRangeIn
import Derived.LoopNIn
import Derived.LoopIn
import Derived.Test.YtbgdlokegibkmaaGreatMpAv
set_option maxRecDepth 100000
set_option maxHeartbeats 2000000
namespace Go.Proofs.YtbgdlokegibkmaaGreat
open Tryz
open Lib (hid)
namespace Zw
open Go.RowKit Go.Maps Go.Shelf
attribute [local go_sem] Oper.semAt_some
theorem D9 {l:List Lz}(h:cI l){x y:Lz}(hx:x∈l)(hy:y∈l)(e:x.key=y.key):x=y:=by
 induction l with
 | nil=>simp at hx
 | cons a l ih =>
   obtain⟨h1,h2⟩:=List.pairwise_cons.1 h;rcases List.mem_cons.1 hx with ex | OW
   ·rcases List.mem_cons.1 hy with ey | hy'
    ·rw [ex,ey]
    ·have:=h1 _ hy'
     rw[<-ex] at this;omega
   ·rcases List.mem_cons.1 hy with ey | hy'
    ·have:=h1 _ OW
     rw[<-ey] at this;omega
    ·exact ih h2 OW hy'
theorem Hm {l:List Lz}(h:cI l):l.Nodup:=h.imp fun {a b} hab e=>by rw[e] at hab;omega
structure Bc (L:List Lz)(left:Lit->Bool)(ss:List Lz):Prop where
 Pa:ss.Nodup
 mem:∀x,x∈ss↔(x∈L/\left (kl x.key)=false)
theorem Bc.start {D:DataW Unit}{L:List Lz}(hi:Is D L):Bc L (Maps.has D) []:=by
 refine⟨.nil,fun x=>⟨fun h=>(by cases h),fun⟨h,h0⟩=> ?_⟩⟩
 rw[hi.has] at h0;have h1:=of_decide_eq_false h0;exact absurd rfl (fJ (l:=L) (k:=x.key) (by omega) x h)
theorem Bc.UN {L:List Lz}{left:Lit->Bool}{ss:List Lz}(h:Bc L left ss)(hr:cI L)(hl:∀k,left k=false):ss.Perm L :=
 (List.perm_ext_iff_of_nodup h.Pa (Hm hr)).2 fun x=>by rw[h.mem x,hl];simp
theorem UO {D:DataW Unit}{L:List Lz}(hi:Is D L)(hr:cI L){x:Int}{y:Lz}(hat:∀zd,D.atKey (kl x) zd=FQ y):y∈L/\y.key=x:=by
 have h1:=has_true_of_atKey hat;rw[hi.has] at h1;have hp:=of_decide_eq_true h1;have h2:=hat (FQ z);rw[hi.at hr] at h2;have h3:=IC h2;unfold found at h3;rw[if_pos hp] at h3;obtain⟨-,hk,hm⟩:=cM hp;exact⟨h3 ▸ hm,h3 ▸ hk⟩
theorem Bc.step {L:List Lz}{left:Lit->Bool}{ss:List Lz}(h:Bc L left ss)(hr:cI L){x:Int}{y:Lz}(hlk:left (kl x)=true)(hy:y∈L/\y.key=x):Bc L (fun z=>left z&& !z.sameKey (kl x)) (ss++[y]):=by
 obtain⟨hy,hk⟩:=hy;have xN:y∉ss:=fun hm=>by
  have:=((h.mem y).1 hm).2;rw[hk,hlk] at this;cases this
 refine⟨List.nodup_append.2 ⟨h.Pa,by simp,fun a ha b hb=>by simp at hb;subst hb;exact fun e=>xN (e ▸ ha)⟩,fun v=> ?_⟩
 rw[List.mem_append,h.mem v,List.mem_singleton,iW]
 constructor
 ·rintro (⟨h1,h2⟩ | rfl)
  ·exact ⟨h1,by simp[h2]⟩
  ·exact ⟨hy,by simp[hk]⟩
 ·rintro ⟨h1,h2⟩
  by_cases e:v.key=x
  ·exact .inr (D9 hr h1 hy (by rw[e,hk]))
  ·left
   refine⟨h1,?_⟩;have:(v.key==x)=false:=by simpa using e
   rw[this] at h2;simpa using h2
theorem L3 (n:Nat)(hn:1<=n)(l Bm b nn:Nat)(D:DataW Unit)(L:List Lz)(hi:Is D L)(hr:cI L)(J Jx:List Lz->World->Prop)
 (hY:∀pre x W,J pre W->pre.length<L.length->YieldAt Fence.wide (n-1) prog l #[val x] W fun e W' =>
   (e=.returned (.bool true)/\J (pre++[x]) W'/\KeepsWalks W W')∨(e=.returned (.bool false)/\Jx (pre++[x]) W'))
 (W:World) (hJ:AbidesFrom W.heap.size J) (hm:W.cell? ⟨Bm,0,none⟩=some (.map (some b))) (ax:W.ownsMap prog 3 rdz b nn D) (h0:J [] W) :
 CallsIn Fence.wide n prog 176 #[.func (.yield l) #[] #[],.pointer (some ⟨Bm,0,none⟩)] W fun e W'=>(∃v,e=.returned v) /\
  ((∃xs,xs.Perm L/\J xs W')∨(∃pre,True/\Jx pre W')):=by
 refine callsIn_of_wp func176 rfl trivial ?_ rfl;simp only[ntmps176,List.size_toArray,List.length_cons,List.length_nil,Nat.reduceAdd,Nat.reduceSub,Array.replicate_succ,Array.replicate_zero,List.push_toArray,List.append_toArray,List.nil_append,List.cons_append]
 gi_wp2_with (first
  |(gi_at_range;refine wpListIn_range_own _ rfl _ 192 rfl 3 135 dR underlying192 rdz b nn _ rfl ax ?_;intro w0 hrg0 hg0 hs0)
  | gi_in)
 go_frame
 gi_loopw [7] (fun _ wr=>∃(left:Lit->Bool) (cnt:Nat) (ss:List Lz),wr.ranges prog 3 rdz b W.heap.size nn D left cnt/\ss.length+cnt<=L.length/\Bc L left ss/\J ss wr)
  (fun _ wr=>wr.rangeLeft b W.heap.size)
 case atStart =>
  exact⟨_,_,[],hrg0,by simp[hi.size],Bc.start hi,hJ [] W w0 none h0 hg0 (fun r e=>by cases e)⟩
 case round =>
  obtain⟨left,cnt,ss,hrg,hcs,hC,hJs⟩:=hrel
  gi_wp2_with (first
   |(gi_at_next;refine wpListIn_next_ranges _ rfl _ rfl 3 dR rdz (Value.int .i64) val (fun key kl h=>by obtain⟨x,rfl,-⟩:=Maps.keyOf_int_inv underlying3 h;exact⟨x,rfl⟩) (fun v y h=>by obtain⟨x,rfl,-⟩:=AD h;exact⟨x,rfl⟩) b W.heap.size nn _ _ _ rfl hrg ?_ ?_)
   | gi_in)
  ·intro hc0 hl0
   gi_wp2
   go_end0
   exact⟨⟨_,rfl⟩,.inl ⟨ss,hC.UN hr hl0,hJs⟩⟩
  ·intro x y k1 yd yp w2 cnt2 hkey hlk hv hat hrg2 aC hg2 hs2 hen
   simp only[q7,Option.some.injEq,Prod.mk.injEq] at hv;obtain⟨rfl,rfl⟩:=hv;obtain⟨x',ex,rfl,-⟩:=Maps.keyOf_int_inv underlying3 hkey;obtain rfl:x=x':=by simpa using ex
   have hJ2:J ss w2:=hJ ss wr w2 (some W.heap.size) hJs hg2 (fun r e=>by cases e;exact⟨Nat.le_refl _,hrg.iter_walk⟩)
   have hJ3:J ss (w2.alloc (.cells #[.int .i64 y.key,.int .i64 y.gen,.int .i64 y.aK,.int .i64 y.spent,.int .i64 y.cJ] 135)):=hJ ss w2 _ none hJ2 (World.grownBy_alloc _ _ _) (fun r e=>by cases e)
   have hrg3:=hid (hrg2.alloc (.cells #[.int .i64 y.key,.int .i64 y.gen,.int .i64 y.aK,.int .i64 y.spent,.int .i64 y.cJ] 135));have hC2:=hC.step hr hlk (UO hi hr hat);obtain⟨fn,tmps,assign,body,hy,hR⟩:=hY ss y _ hJ3 (by omega)
   simp only[val] at hen hy hR ⊢;clear hs2
   gi_wp2
   refine hR.mono ?_;rintro e W3 (⟨rfl,hJ4,hk4⟩ | ⟨rfl,UP⟩)
   ·gi_wp2
    have AI:=hrg3.out.of_walks hk4;go_roundw
    case rel=>exact ⟨_,cnt2,ss++[y],AI,by simp;omega,hC2,hJ4⟩
    case measure=>rw [AI.left_eq,hrg.left_eq];exact aC
   ·gi_wp2
    refine bodyPost_ret (results_none rfl _ _ _) rfl ?_;exact⟨⟨_,rfl⟩,.inr ⟨ss++[y],trivial,UP⟩⟩
theorem Hn (n:Nat)(l Bm:Nat)(J:List Lz->World->Prop)(W:World)(hJ:AbidesFrom W.heap.size J)(hm:W.cell? ⟨Bm,0,none⟩=some (.map none))(h0:J [] W) :
 CallsIn Fence.wide n prog 176 #[.func (.yield l) #[] #[],.pointer (some ⟨Bm,0,none⟩)] W fun e W'=>(∃v,e=.returned v)/\J [] W':=by
 refine callsIn_of_wp func176 rfl trivial ?_ rfl;simp only[ntmps176,List.size_toArray,List.length_cons,List.length_nil,Nat.reduceAdd,Nat.reduceSub,Array.replicate_succ,Array.replicate_zero,List.push_toArray,List.append_toArray,List.nil_append,List.cons_append];have hrg:=run_range_nilMap (P:=prog) W 192 _ _ underlying192;have Ic:∀ty,(Instr.next (.pointer (some ⟨W.heap.size,0,none⟩)) false ty).run prog (W.alloc (.mapIter none 0 #[] 0))=_:=fun ty=>run_next_nilMap _ ty 0 0 #[]
 gi_wp2
 refine wpIn_loop_rounds 1 ?_;rw[roundsIn_succ]
 gi_wp2
 go_end0
 exact⟨⟨_,rfl⟩,hJ [] W _ none h0 (World.grownBy_alloc W _ none) (fun r e=>by cases e)⟩
theorem Be (n:Nat)(hn:1<=n){B Bm:Nat}{w:World}{m:Option Nat}{L:List Lz}(h:Mw B w m L)(hr:cI L)(hm:w.cell? ⟨Bm,0,none⟩=some (.map m))(aC:Bm<w.heap.size) :
 SeqStopsK Fence.wide n prog 176 #[.pointer (some ⟨Bm,0,none⟩)] (fun x:Lz=> #[val x]) KeepsWalks (fun xs=>xs.Perm L) (fun _=>True) L.length w:=fun l J Jx W hW hJ _ hY h0=>by
 have Mi:=(hW.cell (p:=⟨Bm,0,none⟩) aC).trans hm;rcases h.below hW with ⟨rfl,rfl⟩ | ⟨b,D,rfl,-,ho,hi⟩
 ·refine (Hn n l Bm J W hJ Mi h0).mono ?_
  rintro e W' ⟨hv,hJ'⟩;exact⟨hv,.inl ⟨[],.nil,hJ'⟩⟩
 ·exact L3 n hn l Bm b _ D L hi hr J Jx hY W hJ Mi ho h0
theorem Ea (n:Nat)(m:Option Nat)(w:World) :
 CallsIn Fence.wide n prog 128 #[.map m] w fun e w'=>e=.returned (.func (.func 176) #[] #[.pointer (some ⟨w.heap.size,0,none⟩)])/\w'=w.alloc (.cells #[.map m] 192):=by
 refine callsIn_of_wp func128 rfl trivial ?_ rfl;simp only[ntmps128,List.size_toArray,List.length_cons,List.length_nil,Nat.reduceAdd,Nat.reduceSub,Array.replicate_succ,Array.replicate_zero,List.push_toArray,List.append_toArray,List.nil_append,List.cons_append]
 gi_wp2
 go_ret;exact⟨rfl,rfl⟩
attribute [local go_sem] Oper.semAt_some
theorem Hz:(prog.info? 135).map (fun i=>(i.zero,i.size,i.bytes))=some (some (.agg #[.int .i64 0,.int .i64 0,.int .i64 0,.int .i64 0,.int .i64 0]),5,40):=by kernel_rfl
abbrev qU (x:Lz):List Value:=[.int .i64 x.key,.int .i64 x.gen,.int .i64 x.aK,.int .i64 x.spent,.int .i64 x.cJ]
def Bx5 (W:World)(g:Nat)(x:Lz):Prop:=W.heap[g]? =some (.cells #[.int .i64 x.key,.int .i64 x.gen,.int .i64 x.aK,.int .i64 x.spent,.int .i64 x.cJ] 135 (0,0))
theorem Bx5.ic {W W':World}{g:Nat}{x:Lz}{row:Option Nat}(h:Bx5 W g x)(hg:W.grownBy W' row)(hr:∀r,row=some r->∃o:Obj,W.heap[r]? =some o/\o.isCells=false):Bx5 W' g x:=by
 refine(hg.block g (Zq.ae h) fun e=> ?_).trans h
 obtain⟨o,ho,hc⟩:=hr g e.symm;rw[show W.heap[g]? =_ from h] at ho
 cases ho;cases hc
def Yh (sv:Value)(Bs:Nat)(x:Lz)(a:Act)(W:World):Prop :=
 ∃g,a={ tmps:= #[.slice none 0 0,sv,.pointer (some ⟨Bs,0,none⟩),undef,.slice none 0 0,.pointer (some ⟨g,0,none⟩),sv,val x,undef,undef,undef,undef,undef],defers:=[] }/\Bx5 W g x
theorem kn {L:List Lz}(aT:L.length<=100)(Bm:Nat)(w0 w:World)(hb0:Below w0.heap.size w0 w)
 (hseq:SeqStopsK Fence.wide 5 prog 176 #[.pointer (some ⟨Bm,0,none⟩)] (fun x:Lz=> #[val x]) KeepsWalks (fun xs=>xs.Perm L) (fun _=>True) L.length w0) :
 CallsIn Fence.wide 6 prog 208 #[.slice none 0 0,.func (.func 176) #[] #[.pointer (some ⟨Bm,0,none⟩)]] w fun e W' =>
  ∃v xs,e=.returned v/\xs.Perm L/\Own 135 w.heap.size W' v xs/\Below w.heap.size w W':=by
 obtain⟨i0,hi,hz0,hz1,hz2⟩:=info_parts Hz;have HN:=hid aT;clear aT;refine callsIn_of_wp_marks func208 rfl trivial ?_ rfl;simp only[ntmps208,List.size_toArray,List.length_cons,List.length_nil,Nat.reduceAdd,Nat.reduceSub,Array.replicate_succ,Array.replicate_zero,List.push_toArray,List.append_toArray,List.nil_append,List.cons_append]
 gi_wp2
 have bO:=Boxed.new w 65 (.slice none 0 0);have Sj:Below w.heap.size w (w.alloc (.cells #[.slice none 0 0] 65)):=cQ _ _;refine wpIn_rangeFunc_ownH rfl (by decide) (gf:=176) (lb:= #[.pointer (some ⟨Bm,0,none⟩)]) rfl trivial (enters_of func176 (by kernel_rfl) rfl)
  hseq walksK_t walksK_b (hb0.trans (Sj.mono hb0.size)) (fun _=>rfl)
  (fun pre W=>(∃v,Boxed W w.heap.size 65 v/\W.ownsRow w.heap.size 135 5 v pre.length (cV pre)/\True)/\Below w.heap.size w W)
  (fun _ _ _=>False)
  (OwnFrom.and (Own.from (holdsRow_own w.heap.size w.heap.size 65 135 5 (fun pre:List Lz=>pre.length) cV (fun _ _=>True)) _) (ownFrom_below (Nat.le_refl _) (by simp)))
  (fun _ _ _ _ _ hs _ _=>hs)
  ⟨⟨_,bO,⟨rfl,.inl ⟨rfl,rfl⟩⟩,trivial⟩,Sj⟩
  (Yh (.func (.func 176) #[] #[.pointer (some ⟨Bm,0,none⟩)]) w.heap.size)
  (fun x a' _ X Y row hs hg hr=>by
    obtain⟨g,e,h⟩:=hs;exact⟨g,e,h.ic hg fun r er=>(hr r er).2⟩) ?assign ?body ?done ?stop
 case assign =>
  intro l pre x W K hI hK;simp only[val]
  gi_wp2
  refine hK _ _ ((KeepsOthers.alloc _ _).from _) (KeepsWalks.alloc _ _) ?_ ⟨_,rfl,?_⟩
  ·obtain ⟨⟨v,hv,hrow,ht⟩,hB⟩:=hI
   exact⟨⟨v,hv.alloc _,hrow.alloc _,ht⟩,hB.alloc hB.size _⟩
  ·exact (MapKept.heap_alloc _ _).1
 case body =>
  rintro l pre x a' W hl aci ⟨⟨v,hv,hrow,_⟩,hB⟩ ⟨g,rfl,hx⟩ aC;have hc:=hv.cell;obtain⟨x0,x1,x2,x3,x4⟩:=bQ hx;have sg:pre.length+1<=100:=by have:=HN.out;omega
  simp only[val]
  gi_wp2_with (gi_at_builtin;refine wpListIn_append_own _ rfl _ _ 65 rfl w.heap.size 135 i0 (.agg #[.int .i64 0,.int .i64 0,.int .i64 0,.int .i64 0,.int .i64 0]) 5 40 underlying65 hi hz0 hz1 hz2 rfl (by decide) _ _ _ rfl (hrow.alloc _) ⟨W.heap.size,0,none⟩ 1 1 [.int .i64 x.key,.int .i64 x.gen,.int .i64 x.aK,.int .i64 x.spent,.int .i64 x.cJ] rfl rfl (World.news_of_block (MapKept.heap_alloc W _).1) (by intro u hu;simp at hu;rcases hu with rfl | rfl | rfl | rfl | rfl <;>rfl) (by unfold maxLen;omega) (by omega) (by have:=hB.size;simp;omega) ?_;intro v' w2 hown' Pc _;obtain⟨g',cap',rfl⟩:=ownsRow_succ hown';obtain⟨XZ,hv2,hr2,hk2,hb2⟩:=hv.appended (by decide) hrow hB.size (Nat.le_refl _) hown' Pc;have hc1:=XZ.cell;have zu:=XZ.frozen)
  exact⟨hk2.from _,hk2.walks,⟨⟨_,hv2,by rw[tC,List.length_append];exact hr2,trivial⟩,hB.trans hb2⟩⟩
 case done =>
  rintro D xs W hD hp ⟨⟨v,hv,hrow,_⟩,hB⟩ hK;have hc:=hv.cell
  gi_wp2
  refine⟨by simp,.inl ⟨_,_,rfl,run_takeDeferred hK,?_⟩⟩
  exact⟨_,results_tmp rfl _ _ _,v,xs,rfl,hp,ownsRow_putObj hrow _ hK rfl,hB.trans (belowK_b (w:=w) (Nat.le_refl _) W D _ _ (by simp at hD;omega) hK rfl rfl)⟩
 case stop =>
  rintro D c pre W _ _ h _;exact h.elim
theorem n9 {L:List Lz}(aT:L.length<=100)(Bm:Nat)(w0 w:World)(hb0:Below w0.heap.size w0 w)
 (hseq:SeqStopsK Fence.wide 5 prog 176 #[.pointer (some ⟨Bm,0,none⟩)] (fun x:Lz=> #[val x]) KeepsWalks (fun xs=>xs.Perm L) (fun _=>True) L.length w0) :
 Calls prog 174 #[.func (.func 176) #[] #[.pointer (some ⟨Bm,0,none⟩)]] w fun e W' =>
  ∃v xs,e=.returned v/\xs.Perm L/\Own 135 w.heap.size W' v xs/\Below w.heap.size w W':=by
 have ha:=callsIn_wide.1 (kn aT Bm w0 w hb0 hseq);clear hseq;go_enter func174,ntmps174
 go_wp2_with (go_at_call 208;refine ha.mono ?_;clear ha;rintro e u ⟨v,xs,rfl,hp,ho,hb⟩)
 go_ret;exact⟨v,xs,rfl,hp,ho,hb⟩
end Zw
end Go.Proofs.YtbgdlokegibkmaaGreat
