/-
  A part of the proof of VisitPlays.
-/
import Derived.OpenShut
import Derived.Deep.Fields
import Derived.Deep.SlicePairs
import Derived.Test.YtbgdlokegibkmaaGreatMpAe
namespace Go.Proofs.YtbgdlokegibkmaaGreat
open Tryz
namespace Zs
open Go.ChangeShapes Go.WideShapes Go.RowKit
theorem pD {H:Type}{enc:TypeId×Value->H}{P:Program}(hl:laidOutB P=true){W W':World}(hb:Below W.heap.size W W') :
 ∀ {ts:List TypeId} {vs:List Value} {ds:List (DataW H)} {ps:List MemPlace},(∀t∈ts,P.readableRec t=true/\t<P.types.size) ->
   DataW.TrodAll enc P W 0 (fun _=>true) true ts vs ds ps->(∀x∈ps,x.block<W.heap.size)->DataW.TrodAll enc P W' 0 (fun b=>decide (b<W.heap.size)) true ts vs ds ps
 | [],_,_,_,_,h,_=>by
   obtain⟨rfl,rfl,rfl⟩:=trodAll_nil h;exact trodAll_mk0
 | t :: ts,_,_,_,hr,h,aC=>by
   obtain⟨v,vs,d,ds,p,q,rfl,rfl,rfl,h0,h1⟩:=trodAll_cons h;exact trodAll_cons_mk (Below.trod hl (hr t (by simp)).1 (hr t (by simp)).2 h0 hb (fun x hx=>aC x (by simp[hx]))) (pD hl hb (fun u hu=>hr u (by simp[hu])) h1 (fun x hx=>aC x (by simp[hx])))
def Dp (P:Program)(ts:List TypeId):Bool:=ts.all fun t=>P.readableRec t&&decide (t<P.types.size)
theorem AP {P:Program}{ts:List TypeId}(h:Dp P ts=true):∀t∈ts,P.readableRec t=true/\t<P.types.size:=by
 intro t ht;have:=List.all_eq_true.1 h t ht;simpa using this
theorem OA {H:Type}{enc:TypeId×Value->H}{P:Program}{f:Func}{s:ChangeSpec}{fZ vn Rf:Bool}{W W':World}{args:Array Value}{ds gs:List (DataW H)}{before:List MemPlace}{bt:TypeId}
 (hW:DataW.Whole enc P f.params.toList s.vars fZ W args.toList ds gs before) (hs:s.vars=[])
 (hres:(s.fn H (ds++[])).results=[.lit (.bool true)]) (Su:(s.fn H (ds++[])).args=ds) (XA:(s.fn H (ds++[])).vars=[])
 (hrt:f.resultTypes= #[bt]) (hbt:P.underlying bt=some .bool) (hl:laidOutB P=true) (hr:Dp P f.params.toList=true) (hb:Below W.heap.size W W') :
 s.post enc P f fZ vn Rf false W args (.bool true) W':=by
 have aC:=hW.lt;have hW':=hW;obtain⟨p,q,hA,hV,rfl,_,_⟩:=hW;rw[hs] at hV;obtain⟨rfl,rfl⟩:=trodVars_none hV;refine⟨ds,[],p++[],[],p,[],hW',?_,?_,?_,hb.frame _,fun h=>by cases h⟩
 ·rw [hres,hrt]
  exact trodAll_mk1 (shut_bool hbt true)
 ·rw [Su]
  exact pD hl hb (AP hr) hA (fun x hx=>aC x (by simp[hx]))
 ·rw [XA,hs]
  rfl
section
variable {H:Type}{enc:TypeId×Value->H}{P:Program}{w:World}{dJ:Nat}{spare:Nat->Bool}{held:Bool}
theorem Dq {r:Reach}{b0:Nat}{t:TypeId}{fs:Array Field}{v:Value}{d:DataW H}{ps:List MemPlace}(hs:P.underlying t=some (.struct fs))
 (Ts:∀(i:Nat) (f:Field),fs[i]? =some f->f.offset=i/\P.cellsOf f.type=1) (hC:P.cellsOf t=fs.size)
 (hval:Value.okWide P w r b0 t v) (h:DataW.Trod enc P w dJ spare held t v d ps) :
 ∃(V:Nat->Value) (Y:Nat->DataW H×List MemPlace) (n:Nat),v=.agg ((List.range fs.size).map V).toArray/\∀(i:Nat) (f:Field),fs[i]? =some f->DataW.trod enc P w dJ spare held n f.type [V i]=some (Y i):=by
 obtain⟨cs,rfl,hsz⟩:=okWide_struct hs hval;rw[hC] at hsz;obtain⟨fuel,hf⟩:=h;obtain⟨xs,n,_,_,_,Bg,hx⟩:=DataW.trod_struct hs hf;have hcs:(Value.agg cs).cells.toList=cs.toList:=by simp[Value.cells]
 rw[hcs] at hx;refine⟨fun i=>cs.toList.getD i undef,fun i=>xs.getD i (.nil,[]),n,?_,fun i f hi=> ?_⟩
 ·congr 1
  apply Array.ext';have:=Deep.map_by_index cs.toList undef id;simpa[hsz] using this
 ·have aC:i<fs.size:=(Array.getElem?_eq_some_iff.1 hi).1
  obtain⟨ho,hc1⟩:=Ts i f hi;have g:=hx i f hi;rw[ho,hc1] at g;rw[Deep.take1_drop cs.toList i undef (by simp;omega),List.getElem?_eq_getElem (by omega)] at g
  rw[g];simp[List.getD,List.getElem?_eq_getElem (show i<xs.length by omega)]
theorem GC {t e:TypeId}{f0 f1:Field}{k:IntKind}{fuel:Nat}{v:Value}{x:DataW H×List MemPlace}(ht:P.underlying t=some (.slice e))(he:P.underlying e=some (.struct #[f0,f1]))
 (ce:P.cellsOf e=2) (o0:f0.offset=0) (o1:f1.offset=1) (c0:P.cellsOf f0.type=1) (c1:P.cellsOf f1.type=1) (u0:P.underlying f0.type=some (.int k)) (u1:P.underlying f1.type=some (.int k))
 (h:DataW.trod enc P w dJ spare held fuel t [v]=some x) :
 ∃ (p:Option Addr) (c:Nat) (zs:List (Int×Int)),v=.slice p zs.length c/\(zs=[]∨∃b o,p=some ⟨b,o,none⟩/\∀i,i<zs.length ->
   w.cell? ⟨b,o+i*2,none⟩=some (.int k (zs.getD i (0,0)).1)/\w.cell? ⟨b,o+i*2+1,none⟩=some (.int k (zs.getD i (0,0)).2)):=by
 rcases Deep.open_slice_pairs ht he ce o0 o1 c0 c1 h with ⟨h0,_⟩ | ⟨a,len,cap,m,n,V0,V1,D0,D1,P0,P1,h0,_,hlc,_,hm,_,hx⟩
 ·simp only[List.cons.injEq,and_true] at h0
  exact⟨none,0,[],h0,.inl rfl⟩
 ·simp only[List.cons.injEq,and_true] at h0
  have MN:len<=m:=by rw[hm];split <;>omega
  refine⟨some a,cap,(List.range len).map fun i=>(intOf (V0 i),intOf (V1 i)),by simpa using h0,?_⟩
  by_cases hl:len=0
  ·left;simp[hl]
  ·right
   obtain⟨b,o,spot⟩:=a;have hs:=(hx 0 (by omega)).1
   have hspot:spot=none:=by simpa[Addr.add] using World.cell?_spot hs
   subst hspot;refine⟨b,o,rfl,fun i hi=> ?_⟩
   simp only[List.length_map,List.length_range] at hi;obtain⟨g0,g1,g2,g3⟩:=hx i (by omega)
   obtain⟨x,e0,_,_⟩:=DataW.trod_int u0 g2;obtain⟨y,e1,_,_⟩:=DataW.trod_int u1 g3;simp only[List.cons.injEq,and_true] at e0 e1;rw[add_plain] at g0 g1;rw[e0] at g0;rw[e1] at g1;have ez:((List.range len).map fun i=>(intOf (V0 i),intOf (V1 i))).getD i (0,0)=(x,y):=by
    simp[List.getD,hi,e0,e1,intOf]
   rw[ez];exact⟨g0,g1⟩
end
theorem UA {a:Int}(h:(Lit.int .i64 a).wf=true): -9223372036854775808<=a/\a<=9223372036854775807:=by simp[Lit.wf,IntKind.min,IntKind.max,IntKind.signed,IntKind.bits] at h;omega
section
variable {H:Type}{enc:TypeId×Value->H}{P:Program}{w:World}{dJ:Nat}{spare:Nat->Bool}{held:Bool}
theorem kh {t:TypeId}{fs:Array Field}{fuel:Nat}{cs:List Value}{x:DataW H×List MemPlace}(ht:P.underlying t=some (.struct fs))(h:DataW.trod enc P w dJ spare held fuel t cs=some x) :
 cs.length=P.cellsOf t/\∃n,∀(i:Nat) (f:Field) (L:List Value),fs[i]? =some f->(cs.drop f.offset).take (P.cellsOf f.type)=L->∃y,DataW.trod enc P w dJ spare held n f.type L=some y:=by
 obtain⟨xs,n,_,_,Sv,aT,hf⟩:=DataW.trod_struct ht h;refine⟨Sv,n,fun i f L hi hL=> ?_⟩
 have h1:=hf i f hi;rw[hL] at h1;have aC:i<xs.length:=by rw[aT];exact(Array.getElem?_eq_some_iff.1 hi).1
 exact⟨_,h1.trans (List.getElem?_eq_getElem aC)⟩
theorem oO {α:Type}(z:α){Q:Nat->α->Prop}:∀(n:Nat),(∀i,i<n->∃r,Q i r)->∃l:List α,l.length=n/\∀i,i<n->Q i (l.getD i z)
 | 0,_=>⟨[],rfl,fun i hi=>absurd hi (Nat.not_lt_zero i)⟩
 | n+1,h=>by
   obtain⟨l,hl,hq⟩:=oO z n fun i hi=>h i (by omega)
   obtain⟨r,hr⟩:=h n (by omega)
   refine⟨l++[r],by simp[hl],fun i hi=> ?_⟩
   by_cases e:i<n
   ·have:(l++[r]).getD i z=l.getD i z:=by simp[List.getD,List.getElem?_append_left (show i<l.length by omega)]
    rw[this];exact hq i e
   ·obtain rfl:i=n:=by omega
    have:(l++[r]).getD i z=r:=by simp[List.getD,<-hl]
    rw[this];exact hr
theorem Lj {α:Type}(z:α)(Q:α->Prop)(V:α->Nat->Value){r:Reach}{b0 n:Nat}{t e:TypeId}{v:Value}{d:DataW H}{ps:List MemPlace}(ht:P.underlying t=some (.slice e))(hn:P.cellsOf e=n)(h1:0<n)
 (one:∀fuel cs x,cs.length=n->DataW.trod enc P w dJ spare held fuel e cs=some x->∃a:α,Q a/\∀k,k<n->cs[k]? =some (V a k))
 (hval:Value.okWide P w r b0 t v) (h:DataW.Trod enc P w dJ spare held t v d ps) :
 ∃(p:Option Addr) (c:Nat) (l:List α),v=.slice p l.length c/\(l.length:Int)<=9223372036854775807/\(l=[]∨∃g o,p=some ⟨g,o,none⟩/\∀j,j<l.length->∀k,k<n->w.cell? ⟨g,o+j*n+k,none⟩=some (V (l.getD j z) k))/\∀a∈l,Q a:=by
 obtain⟨a0,len,cap,rfl⟩:=okWide_slice ht hval;obtain⟨fuel,hf⟩:=h;rcases Deep.open_slice ht hf with ⟨h0,_⟩ | ⟨a,mS,Dr,m,fu,D,Pl,h0,_,hlc,hcm,hm,_,hx⟩
 ·simp [Value.cells] at h0
  obtain⟨rfl,rfl,rfl⟩:=h0;exact⟨none,0,[],rfl,by simp,.inl rfl,fun r hr=>by cases hr⟩
 ·simp [Value.cells] at h0
  obtain⟨rfl,rfl,rfl⟩:=h0;rw[hn] at hx;have MN:len<=m:=by rw[hm];split <;>omega
  have key:∀i,i<len->∃c:α,Q c/\∀k,k<n->w.cell? (a.add (i*n+k))=some (V c k):=by
   intro i hi;obtain⟨cs,hcs,XB⟩:=hx i (by omega)
   obtain⟨_,Sv,hat⟩:=World.cells?_some hcs;obtain⟨c,hc,hk⟩:=one _ cs _ Sv XB;refine⟨c,hc,fun k xL=> ?_⟩
   have q:=hat k xL;rw[Deep.add_add,hk k xL] at q;exact q
  by_cases hl:len=0
  ·subst hl
   exact⟨some a,cap,[],rfl,by simp,.inl rfl,fun r hr=>by cases hr⟩
  ·obtain ⟨b,o,sp⟩:=a
   obtain⟨r0,_,hs⟩:=key 0 (by omega)
   have hsp:sp=none:=by simpa[Addr.add] using World.cell?_spot (hs 0 h1)
   subst hsp;obtain⟨l,XC,hq⟩:=oO z len key;refine⟨some ⟨b,o,none⟩,cap,l,by rw[XC],(by rw[XC];unfold maxLen at hcm;omega),.inr ⟨b,o,rfl,fun j hj k hk=> ?_⟩,fun r hr=> ?_⟩
   ·have q:=(hq j (by omega)).2 k hk
    rw[add_plain] at q;rw[Nat.add_assoc];exact q
   ·obtain ⟨j,hj,e⟩:=List.mem_iff_getElem.1 hr
    have:=(hq j (by omega)).1
    have e2:l.getD j z=r:=by simp[List.getD,hj,e]
    rw[e2] at this;exact this
theorem iA {t:TypeId}(hi:P.underlying t=some (.int .i64)){fuel:Nat}{c:Value}{x:DataW H×List MemPlace}(h:DataW.trod enc P w dJ spare held fuel t [c]=some x):∃a:Int,c=.int .i64 a/\ -9223372036854775808<=a/\a<=9223372036854775807:=by
 obtain⟨a,e,_,w0⟩:=DataW.trod_int hi h;simp only[List.cons.injEq,and_true] at e;exact⟨a,e,UA w0⟩
end
end Zs
namespace Zx
open Go.ChangeShapes Go.WideShapes Go.RowKit Zq
section
variable {H:Type}{enc:TypeId×Value->H}{P:Program}{w:World}{dJ:Nat}{spare:Nat->Bool}{held:Bool}
theorem kh {t:TypeId}{fs:Array Field}{fuel:Nat}{cs:List Value}{x:DataW H×List MemPlace}(ht:P.underlying t=some (.struct fs))(h:DataW.trod enc P w dJ spare held fuel t cs=some x) :
 cs.length=P.cellsOf t/\∃n,∀(i:Nat) (f:Field) (L:List Value),fs[i]? =some f->(cs.drop f.offset).take (P.cellsOf f.type)=L->∃y,DataW.trod enc P w dJ spare held n f.type L=some y:=by
 obtain⟨xs,n,_,_,Sv,aT,hf⟩:=DataW.trod_struct ht h;refine⟨Sv,n,fun i f L hi hL=> ?_⟩
 have h1:=hf i f hi;rw[hL] at h1;have aC:i<xs.length:=by rw[aT];exact(Array.getElem?_eq_some_iff.1 hi).1
 exact⟨_,h1.trans (List.getElem?_eq_getElem aC)⟩
theorem IV {t e:TypeId}{v:Value}{fuel:Nat}{x:DataW H×List MemPlace}(ht:P.underlying t=some (.slice e))(he:P.underlying e=some (.int .i64))(hc:P.cellsOf e=1)(hf:DataW.trod enc P w dJ spare held fuel t [v]=some x) :
 ∃(p:Option Addr) (c:Nat) (zs:List Int),v=.slice p zs.length c/\(p=none->zs=[])/\(zs.length:Int)<=9223372036854775807/\cX w p zs:=by
 rcases open_ints ht he hc hf with ⟨hcs,_⟩ | ⟨x,mS,Dr,zs,hcs,_,hl,hm,hz,_,hcell,-⟩
 ·simp only[List.cons.injEq,and_true] at hcs
  subst hcs;exact⟨none,0,[],rfl,fun _=>rfl,by simp,.inl rfl⟩
 ·simp only[List.cons.injEq,and_true] at hcs
  subst hcs;have hlz:mS<=zs.length:=by rw[hz];split <;>omega
  have aT:(zs.take mS).length=mS:=by simp;omega
  refine⟨some x,Dr,zs.take mS,by rw[aT],(fun e=>by cases e),(by rw[aT];unfold maxLen at hm;omega),?_⟩
  by_cases h0:mS=0
  ·left;simp[h0]
  ·right
   obtain⟨b,o,sp⟩:=x;have hs:sp=none:=by simpa[Addr.add] using World.cell?_spot (hcell 0 (by omega))
   subst hs;refine⟨b,o,rfl,fun j hj=> ?_⟩
   rw[aT] at hj;have:=hcell j (by omega)
   rw[add_plain] at this;rw[this];simp[List.getD,hj]
theorem zo {t e:TypeId}{f0 f1:Field}{v:Value}{fuel:Nat}{x:DataW H×List MemPlace}(ht:P.underlying t=some (.slice e))(he:P.underlying e=some (.struct #[f0,f1]))
 (ce:P.cellsOf e=2) (o0:f0.offset=0) (o1:f1.offset=1) (c0:P.cellsOf f0.type=1) (c1:P.cellsOf f1.type=1) (u0:P.underlying f0.type=some (.int .i64)) (u1:P.underlying f1.type=some (.int .i64))
 (hf:DataW.trod enc P w dJ spare held fuel t [v]=some x) :
 ∃(p:Option Addr) (c:Nat) (l:List (Int×Int)),v=.slice p l.length c/\(l.length:Int)<=9223372036854775807/\ak w p l:=by
 rcases Deep.open_slice_pairs ht he ce o0 o1 c0 c1 hf with ⟨h0,_⟩ | ⟨a,mS,Dr,m,n,V0,V1,D0,D1,P0,P1,h0,_,hlc,hcm,hm,_,hx⟩
 ·simp only[List.cons.injEq,and_true] at h0
  subst h0;exact⟨none,0,[],rfl,by simp,.inl rfl⟩
 ·simp only[List.cons.injEq,and_true] at h0
  subst h0;have MN:mS<=m:=by rw[hm];split <;>omega
  have key:∀i,i<mS->∃x y,V0 i=.int .i64 x/\V1 i=.int .i64 y:=by
   intro i hi;obtain⟨_,_,g2,g3⟩:=hx i (by omega)
   obtain⟨x,e0,_,_⟩:=DataW.trod_int u0 g2;obtain⟨y,e1,_,_⟩:=DataW.trod_int u1 g3;simp only[List.cons.injEq,and_true] at e0 e1;exact⟨x,y,e0,e1⟩
  refine⟨some a,Dr,(List.range mS).map fun i=>(intOf (V0 i),intOf (V1 i)),by simp,(by simp;unfold maxLen at hcm;omega),?_⟩
  by_cases hl:mS=0
  ·left;simp[hl]
  ·right
   obtain⟨b,o,sp⟩:=a;have hs:=(hx 0 (by omega)).1
   have hsp:sp=none:=by simpa[Addr.add] using World.cell?_spot hs
   subst hsp;refine⟨b,o,rfl,fun i hi=> ?_⟩
   simp only[List.length_map,List.length_range] at hi;obtain⟨g0,g1,_,_⟩:=hx i (by omega)
   obtain⟨x,y,e0,e1⟩:=key i hi;rw[add_plain] at g0 g1;rw[e0] at g0;rw[e1] at g1;have ez:((List.range mS).map fun i=>(intOf (V0 i),intOf (V1 i))).getD i (0,0)=(x,y):=by
    simp[List.getD,hi,e0,e1,intOf]
   rw[ez];exact⟨g0,g1⟩
end
theorem oO {Q:Nat->Rw->Prop}:∀(n:Nat),(∀i,i<n->∃r,Q i r)->∃l:List Rw,l.length=n/\∀i,i<n->Q i (l.getD i aq)
 | 0,_=>⟨[],rfl,fun i hi=>absurd hi (Nat.not_lt_zero i)⟩
 | n+1,h=>by
   obtain⟨l,hl,hq⟩:=oO n fun i hi=>h i (by omega)
   obtain⟨r,hr⟩:=h n (by omega)
   refine⟨l++[r],by simp[hl],fun i hi=> ?_⟩
   by_cases e:i<n
   ·have:(l++[r]).getD i aq=l.getD i aq:=by simp[List.getD,List.getElem?_append_left (show i<l.length by omega)]
    rw[this];exact hq i e
   ·obtain rfl:i=n:=by omega
    have:(l++[r]).getD i aq=r:=by simp[List.getD,<-hl]
    rw[this];exact hr
section
variable {H:Type}{enc:TypeId×Value->H}{w:World}{dJ:Nat}{spare:Nat->Bool}{held:Bool}
theorem fA:prog.cellsOf 3=1:=by kernel_rfl
theorem Ds:prog.cellsOf 25=1:=by kernel_rfl
theorem Dt:prog.cellsOf 26=1:=by kernel_rfl
theorem wN:prog.cellsOf 78=1:=by kernel_rfl
theorem zq:prog.cellsOf 28=2:=by kernel_rfl
theorem Du:prog.cellsOf 80=4:=by kernel_rfl
end
end Zx
end Go.Proofs.YtbgdlokegibkmaaGreat
