/-
  A part of the proof of VisitPlays.
-/
import Derived.Lib.SlMapFilter
import Derived.Test.YtbgdlokegibkmaaGreatMpAe
set_option maxRecDepth 100000
set_option maxHeartbeats 1000000
namespace Go.Proofs.YtbgdlokegibkmaaGreat
open Tryz
namespace Zw
open Go.RowKit Go.Maps Go.WideShapes
def FQ (x:Lz):DataW Unit:=.agg [.lit (.int .i64 x.key),.lit (.int .i64 x.gen),.lit (.int .i64 x.aK),.lit (.int .i64 x.spent),.lit (.int .i64 x.cJ)]
theorem IC {x y:Lz}(h:FQ x=FQ y):x=y:=by
 cases x;cases y;simp[FQ] at h;obtain⟨rfl,rfl,rfl,rfl,rfl⟩:=h;rfl
def rdz:Value->Option (DataW Unit×List MemPlace)
 | .agg cs=>match cs.toList with
   | [.int .i64 a,.int .i64 b,.int .i64 c,.int .i64 d,.int .i64 e]=>some (FQ ⟨a,b,c,d,e⟩,[])
   | _=>none
 | _=>none
theorem q7 (x:Lz):rdz (val x)=some (FQ x,[]):=rfl
theorem AD {v:Value}{y:DataW Unit×List MemPlace}(h:rdz v=some y):∃x,v=val x/\y=(FQ x,[]):=by
 unfold rdz at h;split at h
 ·rename_i cs
  split at h
  ·rename_i a b c d e hc
   refine⟨⟨a,b,c,d,e⟩,?_,(Option.some.inj h).symm⟩;have:cs= #[.int .i64 a,.int .i64 b,.int .i64 c,.int .i64 d,.int .i64 e]:=by
    apply Array.toList_inj.1;rw[hc]
   rw[this];rfl
  ·cases h
 ·cases h
theorem ID {v:Value}{x:Lz}{ps:List MemPlace}(h:rdz v=some (FQ x,ps)):v=val x:=by
 obtain⟨y,rfl,e⟩:=AD h;rw[IC (congrArg Prod.fst e)]
def kl (k:Int):Lit:=.int .i64 k
theorem FR (k:Int):WideAt.IsKeyLit (kl k):=by simp[kl,WideAt.IsKeyLit]
theorem iW (a b:Int):(kl a).sameKey (kl b)=(a==b):=by
 simp[kl,Lit.sameKey];rfl
def q8 (x:Lz):Lit×DataW Unit:=(kl x.key,FQ x)
def Is (D:DataW Unit)(l:List Lz):Prop:=∃es,D=.map es/\es.Perm (l.map q8)
def cI (l:List Lz):Prop:=l.Pairwise fun a b=>a.key<b.key
def found (l:List Lz)(k:Int):Lz:=if 0<=au l k then jl l k else z
theorem T8:Is (.map []) []:=⟨[],rfl,.nil⟩
theorem fZ {l:List Lz}(h:cI l):(l.map q8).Pairwise fun p q=>p.1≠q.1 :=
 List.pairwise_map.2 (h.imp fun {a b} aC e=>by simp[q8,kl] at e;omega)
theorem Is.fZ {l:List Lz}{es:List (Lit×DataW Unit)}(hp:es.Perm (l.map q8))(h:cI l):es.Pairwise fun p q=>p.1≠q.1 :=
 (hp.pairwise_iff (fun {_ _} hne=>Ne.symm hne)).2 (Zw.fZ h)
theorem AE {l:List Lz}(k:Int):(l.map q8).any (fun p=>p.1.sameKey (kl k))=decide (0<=au l k):=by
 rw[List.any_map];by_cases h:0<=au l k
 ·obtain ⟨_,hk,hm⟩:=cM h
  rw[decide_eq_true h];exact List.any_eq_true.2 ⟨_,hm,by simp[q8,iW,hk]⟩
 ·rw [decide_eq_false h]
  refine List.any_eq_false.2 fun x hx=> ?_
  have:=fJ (l:=l) (k:=k) (by omega) x hx
  simp[q8,iW,this]
theorem Is.has {D:DataW Unit}{l:List Lz}(h:Is D l)(k:Int):Maps.has D (kl k)=decide (0<=au l k):=by
 obtain⟨es,rfl,hp⟩:=h;rw[Maps.has_eq,hp.any_eq,AE]
theorem Is.at {D:DataW Unit}{l:List Lz}(h:Is D l)(hr:cI l)(k:Int):D.atKey (kl k) (FQ z)=FQ (found l k):=by
 have hh:=h.has k;obtain⟨es,rfl,hp⟩:=h;unfold found;by_cases hpl:0<=au l k
 ·rw [if_pos hpl]
  obtain⟨_,hk,hm⟩:=cM hpl;refine WideAt.atKey_mem _ (FR k) (Is.fZ hp hr) (hp.mem_iff.2 (List.mem_map.2 ⟨_,hm,?_⟩));simp[q8,hk]
 ·rw [if_neg hpl]
  exact Maps.atKey_of_not_has (by rw[hh,decide_eq_false hpl]) _
theorem Is.size {D:DataW Unit}{l:List Lz}(h:Is D l):Maps.size D=l.length:=by
 obtain⟨es,rfl,hp⟩:=h;rw[Maps.size_eq,hp.length_eq,List.length_map]
theorem C9 (x:Lz):∀l:List Lz,(ins x l).Perm (x :: l)
 | []=>.refl _
 | y :: l=>by
   unfold ins;split
   ·exact .refl _
   ·exact ((C9 x l).cons y).trans (.swap x y l)
theorem q9 {l:List Lz}(k:Int)(p:Lz->Bool)(hp:∀x,p x= !(x.key==k)):(l.map q8).filter (fun e=> !e.1.sameKey (kl k))=(l.filter p).map q8:=by
 rw[List.filter_map]
 congr 1
 refine List.filter_congr fun x _=> ?_
 simp[q8,iW,hp]
theorem rh {k:Int}:∀{l:List Lz}(j:Nat),cI l->(∀hj:j<l.length,l[j].key=k)->j<l.length->l.filter (fun x=> !(x.key==k))=l.eraseIdx j
 | [],_,_,_,hj=>by simp at hj
 | x :: l,0,h,hk,_=>by
   have hx:x.key=k:=by simpa using hk
   have h':=(List.pairwise_cons.1 h).1;rw[List.filter_cons_of_neg (by simp[hx])]
   exact List.filter_eq_self.2 fun y hy => by have:=h' y hy;have:y.key≠k:=by omega
                                              simp[this]
 | x :: l,j+1,h,hk,hj=>by
   have h':=List.pairwise_cons.1 h;have mG:j<l.length:=by simpa using hj
   have Pr:l[j].key=k:=hk hj;have hx:x.key<k:=by rw[<-Pr];exact h'.1 _ (List.getElem_mem mG)
   have hne:(x.key==k)=false:=by simp;omega
   rw[List.filter_cons_of_pos (by simp[hne]),List.eraseIdx_cons_succ]
   congr 1
   exact rh j h'.2 (fun _=>Pr) mG
theorem IE {l:List Lz}(h:cI l)(k:Int):l.filter (fun x=> !(x.key==k))=if au l k<0 then l else l.eraseIdx (au l k).toNat:=by
 split
 ·rename_i hn
  exact List.filter_eq_self.2 fun y hy=>by have:=fJ hn y hy;simp[this]
 ·rename_i hn
  obtain⟨hj,hk,hm⟩:=cM (l:=l) (k:=k) (by omega)
  have hx:jl l k=l[(au l k).toNat]:=by unfold jl;simp[List.getD,hj]
  exact rh _ h (fun _=>by rw[<-hx];exact hk) hj
theorem Is.del {D:DataW Unit}{l:List Lz}(h:Is D l)(hr:cI l)(k:Int):Is (D.del (kl k)) (if au l k<0 then l else l.eraseIdx (au l k).toNat):=by
 obtain⟨es,rfl,hp⟩:=h;refine⟨_,DataW.del_eq _ _,?_⟩;rw[<-IE hr,<-q9 k _ (fun _=>rfl)]
 exact hp.filter _
theorem Is.put {D:DataW Unit}{l:List Lz}(h:Is D l){x:Lz}(hn:au l x.key<0):Is (D.put (kl x.key) (FQ x)) (ins x l):=by
 obtain⟨es,rfl,hp⟩:=h;refine⟨_,DataW.put_eq _ _ _,?_⟩;unfold ChangeMaps.putKey;refine(insert_perm _ _).trans (List.Perm.trans ?_ ((C9 x l).map q8).symm);have:es.filter (ChangeMaps.notKey (kl x.key))=es:=List.filter_eq_self.2 fun p hp'=>by
  obtain⟨y,hy,rfl⟩:=List.mem_map.1 (hp.mem_iff.1 hp');have:=fJ hn y hy;simp[ChangeMaps.notKey,q8,iW,this]
 rw[this];exact hp.cons _
theorem Da {α:Type}(y:α):∀(l:List α)(j:Nat),j<l.length->(l.set j y).Perm (y :: l.eraseIdx j)
 | [],_,h=>by simp at h
 | x :: l,0,_=>by simp
 | x :: l,j+1,h=>by
   simp only[List.set_cons_succ,List.eraseIdx_cons_succ];exact((Da y l j (by simpa using h)).cons x).trans (.swap y x _)
theorem Is.more {D:DataW Unit}{l:List Lz}(h:Is D l)(hr:cI l){y:Lz}(hp:0<=au l y.key):Is (D.put (kl y.key) (FQ y)) (l.set (au l y.key).toNat y):=by
 obtain⟨hj,_,_⟩:=cM hp;obtain⟨es,rfl,hpm⟩:=h;refine⟨_,DataW.put_eq _ _ _,?_⟩;unfold ChangeMaps.putKey;refine(insert_perm _ _).trans (List.Perm.trans ?_ ((Da y l _ hj).map q8).symm);have hg:=IE hr y.key;rw[if_neg (by omega)] at hg
 rw[List.map_cons,<-hg,<-q9 y.key _ (fun _=>rfl)]
 exact(hpm.filter _).cons _
theorem Is.drop {D:DataW Unit}{l:List Lz}(h:Is D l)(pd:Lit->DataW Unit->Bool)(p:Lz->Bool)(hp:∀x,pd (kl x.key) (FQ x)=p x):Is (Lib.deleteFuncD pd D) (l.filter fun x=> !p x):=by
 obtain⟨es,rfl,hpm⟩:=h;refine⟨_,rfl,(hpm.filter _).trans ?_⟩;rw[List.filter_map];refine .of_eq ?_
 congr 1
 exact List.filter_congr fun x _=>by simp[q8,hp]
open Go.RowKit Go.Maps
open Zq (ae aj ai)
theorem dR:Keyed prog 3:=int_keyed underlying3
theorem iO {k:Int}(h:bC k):keyOf prog 3 (.int .i64 k)=some (kl k):=keyOf_int_mk underlying3 (WalkArith.wf_i64 h)
theorem kd (w:World):(zeroValue 135).run prog w=.ok (val z) w:=by kernel_rfl
def Mw (B:Nat)(w:World)(m:Option Nat)(l:List Lz):Prop :=
 (m=none/\l=[])∨∃b D,m=some b/\B<=b/\w.ownsMap prog 3 rdz b l.length D/\Is D l
theorem sX {w:World}{b n:Nat}{D:DataW Unit}(h:w.ownsMap prog 3 rdz b n D):w.ownsMap prog 3 rdz b (Maps.size D) D:=by
 obtain⟨es,clock,hb,F,hs,rfl⟩:=h;exact⟨es,clock,hb,F,by simp[Maps.size,length_sorted],rfl⟩
theorem Mw.of {B:Nat}{w:World}{b n:Nat}{D:DataW Unit}{l:List Lz}(hB:B<=b)(h:w.ownsMap prog 3 rdz b n D)(hi:Is D l):Mw B w (some b) l :=
 .inr ⟨b,D,rfl,hB,by rw[<-hi.size];exact sX h,hi⟩
theorem Mw.below {B:Nat}{w w':World}{m:Option Nat}{l:List Lz}(h:Mw B w m l)(hb:Below w.heap.size w w'):Mw B w' m l:=by
 rcases h with h | ⟨b,D,rfl,hB,ho,hi⟩
 ·exact .inl h
 ·have aC:=ho.lt
  obtain⟨es,clock,hh,rest⟩:=ho;exact .inr ⟨b,D,rfl,hB,⟨es,clock,(hb.block b aC).trans hh,rest⟩,hi⟩
theorem Mw.sY {B:Nat}{w:World}{b:Nat}{l:List Lz}(h:Mw B w (some b) l):∃es clock,w.heap[b]? =some (.map es clock):=by
 rcases h with ⟨h,-⟩ | ⟨b,D,e,hB,ho,hi⟩
 ·cases h
 ·cases e
  obtain⟨es,clock,hb,-⟩:=ho;exact⟨es,clock,hb⟩
theorem Mw.gZ {B:Nat}{w:World}{m:Option Nat}{l:List Lz}(h:Mw B w m l)(hr:cI l){k:Int}(hk:bC k) :
 (Instr.lookup 192 (.map m) (.int .i64 k) true).run prog w=.ok (.tuple #[val (found l k),.bool (decide (0<=au l k))]) w:=by
 rcases h with ⟨rfl,rfl⟩ | ⟨b,D,rfl,hB,ho,hi⟩
 ·rw [Maps.look_nil true dR underlying192 (kd w) (iO hk)]
  rfl
 ·obtain ⟨v,ps,hrun,hv⟩:=ho.look_ok dR underlying192 (kd w) (q7 z) (iO hk)
  rw[hi.at hr k] at hv;obtain rfl:=ID hv;rw[hrun,hi.has k]
theorem Mw.get {B:Nat}{w:World}{m:Option Nat}{l:List Lz}(h:Mw B w m l)(hr:cI l){k:Int}(hk:bC k) :
 (Instr.lookup 192 (.map m) (.int .i64 k) false).run prog w=.ok (val (found l k)) w:=by
 rcases h with ⟨rfl,rfl⟩ | ⟨b,D,rfl,hB,ho,hi⟩
 ·rw [Maps.look_nil false dR underlying192 (kd w) (iO hk)]
  rfl
 ·obtain ⟨v,ps,hrun,hv⟩:=ho.lookup dR underlying192 (kd w) (q7 z) (iO hk)
  rw[hi.at hr k] at hv;obtain rfl:=ID hv;exact hrun
theorem Mw.len {B:Nat}{w:World}{m:Option Nat}{l:List Lz}(h:Mw B w m l)(ty:TypeId):(Builtin.len_ #[192] ty #[.map m]).run prog w=.ok (.int .i64 l.length) w:=by
 rcases h with ⟨rfl,rfl⟩ | ⟨b,D,rfl,hB,ho,hi⟩
 ·exact Maps.len_nil underlying192 ty
 ·rw [ho.len underlying192 ty,hi.size]
def dt (l:List Lz)(k:Int):List Lz:=if au l k<0 then l else l.eraseIdx (au l k).toNat
theorem pU (w:World)(r:Option Nat):w.grownBy w r:=⟨rfl,rfl,rfl,Nat.le_refl _,fun _ _ _=>rfl⟩
theorem Mw.cut {B:Nat}{w:World}{m:Option Nat}{l:List Lz}(h:Mw B w m l)(hr:cI l){k:Int}(hk:bC k)(ty:TypeId) :
 ∃w',(Builtin.delete_ #[192,3] ty #[.map m,.int .i64 k]).run prog w=.ok (.tuple #[]) w'/\Mw B w' m (dt l k)/\w.grownBy w' m:=by
 rcases h with ⟨rfl,rfl⟩ | ⟨b,D,rfl,hB,ho,hi⟩
 ·exact ⟨w,Maps.drop_nil dR underlying192 (iO hk) ty,.inl ⟨rfl,rfl⟩,pU _ _⟩
 ·obtain ⟨w',hrun,xZ,ht⟩:=ho.drop dR underlying192 (iO hk) ty
  exact⟨w',hrun,Mw.of hB xZ (hi.del hr k),ht.grown⟩
theorem rj {w:World}{ops:Array Oper}{rest:List Oper}{o:Oper}{a:Act}{Q:Exit->Act->World->Prop}(hg:o.guard=none)(m x:Operand)
 (bP:o.op=Op.call { callee:=Callee.builtin Builtin.delete,args:= #[m,x],argTypes:= #[192,3] })
 {B:Nat} {mp:Option Nat} {l:List Lz} (hm:a.eval m=.map mp) (h:Mw B w mp l) (hr:cI l) {k:Int} (hk:bC k) (hx:a.eval x=.int .i64 k)
 (hK:∀w',Mw B w' mp (dt l k)->w.grownBy w' mp->wpList prog ops Q rest (a.put o.dst (.tuple #[])) w'):wpList prog ops Q (o :: rest) a w:=by
 refine wpList_plain hg fun K' hK'=> ?_
 obtain⟨w',hrun,r1,r2⟩:=h.cut hr hk o.type;unfold Oper.wp;simp[execOp,bP,resolve,invoke,builtin,hm,hx,hrun,Result.andThen];exact hK' _ _ (hK w' r1 r2)
theorem Mw.put {B b:Nat}{w:World}{l:List Lz}(h:Mw B w (some b) l)(hr:cI l)(hn:l.length<maxLen)(y:Lz)(hk:bC y.key) :
 ∃w',(Instr.mapUpdate 192 (.map (some b)) (.int .i64 y.key) (val y)).run prog w=.ok () w'/\Mw B w' (some b) (if au l y.key<0 then ins y l else l.set (au l y.key).toNat y)/\w.grownBy w' (some b):=by
 rcases h with ⟨h,-⟩ | ⟨b',D,e,hB,ho,hi⟩
 ·cases h
 ·cases e
  obtain⟨w',hrun,r1,r2⟩:=ho.update dR underlying192 hn (iO hk) (q7 y);refine⟨w',hrun,Mw.of hB r1 ?_,r2⟩;split
  ·rename_i h0
   exact hi.put h0
  ·rename_i h0
   exact hi.more hr (by omega)
def Pm:Pw:=fun B w q l=>B<=q/\∃m,w.heap[q]? =some (.cells #[.map m] 194 (0,0))/\Mw B w m l
section
variable {B q:Nat}{w w':World}{l:List Lz}
theorem Pm.lt (h:Pm B w q l):q<w.heap.size:=by
 obtain⟨_,m,h,_⟩:=h;exact ae h
theorem Pm.below (h:Pm B w q l)(hb:Below w.heap.size w w'):Pm B w' q l:=by
 obtain⟨h0,m,h1,h2⟩:=h;exact⟨h0,m,(hb.block q (ae h1)).trans h1,h2.below hb⟩
theorem Pm.cell (h:Pm B w q l):∃m,w.cell? ⟨q,0,none⟩=some (.map m)/\w.frozen? ⟨q,0,none⟩=false/\Mw B w m l:=by
 obtain⟨_,m,h1,h2⟩:=h;exact⟨m,by rw[cell_of_row w q 0 _ _ (0,0) h1];rfl,aj h1,h2⟩
theorem Pm.same (h:Pm B w q l)(hB:B<=w.heap.size)(hb:Below w.heap.size w w'):eA Pm B w q l w' :=
 ⟨h.below hb,⟨hb.size,fun g _ _ _ e _=>(hb.block g (ae e)).trans e⟩,hb.mono hB⟩
theorem Pm.FT {u v:World}{m:Option Nat}{l':List Lz}(h:Pm B w q l)(hB:B<=w.heap.size)(hc:w.cell? ⟨q,0,none⟩=some (.map m))(hu:Below w.heap.size w u)(hm:Mw B w m l)(hv:u.grownBy v m)(hl:Mw B v m l')(hw:Below v.heap.size v w'):eA Pm B w q l' w':=by
 obtain⟨h0,m',h1,h2⟩:=h;obtain rfl:m'=m:=by
  rw[cell_of_row w q 0 _ _ (0,0) h1] at hc;simpa using hc
 have hq:q<w.heap.size:=ae h1;have bM:∀(g:Nat) (cs:Array Value) (t:TypeId) (zz:Nat×Nat),w.heap[g]? =some (Obj.cells cs t zz)->w'.heap[g]? =some (Obj.cells cs t zz):=by
  intro g cs t zz e;have hg:=ae e;have e1:=(hu.block g hg).trans e;have EH:g<u.heap.size:=Nat.lt_of_lt_of_le hg hu.size;have e2:=(hv.block g EH (fun ee=>by
   rcases hm with ⟨rfl,-⟩ | ⟨b,D,rfl,T9,⟨es,clock,hb,-⟩,-⟩
   ·cases ee
   ·cases ee
    rw[hb] at e;cases e)).trans e1
  exact(hw.block g (Nat.lt_of_lt_of_le EH hv.size)).trans e2
 refine⟨⟨h0,_,bM _ _ _ _ h1,hl.below hw⟩,⟨Nat.le_trans hu.size (Nat.le_trans hv.size hw.size),fun g cs t zz e _=>bM g cs t zz e⟩,?_⟩
 refine(((hu.mono hB).grown hv (Nat.le_trans hB hu.size) ?_).trans (hw.mono (Nat.le_trans hB (Nat.le_trans hu.size hv.size))));intro k e;rcases hm with ⟨rfl,-⟩ | ⟨b,D,rfl,T9,-⟩
 ·cases e
 ·cases e
  exact T9
end
theorem AF (w:World):Calls prog 77 #[] w fun e w'=>∃q,e=.returned (.pointer (some ⟨q,0,none⟩))/\Pm w.heap.size w' q []/\Below w.heap.size w w':=by
 go_enter func77,ntmps77
 go_wp2;go_ret;exact⟨_,rfl,⟨Nat.le_refl _,none,(MapKept.heap_alloc w _).1,.inl ⟨rfl,rfl⟩⟩,(Below.refl _ w).alloc (Nat.le_refl _) _⟩
theorem cQ (w:World)(o:Obj):Below w.heap.size w (w.alloc o):=(Below.refl _ w).alloc (Nat.le_refl _) o
theorem abH (w:World)(o o':Obj):Below w.heap.size w ((w.alloc o).alloc o'):=(cQ w o).alloc (cQ w o).size o'
theorem QV (q:Nat)(m:Option Nat)(k:Int)(x:Lz)(h:Bool)(w:World)(hc:w.cell? ⟨q,0,none⟩=some (.map m))(hq:q<w.heap.size)
 (hl:∀o,(Instr.lookup 192 (.map m) (.int .i64 k) true).run prog (w.alloc o)=.ok (.tuple #[val x,.bool h]) (w.alloc o)) :
 Calls prog 183 #[.pointer (some ⟨q,0,none⟩),.int .i64 k] w fun e w'=>e=.returned (.tuple #[val x,.bool h])/\Below w.heap.size w w':=by
 simp only[val] at hl ⊢;go_enter func183,ntmps183
 go_wp2;refine bodyPost_ret (v:=.tuple #[.agg #[.int .i64 x.key,.int .i64 x.gen,.int .i64 x.aK,.int .i64 x.spent,.int .i64 x.cJ],.bool h]) (by simp[results,results183,go_sem]) rfl ⟨rfl,?_⟩
 exact abH _ _ _
theorem iX {B q:Nat}{w:World}{l:List Lz}(h:Pm B w q l)(hr:cI l){k:Int}(hk:bC k) :
 Calls prog 183 #[.pointer (some ⟨q,0,none⟩),.int .i64 k] w fun e w'=>e=.returned (.tuple #[val (found l k),.bool (decide (0<=au l k))])/\Below w.heap.size w w':=by
 obtain⟨m,hc,_,hm⟩:=h.cell;exact QV q m k _ _ w hc h.lt fun o=>(hm.below (cQ w o)).gZ hr hk
theorem KG (v:Value)(k now:Int)(x:Lz)(h:Bool)(w:World)(hs: -9223372036854775808<=x.aK-x.spent/\x.aK-x.spent<=9223372036854775807)
 (ho:Calls prog 183 #[v,.int .i64 k] w fun e w'=>e=.returned (.tuple #[val x,.bool h])/\Below w.heap.size w w') :
 Calls prog 139 #[v,.int .i64 k,.int .i64 now] w fun e w'=>e=.returned (.int .i64 (if x.cJ<=now then 0 else x.aK-x.spent))/\Below w.heap.size w w':=by
 obtain⟨key,gen,aK,spent,cJ⟩:=x;simp only[val] at ho hs ⊢;have hd:IntKind.i64.wrap (aK-spent)=aK-spent:=IntWalk.i64_in _ hs;clear hs;by_cases hn:cJ<=now
 ·rw [if_pos hn]
  go_enter func139,ntmps139
  go_wp2_with (go_at_call 183;refine ho.mono ?_;clear ho;rintro e u ⟨rfl,hb⟩)
  go_ret;exact⟨rfl,hb.alloc hb.size _⟩
 ·rw [if_neg hn]
  go_enter func139,ntmps139
  go_wp2_with (go_at_call 183;refine ho.mono ?_;clear ho;rintro e u ⟨rfl,hb⟩)
  go_ret;exact⟨by simp[],hb.alloc hb.size _⟩
theorem FU {l:List Lz}(h:bu l)(k:Int):0<=(found l k).spent/\(found l k).spent<=(found l k).aK/\kV (found l k):=by
 unfold found;split
 ·rename_i hp
  exact h.mO _ (cM hp).2.2
 ·refine ⟨by decide,by decide,?_⟩
  unfold kV bC z;simp
theorem FV (l:List Lz)(k now:Int):(if (found l k).cJ<=now then 0 else (found l k).aK-(found l k).spent)=left l k now:=by
 unfold left found;by_cases hp:0<=au l k
 ·rw [if_pos hp]
  by_cases hn:(jl l k).cJ<=now
  ·rw [if_pos hn,if_pos (.inr hn)]
  ·rw [if_neg hn,if_neg (by omega)]
 ·rw [if_neg hp,if_pos (Or.inl (by omega):au l k<0∨(jl l k).cJ<=now)]
  split <;>rfl
theorem KH {B q:Nat}{w:World}{l:List Lz}(h:Pm B w q l)(hg:bu l){k now:Int}(hk:bC k) :
 Calls prog 139 #[.pointer (some ⟨q,0,none⟩),.int .i64 k,.int .i64 now] w fun e w'=>e=.returned (.int .i64 (left l k now))/\Below w.heap.size w w':=by
 have hf:=FU hg k;rw[<-FV];exact KG _ k now _ _ w (by unfold kV bC at hf;omega) (iX h hg.en hk)
theorem oL (x:Lz)(w:World):Calls prog 229 #[val x] w fun e w'=>e=.returned (.bool (!decide (cY x)))/\Below w.heap.size w w':=by
 obtain⟨key,gen,aK,spent,cJ⟩:=x;simp only[val,cY];rcases Int.lt_or_le gen 1 with h1 | h1
 ·have e:decide (gen<1∨aK<1∨spent≠0∨cJ<0)=true:=decide_eq_true (.inl h1)
  rw[e];clear e;go_enter func229,ntmps229
  go_wp2;go_ret;exact⟨rfl,cQ _ _⟩
 rcases Int.lt_or_le aK 1 with h2 | h2
 ·have e:decide (gen<1∨aK<1∨spent≠0∨cJ<0)=true:=decide_eq_true (.inr (.inl h2))
  rw[e];clear e;go_enter func229,ntmps229
  go_wp2;go_ret;exact⟨rfl,cQ _ _⟩
 by_cases h3:spent=0
 ·rcases Int.lt_or_le cJ 0 with h4 | h4
  ·have e:decide (gen<1∨aK<1∨spent≠0∨cJ<0)=true:=decide_eq_true (.inr (.inr (.inr h4)))
   rw[e];clear e;go_enter func229,ntmps229
   go_wp2;go_ret;exact⟨by simp <;>omega,cQ _ _⟩
  ·have e:decide (gen<1∨aK<1∨spent≠0∨cJ<0)=false:=decide_eq_false (by omega)
   rw[e];clear e;go_enter func229,ntmps229
   go_wp2;go_ret;exact⟨by simp <;>omega,cQ _ _⟩
 ·have e:decide (gen<1∨aK<1∨spent≠0∨cJ<0)=true:=decide_eq_true (.inr (.inr (.inl h3)))
  rw[e];clear e;go_enter func229,ntmps229
  go_wp2;go_ret;exact⟨rfl,cQ _ _⟩
theorem Pm.first {B q:Nat}{w u v:World}{l l':List Lz}(h:Pm B w q l)(hB:B<=w.heap.size)(hu:Below w.heap.size w u)(hv:((u.setCell ⟨q,0,none⟩ (.map (some u.heap.size))).alloc (.map #[] 0)).grownBy v (some u.heap.size))(hl:Mw B v (some u.heap.size) l'):eA Pm B w q l' v:=by
 obtain⟨h0,m,h1,h2⟩:=h;have hq:q<w.heap.size:=ae h1;have PK:q<u.heap.size:=Nat.lt_of_lt_of_le hq hu.size;have es:(u.setCell ⟨q,0,none⟩ (.map (some u.heap.size))).heap.size=u.heap.size:=by simp
 have bM:∀g:Nat,g<u.heap.size->v.heap[g]? =(u.setCell ⟨q,0,none⟩ (.map (some u.heap.size))).heap[g]? :=by
  intro g hg;refine(hv.block g (by simp;omega) (fun e=>by cases e;omega)).trans ?_
  exact(cQ _ _).block g (by rw[es];exact hg)
 have wy:∀g:Nat,g<w.heap.size->g≠q->v.heap[g]? =w.heap[g]? :=by
  intro g hg hne;refine(bM g (Nat.lt_of_lt_of_le hg hu.size)).trans ?_;exact(Below.heap_setCell _ _ _ _ hne).trans (hu.block g hg)
 have hqv:v.heap[q]? =some (.cells #[.map (some u.heap.size)] 194 (0,0)):=by
  refine(bM q PK).trans ?_;rw[ai q 0 _ _ ((hu.block q hq).trans h1)];rfl
 refine⟨⟨h0,_,hqv,hl⟩,⟨?_,fun g cs t zz e ht=> ?_⟩,?_⟩
 ·refine Nat.le_trans hu.size (Nat.le_trans ?_ hv.size)
  simp
 ·refine (wy g (ae e) ?_).trans e
  rintro rfl;rw[h1] at e;cases e;simp at ht
 ·refine ((((hu.mono hB).setCell (p:=⟨q,0,none⟩) h0 _).alloc (by rw[es];exact Nat.le_trans hB hu.size) _).grown hv (by have:=hu.size;simp;omega) ?_)
  intro k e;cases e;exact Nat.le_trans hB hu.size
end Zw
end Go.Proofs.YtbgdlokegibkmaaGreat
