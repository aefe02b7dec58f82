/-
  A part of the proof of VisitPlays.
-/
import Derived.WalkKit
import Derived.ProofKit
import Derived.Lib.Hide
import Derived.Deep.AppendLies
import Derived.Laws.AppendOwnNone
import Derived.Test.YtbgdlokegibkmaaGreatChecked
set_option maxRecDepth 100000
set_option maxHeartbeats 4000000
namespace Go.Proofs.YtbgdlokegibkmaaGreat
open Go.RowKit
open Tryz
open Lib (hid)
namespace Zr
def mX:Int:=4611686018427387904
def uY (x lo hi:Int):Int:=if x<lo∨hi<lo then lo else if hi<x then hi else x
def dh (x:Int):Int:=if x<0 then 0 else if mX<x then mX else x
def sum:List Int->Int
 | []=>0
 | x :: r=>dh x+sum r
def add (l:List Int):Int:=if mX<sum l then mX else sum l
def sub (a b:Int):Int:=dh (dh a-dh b)
def mul (a b:Int):Int:=if mX<dh a*dh b then mX else dh a*dh b
theorem I4 (x:Int):uY x 0 4611686018427387904=dh x:=by
 unfold uY dh mX;by_cases h:x<0
 ·rw [if_pos (Or.inl h),if_pos h]
 ·rw [if_neg (by omega),if_neg h]
theorem dD (x:Int):0<=dh x:=by unfold dh mX;split <;>(try split) <;>omega
theorem dM (x:Int):dh x<=4611686018427387904:=by unfold dh mX;split <;>(try split) <;>omega
theorem dN {x:Int}(h0:0<=x)(h1:x<=4611686018427387904):dh x=x:=by
 unfold dh mX;rw[if_neg (by omega),if_neg (by omega)]
theorem zF (l:List Int):0<=sum l:=by
 induction l with
 | nil=>exact Int.le_refl _
 | cons x r ih=>have:=dD x;simp only[sum];omega
theorem pF (a b:List Int):sum (a++b)=sum a+sum b:=by
 induction a with
 | nil=>simp [sum]
 | cons x r ih=>simp only[List.cons_append,sum,ih];omega
theorem kC (a b:Int):sum [a,b]=dh a+dh b:=by simp[sum]
theorem jN (l:List Int):0<=add l:=by have:=zF l;unfold add mX;split <;>omega
theorem jm (l:List Int):add l<=4611686018427387904:=by unfold add mX;split <;>omega
theorem PO (l:List Int):dh (add l)=add l:=dN (jN l) (jm l)
end Zr
namespace Zq
abbrev St:=List Int×Bool
def VB (m x:Int):Bool:=decide (4611686018427387904<x∨m<x)
def ie (x:Int):Bool:=decide (0<=x/\x<=4611686018427387904)
def Ep (xs:List Int):List Value:=xs.map (Value.int .u8)
theorem gM (b o j:Nat):(⟨b,o,none⟩:Addr).add j=⟨b,o+j,none⟩:=by
 unfold Addr.add;split <;>simp_all
def aL (E:TypeId)(w:World)(p:Option Addr)(xs:List Int):Prop :=
 xs=[]∨∃g o cs z,p=some ⟨g,o,none⟩/\w.heap[g]? =some (.cells cs E z)/\∀j,j<xs.length->cs[o+j]? =some (.int .u8 (xs.getD j 0))
def gR (E:TypeId)(w w':World):Prop:=∀(g:Nat)(cs:Array Value)(z:Nat×Nat),w.heap[g]? =some (Obj.cells cs E z)->w'.heap[g]? =some (Obj.cells cs E z)
section
variable {w w' w'':World}{E T:TypeId}
theorem ae {g:Nat}{o:Obj}(h:w.heap[g]? =some o):g<w.heap.size:=(Array.getElem?_eq_some_iff.1 h).1
theorem gR.below (hb:Below w.heap.size w w'):gR E w w':=fun g _ _ h=>(hb.block g (ae h)).trans h
theorem gR.grown {b:Nat}{cs:Array Value}{z:Nat×Nat}(hb:w.heap[b]? =some (.cells cs T z))(hT:T≠E)(hg:w.grownBy w' (some b)):gR E w w':=by
 intro g ds y h;refine(hg.block g (ae h) ?_).trans h;intro e;simp only[Option.some.injEq] at e;subst e;rw[h] at hb;simp only[Option.some.injEq,Obj.cells.injEq] at hb;exact hT hb.2.1.symm
theorem aI {dJ size n:Nat}{e:TypeId}{v:Value}{xs:List Value}(h:w.ownsRow dJ e size v n xs)(hb:Below w.heap.size w w'):w'.ownsRow dJ e size v n xs:=by
 refine⟨h.1,?_⟩;rcases h.2 with h0 | ⟨g,cap,cur,rfl,h1,h2,h3⟩
 ·exact .inl h0
 ·exact .inr ⟨g,cap,cur,rfl,h1,(hb.block g (ae h2)).trans h2,h3⟩
theorem cO {dJ base' size n:Nat}{e:TypeId}{v:Value}{xs:List Value}(h:w.ownsRow dJ e size v n xs)(hb:base'<=dJ):w.ownsRow base' e size v n xs:=by
 refine⟨h.1,?_⟩;rcases h.2 with h0 | ⟨g,cap,cur,rfl,h1,h2⟩
 ·exact .inl h0
 ·exact .inr ⟨g,cap,cur,rfl,by omega,h2⟩
def cX (w:World)(p:Option Addr)(zs:List Int):Prop :=
 zs=[]∨∃b o,p=some ⟨b,o,none⟩/\∀j,j<zs.length->w.cell? ⟨b,o+j,none⟩=some (.int .i64 (zs.getD j 0))
theorem cX.below {p:Option Addr}{zs:List Int}(h:cX w p zs)(hb:Below w.heap.size w w'):cX w' p zs:=by
 rcases h with h | ⟨b,o,e,hc⟩
 ·exact .inl h
 ·exact .inr ⟨b,o,e,fun j hj=>(hb.cell (p:=⟨b,o+j,none⟩) (World.block_lt_of_cell? _ _ (hc j hj))).trans (hc j hj)⟩
def Rdr (T E:TypeId)(w:World)(b:Nat)(bs:List Int)(f:Bool):Prop :=
 ∃p c,w.heap[b]? =some (.cells #[.slice p bs.length c,.bool f] T (0,0))/\bs.length<=c/\c<=maxLen/\aL E w p bs
theorem aj {b o:Nat}{cs:Array Value}(h:w.heap[b]? =some (.cells cs T (0,0))):w.frozen? ⟨b,o,none⟩=false:=by
 simp[World.frozen?,h]
theorem cL (b o:Nat)(u:Value):w.grownBy (w.setCell ⟨b,o,none⟩ u) (some b) :=
 ⟨rfl,rfl,rfl,by simp[World.setCell],fun k _ hk=>Below.heap_setCell _ _ _ _ (by simpa using hk)⟩
theorem ai (b o:Nat)(cs:Array Value)(u:Value)(h:w.heap[b]? =some (.cells cs T (0,0))):(w.setCell ⟨b,o,none⟩ u).heap[b]? =some (.cells (cs.setIfInBounds o u) T (0,0)):=by
 simp[World.setCell,Array.getElem?_modify,h]
def cS (T E:TypeId)(w:World)(b:Nat)(s:St)(u:Value)(e:Ending)(w':World):Prop:=e=.returned u/\Rdr T E w' b s.1 s.2/\w.grownBy w' (some b)
end
end Zq
namespace Zx
structure Rw where
 key:Int
 ay:Int
 mark:Int
 out:List (Int×Int)
structure Tb where
 start:Int
 rows:List Rw
structure Tk where
 gen:Int
 bP:Int
 stamps:List Int
 table:Tb
instance:Inhabited Rw:=⟨⟨0,0,0,[]⟩⟩
def aq:Rw:=⟨0,0,0,[]⟩
def dC (f:Nat->Bool)(n:Nat):Bool:=(List.range n).all f
theorem dO {f:Nat->Bool}{n:Nat}(h:∀j,j<n->f j=true):dC f n=true:=by
 rw[dC,List.all_eq_true];intro j hj;exact h j (List.mem_range.1 hj)
theorem cU {f:Nat->Bool}{n k:Nat}(hk:k<n)(h:f k=false):dC f n=false:=by
 rw[dC,List.all_eq_false];exact⟨k,List.mem_range.2 hk,by rw[h];simp⟩
theorem Er (f:Nat->Bool)(n:Nat):dC f (n+1)=(dC f n&&f n):=by
 simp[dC,List.range_succ]
def cy (x lo hi:Int):Bool:=decide (lo<=x/\x<=hi)
theorem mY {x lo hi:Int}(h:cy x lo hi=true):lo<=x/\x<=hi:=by simpa[cy] using h
theorem zG {x lo hi:Int}(h:cy x lo hi=false):x<lo∨(lo<=x/\hi<x):=by
 simp[cy] at h;omega
def fI (k:Int):Bool:=decide (0<=k/\k<524288)
def di (l:List (Int×Int))(i:Nat):Bool:=cy (l.getD i (0,0)).1 0 63&&cy (l.getD i (0,0)).2 1 2147483648&&(i==0||decide ((l.getD (i-1) (0,0)).1<(l.getD i (0,0)).1))
def iY (r:Rw)(start:Int):Bool:=fI r.key&&cy r.ay 0 2147483648&&cy r.mark start 4611686018427387904&&decide (r.out.length<=64)&&dC (di r.out) r.out.length
def iZ (l:List Rw)(start:Int)(i:Nat):Bool:=iY (l.getD i aq) start&&(i==0||decide ((l.getD (i-1) aq).key<(l.getD i aq).key))
def eh (t:Tb):Bool:=cy t.start 0 4611686018427387904&&decide (t.rows.length<=16)&&dC (iZ t.rows t.start) t.rows.length
def ig (l:List Int)(n:Nat):Bool:=dC (fun i=>cy (l.getD i 0) (-1) 4611686018427387903) n
def lj (t:Tk):Bool:=cy t.gen 1 1099511627776&&cy t.bP 0 1099511627776&&cy t.stamps.length 1 64
def bn (t:Tk):Bool:=lj t&&ig t.stamps t.stamps.length&&eh t.table
def mZ (a b:List Int):Bool:=a.length==b.length&&dC (fun i=>a.getD i 0==b.getD i 0) a.length
def jO (a b:Int×Int):Bool:=a.1==b.1&&a.2==b.2
def jP (a b:List (Int×Int)):Bool:=dC (fun i=>jO (a.getD i (0,0)) (b.getD i (0,0))) a.length
def ij (a b:Rw):Bool:=a.key==b.key&&a.ay==b.ay&&a.mark==b.mark&&a.out.length==b.out.length&&jP a.out b.out
def gS (a b:Tb):Bool:=a.start==b.start&&a.rows.length==b.rows.length&&dC (fun i=>ij (a.rows.getD i aq) (b.rows.getD i aq)) a.rows.length
def rQ (a b:Tk):Bool:=a.gen==b.gen&&a.bP==b.bP&&mZ a.stamps b.stamps&&gS a.table b.table
end Zx
namespace Zv
open Zx (Rw Tb aq)
open Zr (dh add sub mul)
def spot {α:Type}(f:α->Bool):List α->Int
 | []=> -1
 | x :: l=>if f x=true then 0 else if spot f l<0 then -1 else spot f l+1
theorem eL {α:Type}(f:α->Bool)(d:α):∀(l:List α)(j:Nat),j<l.length->(∀i,i<j->f (l.getD i d)=false)->f (l.getD j d)=true->spot f l=(j:Int)
 | [],j,hj,_,_=>by simp at hj
 | x :: l,0,_,_,h=>by
   have h':f x=true:=by simpa using h
   simp[spot,h']
 | x :: l,j+1,hj,h0,h=>by
   have hx:f x=false:=by simpa using h0 0 (by omega)
   have:=eL f d l j (by simpa using hj) (fun i hi=>by simpa using h0 (i+1) (by omega)) (by simpa using h)
   rw[spot,if_neg (by simp[hx]),this,if_neg (by omega)]
   omega
theorem cP {α:Type}(f:α->Bool)(d:α):∀(l:List α),(∀i,i<l.length->f (l.getD i d)=false)->spot f l= -1
 | [],_=>rfl
 | x :: l,h=>by
   have hx:f x=false:=by simpa using h 0 (by simp)
   have:=cP f d l (fun i hi=>by simpa using h (i+1) (by simpa using hi))
   rw[spot,if_neg (by simp[hx]),this,if_pos (by omega)]
theorem bA {α:Type}(f:α->Bool)(d:α)(l:List α):(spot f l= -1/\∀i,i<l.length->f (l.getD i d)=false)∨∃j:Nat,spot f l=(j:Int)/\j<l.length/\f (l.getD j d)=true/\∀i,i<j->f (l.getD i d)=false:=by
 by_cases h:∀i,i<l.length->f (l.getD i d)=false
 ·exact .inl ⟨cP f d l h,h⟩
 ·right
  have hex:∃j,j<l.length/\f (l.getD j d)=true:=by
   refine Classical.byContradiction fun hn=>h fun i hi=> ?_
   cases hf:f (l.getD i d) with
   | false=>rfl
   | true=>exact absurd ⟨i,hi,hf⟩ hn
  have:∀n,(∃j,j<=n/\j<l.length/\f (l.getD j d)=true)->∃j,j<l.length/\f (l.getD j d)=true/\∀i,i<j->f (l.getD i d)=false:=by
   intro n
   induction n with
   | zero =>
     rintro⟨j,h0,h1,h2⟩;exact⟨j,h1,h2,fun i hi=>by omega⟩
   | succ n ih =>
     rintro⟨j,h0,h1,h2⟩;by_cases hm:∃j,j<=n/\j<l.length/\f (l.getD j d)=true
     ·exact ih hm
     ·refine ⟨j,h1,h2,fun i hi=> ?_⟩
      cases hf:f (l.getD i d) with
      | false=>rfl
      | true=>exact absurd ⟨i,by omega,by omega,hf⟩ hm
  obtain⟨j,h1,h2⟩:=hex;obtain⟨k,k1,k2,k3⟩:=this j ⟨j,Nat.le_refl _,h1,h2⟩;exact⟨k,eL f d l k k1 k3 k2,k1,k2,k3⟩
def au (l:List Rw)(key:Int):Int:=spot (fun r=>r.key==key) l
def cF (l:List (Int×Int))(node:Int):Int:=spot (fun x=>x.1==node) l
def ah (t:Tb)(key:Int):Rw:=if au t.rows key<0 then ⟨key,0,t.start,[]⟩ else t.rows.getD (au t.rows key).toNat aq
def et (t:Tb)(key:Int):Bool:=decide (0<=au t.rows key)
def mF (r:Rw):Int:=add (r.ay :: r.out.map (·.2))
def jn (r:Rw)(now R B:Int):Rw:=⟨r.key,add [r.ay,min (mul R (sub now r.mark)) (sub B (mF r))],max r.mark now,r.out⟩
def gZ (t:Tb)(key now R B:Int):Rw:=jn (ah t key) now R B
def cN (r:Rw)(s:List Rw×Bool)(x:Rw):List Rw×Bool:=((if s.2=false/\r.key<=x.key then s.1++[r] else s.1)++(if x.key=r.key then [] else [x]),s.2||decide (r.key<=x.key))
def gj (r:Rw)(l:List Rw):List Rw×Bool:=l.foldl (cN r) ([],false)
def dr (l:List Rw)(r:Rw):List Rw:=if (gj r l).2=true then (gj r l).1 else (gj r l).1++[r]
def setRow (t:Tb)(r:Rw):Tb:=⟨t.start,dr t.rows r⟩
theorem Es (r:Rw)(l:List Rw)(k:Nat)(h:k<l.length):gj r (l.take (k+1))=cN r (gj r (l.take k)) (l.getD k aq):=by
 have e:l.getD k aq=l[k]:=by simp[List.getD,h]
 rw[e,List.take_succ_eq_append_getElem h];simp only[gj,List.foldl_append,List.foldl_cons,List.foldl_nil]
def rest:Bool->Nat
 | true=>0
 | false=>1
theorem uZ (r:Rw):∀(l:List Rw)(s:List Rw×Bool),(l.foldl (cN r) s).1.length+rest (l.foldl (cN r) s).2<=s.1.length+rest s.2+l.length
 | [],s=>Nat.le_refl _
 | x :: l,(a,b)=>by
   refine Nat.le_trans (uZ r l _) ?_;simp only[cN,List.length_append,List.length_cons];cases b <;>by_cases h1:r.key<=x.key <;>by_cases h2:x.key=r.key <;>simp [h1,h2,rest] <;>omega
theorem rR (r:Rw)(l:List Rw):(gj r l).1.length+rest (gj r l).2<=l.length+1:=by
 have:(l.foldl (cN r) ([],false)).1.length+rest (l.foldl (cN r) ([],false)).2<=0+1+l.length:=uZ r l ([],false);unfold gj;omega
theorem nc (l:List Rw)(r:Rw):(dr l r).length<=l.length+1:=by
 have:=rR r l;unfold dr;split
 ·omega
 ·rename_i h
  rw[Bool.not_eq_true] at h;rw[h] at this;simp only[rest] at this;simp;omega
end Zv
namespace Zj
def has (x i:Int):Bool:=decide (0<=i/\i<64)&&x.toNat.testBit i.toNat
def only(i:Int):Int:=if 0<=i/\i<64 then ((2 ^ i.toNat:Nat):Int) else 0
def put (x i:Int):Int:=((x.toNat ||| (only i).toNat:Nat):Int)
def gN (n:Int):Bool:=decide (1<=n)&&decide (n<=64)
def all (n:Int):Int:=if gN n then ((2 ^ n.toNat-1:Nat):Int) else 0
def kt (n:Int):Int:=if n<1 then 0 else n / 2+1
theorem PR {x:Int}(h1:x<18446744073709551616){i:Nat}(h:64<=i):x.toNat.testBit i=false:=by
 apply Nat.testBit_lt_two_pow;exact Nat.lt_of_lt_of_le (by omega:x.toNat<2 ^ 64) (Nat.pow_le_pow_right (by decide) h)
end Zj
namespace Zx
open Go.RowKit Zq
def ak (w:World)(p:Option Addr)(l:List (Int×Int)):Prop :=
 l=[]∨∃b o,p=some ⟨b,o,none⟩/\∀j,j<l.length->w.cell? ⟨b,o+j*2,none⟩=some (.int .i64 (l.getD j (0,0)).1)/\w.cell? ⟨b,o+j*2+1,none⟩=some (.int .i64 (l.getD j (0,0)).2)
def dK (w:World)(b o:Nat)(r:Rw):Prop :=
 w.cell? ⟨b,o,none⟩=some (.int .i64 r.key)/\w.cell? ⟨b,o+1,none⟩=some (.int .i64 r.ay)/\w.cell? ⟨b,o+2,none⟩=some (.int .i64 r.mark) /\
  ∃p c,w.cell? ⟨b,o+3,none⟩=some (.slice p r.out.length c)/\ak w p r.out
def ar (w:World)(p:Option Addr)(l:List Rw):Prop :=
 l=[]∨∃b o,p=some ⟨b,o,none⟩/\∀j,j<l.length->dK w b (o+j*4) (l.getD j aq)
section
variable {w w':World}
theorem af {b o:Nat}{v:Value}(h:w.cell? ⟨b,o,none⟩=some v)(hb:Below w.heap.size w w'):w'.cell? ⟨b,o,none⟩=some v :=
 (hb.cell (p:=⟨b,o,none⟩) (World.block_lt_of_cell? _ _ h)).trans h
theorem ak.below {p:Option Addr}{l:List (Int×Int)}(h:ak w p l)(hb:Below w.heap.size w w'):ak w' p l:=by
 rcases h with h | ⟨b,o,e,hc⟩
 ·exact .inl h
 ·exact .inr ⟨b,o,e,fun j hj=>⟨af (hc j hj).1 hb,af (hc j hj).2 hb⟩⟩
theorem dK.below {b o:Nat}{r:Rw}(h:dK w b o r)(hb:Below w.heap.size w w'):dK w' b o r:=by
 obtain⟨h0,h1,h2,p,c,h3,h4⟩:=h;exact⟨af h0 hb,af h1 hb,af h2 hb,p,c,af h3 hb,h4.below hb⟩
theorem ar.below {p:Option Addr}{l:List Rw}(h:ar w p l)(hb:Below w.heap.size w w'):ar w' p l:=by
 rcases h with h | ⟨b,o,e,hc⟩
 ·exact .inl h
 ·exact .inr ⟨b,o,e,fun j hj=>(hc j hj).below hb⟩
end
end Zx
namespace Zw
open Zv (spot eL cP bA)
structure Lz where
 key:Int
 gen:Int
 aK:Int
 spent:Int
 cJ:Int
def z:Lz:=⟨0,0,0,0,0⟩
def bC (x:Int):Prop:= -9223372036854775808<=x/\x<=9223372036854775807
def kV (x:Lz):Prop:=bC x.key/\bC x.gen/\bC x.aK/\bC x.spent/\bC x.cJ
def au (l:List Lz)(k:Int):Int:=spot (fun x=>x.key==k) l
def jl (l:List Lz)(k:Int):Lz:=l.getD (au l k).toNat z
def cY (x:Lz):Prop:=x.gen<1∨x.aK<1∨x.spent≠0∨x.cJ<0
instance (x:Lz):Decidable (cY x):=by unfold cY;infer_instance
def ins (x:Lz):List Lz->List Lz
 | []=>[x]
 | y :: l=>if x.key<y.key then x :: y :: l else y :: ins x l
def put (l:List Lz)(x:Lz):List Lz×Int:=if cY x then (l,1) else if 0<=au l x.key then (l,5) else (ins x l,0)
def left (l:List Lz)(k now:Int):Int:=if au l k<0∨(jl l k).cJ<=now then 0 else (jl l k).aK-(jl l k).spent
def more (x:Lz)(c:Int):Lz:=⟨x.key,x.gen,x.aK,x.spent+c,x.cJ⟩
def bH (l:List Lz)(k c now:Int):List Lz×Int×Bool:=if c<1∨left l k now<c then (l,0,false) else (l.set (au l k).toNat (more (jl l k) c),(jl l k).gen,true)
def bB (l:List Lz)(k g:Int):List Lz×Int:=if au l k<0 then (l,-1) else (l.eraseIdx (au l k).toNat,if (jl l k).gen=g then (jl l k).spent else -1)
def fg (g:Int)(x:Lz):Bool:=decide (x.gen<g)
def drop (l:List Lz)(g:Int):List Lz×Int:=(l.filter fun x=> !fg g x,(l.countP (fg g):Int))
structure bu (l:List Lz):Prop where
 en:l.Pairwise fun a b=>a.key<b.key
 mO:∀x∈l,0<=x.spent/\x.spent<=x.aK/\kV x
theorem vd:bu []:=⟨.nil,fun x h=>by cases h⟩
theorem cM {l:List Lz}{k:Int}(h:0<=au l k):(au l k).toNat<l.length/\(jl l k).key=k/\jl l k∈l:=by
 unfold jl;rcases bA (fun x:Lz=>x.key==k) z l with ⟨e,-⟩ | ⟨j,e,hj,hk,-⟩
 ·unfold au at h;omega
 ·have e':(au l k).toNat=j:=by unfold au;omega
  rw[e'];refine⟨hj,by simpa using hk,?_⟩
  simp[List.getD,hj]
theorem fJ {l:List Lz}{k:Int}(h:au l k<0):∀x∈l,x.key≠k:=by
 rcases bA (fun x:Lz=>x.key==k) z l with ⟨-,e⟩ | ⟨j,e,-⟩
 ·intro x hx
  obtain⟨i,hi,rfl⟩:=List.getElem_of_mem hx;have:=e i hi;simpa[List.getD,hi] using this
 ·unfold au at h;omega
theorem zH {x y:Lz}:∀{l:List Lz},y∈ins x l->y=x∨y∈l
 | [],h=>by simpa[ins] using h
 | a :: l,h=>by
   unfold ins at h;split at h
   ·simpa using h
   ·rcases List.mem_cons.1 h with h | h
    ·exact .inr (by simp[h])
    ·rcases zH h with h | h
     ·exact .inl h
     ·exact .inr (by simp[h])
theorem Bq {x:Lz}:∀{l:List Lz},(l.Pairwise fun a b=>a.key<b.key)->(∀y∈l,y.key≠x.key)->(ins x l).Pairwise fun a b=>a.key<b.key
 | [],_,_=>by simp[ins]
 | a :: l,h,hn=>by
   have h':=List.pairwise_cons.1 h;unfold ins;split
   ·rename_i aC
    refine List.pairwise_cons.2 ⟨fun y hy=> ?_,h⟩
    rcases List.mem_cons.1 hy with rfl | hy
    ·exact aC
    ·exact Int.lt_trans aC (h'.1 y hy)
   ·rename_i aC
    have hne:=hn a (by simp)
    refine List.pairwise_cons.2 ⟨fun y hy=> ?_,Bq h'.2 fun y hy=>hn y (by simp[hy])⟩
    rcases zH hy with rfl | hy
    ·omega
    ·exact h'.1 y hy
theorem Hp (x:Lz):∀l:List Lz,(ins x l).length=l.length+1
 | []=>rfl
 | a :: l=>by
   unfold ins;split
   ·rfl
   ·simp [Hp x l]
theorem jQ {l:List Lz}(h:bu l){x:Lz}(hx:kV x):bu (put l x).1:=by
 unfold put;split
 ·exact h
 ·split
  ·exact h
  ·rename_i hw hp
   unfold cY at hw;refine⟨Bq h.en (fJ (by omega)),fun y hy=> ?_⟩
   rcases zH hy with rfl | hy
   ·exact ⟨by omega,by omega,hx⟩
   ·exact h.mO y hy
theorem Hq (l:List Lz)(x:Lz):(put l x).1.length<=l.length+1:=by
 unfold put;split
 ·simp
 ·split
  ·simp
  ·simp [Hp]
theorem od {l:List Lz}{k c now:Int}(h:¬(c<1∨left l k now<c)):0<=au l k/\now<(jl l k).cJ/\c<=(jl l k).aK-(jl l k).spent/\1<=c:=by
 unfold left at h;split at h
 ·omega
 ·omega
theorem jR {l:List Lz}(h:bu l)(k c now:Int):bu (bH l k c now).1:=by
 unfold bH;split
 ·exact h
 ·rename_i hn
  obtain⟨hp,-,h1,h2⟩:=od hn;obtain⟨hj,hk,hm⟩:=cM hp;have hg:=h.mO _ hm;have hx:jl l k=l[(au l k).toNat]:=by unfold jl;simp[List.getD,hj]
  refine⟨?_,fun y hy=> ?_⟩
  ·have hr:=h.en
   rw[List.pairwise_iff_getElem] at hr ⊢;intro i j hi mG og;rw[List.length_set] at hi mG;have:=hr i j hi mG og;simp only[List.getElem_set];have hkey:(more (jl l k) c).key=l[(au l k).toNat].key:=by rw[<-hx];rfl
   by_cases e1:(au l k).toNat=i
   ·subst e1
    rw[if_pos rfl,if_neg (by omega),hkey]
    exact this
   ·rw [if_neg e1]
    by_cases e2:(au l k).toNat=j
    ·subst e2
     rw[if_pos rfl,hkey];exact this
    ·rw [if_neg e2]
     exact this
  ·rcases List.mem_or_eq_of_mem_set hy with hy | rfl
   ·exact h.mO y hy
   ·obtain ⟨g0,g1,g2⟩:=hg
    unfold kV bC at *;refine⟨?_,?_,?_,?_,?_,?_,?_⟩ <;>simp only[more] <;>omega
theorem xQ (l:List Lz)(k c now:Int):(bH l k c now).1.length=l.length:=by
 unfold bH;split <;>simp
theorem pG {l:List Lz}(h:bu l)(k g:Int):bu (bB l k g).1:=by
 unfold bB;split
 ·exact h
 ·exact ⟨h.en.sublist (List.eraseIdx_sublist _ _),fun x hx=>h.mO x ((List.eraseIdx_sublist _ _).subset hx)⟩
theorem rS {l:List Lz}(h:bu l)(g:Int):bu (drop l g).1 :=
 ⟨h.en.sublist List.filter_sublist,fun x hx=>h.mO x (List.mem_filter.1 hx).1⟩
end Zw
namespace Zm
def aB (x lo hi:Int):Bool:=decide (lo<=x)&&decide (x<=hi)
theorem fK {x lo hi:Int}(h0:lo<=x)(h1:x<=hi):aB x lo hi=true:=by unfold aB;simp[h0,h1]
theorem gp {x lo hi:Int}(h:¬(lo<=x/\x<=hi)):aB x lo hi=false:=by
 unfold aB;by_cases h0:lo<=x
 ·have h1:¬x<=hi:=fun k=>h ⟨h0,k⟩
  simp[h0,h1]
 ·simp [h0]
theorem pH {x lo hi:Int}:aB x lo hi=true↔lo<=x/\x<=hi:=by unfold aB;simp
def key (p m:Int):Int×Int:=if 0<=p/\p<=7/\0<=m/\m<=65535 then (p*65536+m,0) else (0,1)
end Zm
namespace Zu
open Zv (spot eL cP bA)
open Zr (add)
structure It where
 id:Int
 key:Int
 cost:Int
 bU:Int
 cJ:Int
def z:It:=⟨0,0,0,0,0⟩
def bC (x:Int):Prop:= -9223372036854775808<=x/\x<=9223372036854775807
def kV (x:It):Prop:=bC x.id/\bC x.key/\bC x.cost/\bC x.bU/\bC x.cJ
def au (l:List It)(i:Int):Int:=spot (fun x=>x.id==i) l
def jl (l:List It)(i:Int):It:=l.getD (au l i).toNat z
def cY (x:It):Prop:=x.cost<1∨x.bU<0∨2<x.bU∨x.cJ<0
instance (x:It):Decidable (cY x):=by unfold cY;infer_instance
def put (aw:Int)(l:List It)(x:It):List It×Int:=if cY x then (l,1) else if 0<=au l x.id then (l,5) else if aw<=l.length then (l,3) else (l++[x],0)
def ng (k c:Int)(x:It):Bool:=x.key==k&&x.bU==c
def xq (l:List It)(k c:Int):List It:=l.filter (ng k c)
def of (l:List It)(k:Int):List It:=xq l k 0++xq l k 1++xq l k 2
def take (l:List It)(i:Int):List It×It×Bool:=if au l i<0 then (l,z,false) else (l.eraseIdx (au l i).toNat,jl l i,true)
def due (now:Int)(x:It):Bool:=decide (x.cJ<=now)
def ve (l:List It)(now:Int):List It×List It:=(l.filter fun x=> !due now x,l.filter (due now))
def dA (k:Int)(s:List Int×Bool)(a:Int):List Int×Bool :=
 if s.2=false/\k<=a then (if a=k then s.1++[k] else s.1++[k]++[a],true) else (if a=k then s.1 else s.1++[a],s.2)
def dP (k:Int)(l:List Int):List Int×Bool:=l.foldl (dA k) ([],false)
def ja (k:Int)(l:List Int):List Int:=if (dP k l).2=true then (dP k l).1 else (dP k l).1++[k]
def aR (l:List It):List Int:=l.foldl (fun s x=>ja x.key s) []
def nh (l:List It):Int:=l.foldl (fun s x=>add [s,x.cost]) 0
def sum (l:List It)(k:Int):Int:=nh (of l k)
structure bu (aw:Int)(l:List It):Prop where
 aw:(l.length:Int)<=aw
 vg:l.Pairwise fun a b=>a.id≠b.id
 mO:∀x∈l,¬cY x/\kV x
theorem vd {aw:Int}(h:0<=aw):bu aw []:=⟨by simpa using h,.nil,fun x h=>by cases h⟩
theorem cM {l:List It}{k:Int}(h:0<=au l k):(au l k).toNat<l.length/\(jl l k).id=k/\jl l k∈l:=by
 unfold jl;rcases bA (fun x:It=>x.id==k) z l with ⟨e,-⟩ | ⟨j,e,hj,hk,-⟩
 ·unfold au at h;omega
 ·have e':(au l k).toNat=j:=by unfold au;omega
  rw[e'];refine⟨hj,by simpa using hk,?_⟩
  simp[List.getD,hj]
theorem fJ {l:List It}{k:Int}(h:au l k<0):∀x∈l,x.id≠k:=by
 rcases bA (fun x:It=>x.id==k) z l with ⟨-,e⟩ | ⟨j,e,-⟩
 ·intro x hx
  obtain⟨i,hi,rfl⟩:=List.getElem_of_mem hx;have:=e i hi;simpa[List.getD,hi] using this
 ·unfold au at h;omega
theorem jQ {aw:Int}{l:List It}(h:bu aw l){x:It}(hx:kV x):bu aw (put aw l x).1:=by
 unfold put;split
 ·exact h
 ·split
  ·exact h
  ·split
   ·exact h
   ·rename_i hw hp hr
    refine⟨by simp;omega,?_,fun y hy=> ?_⟩
    ·rw [List.pairwise_append]
     refine⟨h.vg,by simp,fun a ha b hb=> ?_⟩
     rw[List.mem_singleton.1 hb];exact fJ (by omega) a ha
    ·rcases List.mem_append.1 hy with hy | hy
     ·exact h.mO y hy
     ·rw [List.mem_singleton.1 hy]
      exact⟨hw,hx⟩
theorem ll {aw:Int}{l m:List It}(h:bu aw l)(s:List.Sublist m l):bu aw m :=
 ⟨by have:=s.length_le;have:=h.aw;omega,h.vg.sublist s,fun x hx=>h.mO x (s.subset hx)⟩
theorem oh {aw:Int}{l:List It}(h:bu aw l)(i:Int):bu aw (take l i).1:=by
 unfold take;split
 ·exact h
 ·exact ll h (List.eraseIdx_sublist _ _)
theorem zI (l:List It)(k c:Int):(xq l k c).length<=l.length:=List.length_filter_le _ _
theorem lR:∀(l:List It)(k:Int),(of l k).length<=l.length
 | [],_=>by simp[of,xq]
 | x :: l,k=>by
   have ih:=lR l k;simp only[of,xq,List.length_append,List.filter_cons] at ih ⊢;by_cases hk:x.key=k
   ·by_cases h0:x.bU=0
    ·simp [ng,hk,h0] at ih ⊢;omega
    ·by_cases h1:x.bU=1
     ·simp [ng,hk,h1] at ih ⊢;omega
     ·by_cases h2:x.bU=2
      ·simp [ng,hk,h2] at ih ⊢;omega
      ·simp [ng,hk,h0,h1,h2] at ih ⊢;omega
   ·simp [ng,hk] at ih ⊢;omega
theorem rT (k:Int)(s:List Int×Bool)(a:Int):(dA k s a).1.length+(if (dA k s a).2=true then 0 else 1)<=s.1.length+(if s.2=true then 0 else 1)+1:=by
 obtain⟨l,d⟩:=s;unfold dA;cases d <;>simp only <;>repeat' split <;>simp_all
theorem jS (k:Int)(l:List Int)(a:Int):dP k (l++[a])=dA k (dP k l) a:=by unfold dP;rw[List.foldl_append];rfl
theorem ln (k:Int)(l:List Int):(dP k l).1.length+(if (dP k l).2=true then 0 else 1)<=l.length+1:=by
 suffices h:∀(l:List Int) (s:List Int×Bool),(l.foldl (dA k) s).1.length+(if (l.foldl (dA k) s).2=true then 0 else 1)<=s.1.length+(if s.2=true then 0 else 1)+l.length by
  have:=h l ([],false);unfold dP;simp at this ⊢;omega
 intro l
 induction l with
 | nil=>intro s;exact Nat.le_refl _
 | cons a l ih =>
   intro s;have h1:=ih (dA k s a);have h2:=rT k s a;rw[List.foldl_cons,List.length_cons];omega
theorem vh (k:Int)(l:List Int):(ja k l).length<=l.length+1:=by
 have:=ln k l;unfold ja;split
 ·rename_i h
  rw[if_pos h] at this;omega
 ·rename_i h
  rw[if_neg h] at this;simp;omega
theorem fB (l:List It):(aR l).length<=l.length:=by
 suffices h:∀(l:List It) (s:List Int),(l.foldl (fun s x=>ja x.key s) s).length<=s.length+l.length by
  have:=h l [];simp only[List.length_nil,Nat.zero_add] at this;exact this
 intro l
 induction l with
 | nil=>intro s;simp
 | cons a l ih =>
   intro s;have h1:=ih (ja a.key s);have h2:=vh a.key s;rw[List.foldl_cons,List.length_cons];omega
theorem xR (l:List It)(x:It):aR (l++[x])=ja x.key (aR l):=by unfold aR;rw[List.foldl_append];rfl
theorem xS (l:List It)(x:It):nh (l++[x])=add [nh l,x.cost]:=by unfold nh;rw[List.foldl_append];rfl
end Zu
namespace Zj
def o6 (zs:List Int):List Int:=zs.mergeSort (fun x y=>decide (x<=y))
def ni (zs:List Int)(m:Int):Int:=if 1<=m/\m<=(zs.length:Int) then (o6 zs).getD (zs.length-m.toNat) 0 else 0
def more (zs:List Int)(y:Int):Nat:=zs.countP (fun z=>decide (y<z))
def same (zs:List Int)(y:Int):Nat:=zs.countP (fun z=>decide (z=y))
def jT (zs:List Int)(y:Int):Nat:=zs.countP (fun z=>decide (y<=z))
theorem Mo (zs:List Int)(y:Int):jT zs y=more zs y+same zs y:=by
 unfold jT more same
 induction zs with
 | nil=>rfl
 | cons z zs ih =>
   simp only[List.countP_cons,ih,decide_eq_true_eq];by_cases h1:y<z
   ·rw [if_pos (by omega),if_pos h1,if_neg (by omega)];omega
   ·by_cases h2:z=y
    ·rw [if_pos (by omega),if_neg h1,if_pos h2];omega
    ·rw [if_neg (by omega),if_neg h1,if_neg h2];omega
theorem iT (zs:List Int){y v:Int}(h:y<v):jT zs v<=more zs y :=
 List.countP_mono_left (fun z _ hz=>by simp at hz ⊢;omega)
def bu (zs:List Int)(m y:Int):Prop:=(more zs y:Int)<m/\m<=(jT zs y:Int)
theorem Br {zs:List Int}{m y v:Int}(h:bu zs m y)(k:bu zs m v):y=v:=by
 rcases Int.lt_trichotomy y v with c | c | c
 ·have:=iT zs c;have:=h.1;have:=k.2;omega
 ·exact c
 ·have:=iT zs c;have:=k.1;have:=h.2;omega
theorem lp (zs:List Int)(m:Int)(h1:1<=m)(h2:m<=(zs.length:Int)):bu zs m (ni zs m)/\ni zs m∈zs:=by
 have hp:(o6 zs).Perm zs:=List.mergeSort_perm zs _;have hl:(o6 zs).length=zs.length:=hp.length_eq;have hs:(o6 zs).Pairwise (fun a b=>decide (a<=b)=true):=List.pairwise_mergeSort (by intro a b c;simp;omega) (by intro a b;simp;omega) zs
 have hs':=List.pairwise_iff_getElem.1 hs;have hi:zs.length-m.toNat<(o6 zs).length:=by omega
 have hn:ni zs m=(o6 zs)[zs.length-m.toNat]:=by
  unfold ni;rw[if_pos ⟨h1,h2⟩];simp[hi]
 have vk:ni zs m∈zs:=by rw[hn];exact hp.subset (List.getElem_mem hi)
 refine⟨?_,vk⟩;rw[hn];obtain⟨p,hpd⟩:∃p,p=zs.length-m.toNat:=⟨_,rfl⟩;simp only[<-hpd] at hi ⊢;obtain⟨v,hv⟩:∃v,v=(o6 zs)[p]:=⟨_,rfl⟩;rw[<-hv];have up:∀j (hj:j<(o6 zs).length),p<=j->v<=(o6 zs)[j]:=fun j hj hpj=>by
  rcases Nat.lt_or_ge p j with c | c
  ·have:=hs' p j hi hj c;rw[hv];simpa using this
  ·have:p=j:=by omega
   subst this;rw[hv];exact Int.le_refl _
 have dn:∀j (hj:j<(o6 zs).length),j<=p->(o6 zs)[j]<=v:=fun j hj hpj=>by
  rcases Nat.lt_or_ge j p with c | c
  ·have:=hs' j p hj hi c;rw[hv];simpa using this
  ·have:j=p:=by omega
   subst this;rw[hv];exact Int.le_refl _
 constructor
 ·have e:more zs v=more (o6 zs) v:=(hp.countP_eq _).symm
  rw[e];unfold more;rw[<-List.take_append_drop (p+1) (o6 zs),List.countP_append];have z:((o6 zs).take (p+1)).countP (fun z=>decide (v<z))=0:=by
   rw[List.countP_eq_zero];intro a ha;obtain⟨j,hj,rfl⟩:=List.mem_take_iff_getElem.1 ha;have:=dn j (by omega) (by omega)
   simp;omega
  have l:((o6 zs).drop (p+1)).countP (fun z=>decide (v<z))<=((o6 zs).drop (p+1)).length:=List.countP_le_length
  rw[z];rw[List.length_drop] at l;omega
 ·have e:jT zs v=jT (o6 zs) v:=(hp.countP_eq _).symm
  rw[e];unfold jT;rw[<-List.take_append_drop p (o6 zs),List.countP_append];have z:((o6 zs).drop p).countP (fun z=>decide (v<=z))=((o6 zs).drop p).length:=by
   rw[List.countP_eq_length];intro a ha;obtain⟨j,hj,rfl⟩:=List.mem_drop_iff_getElem.1 ha;have:=up (j+p) (by omega) (by omega)
   simpa[Nat.add_comm] using this
  rw[z,List.length_drop];omega
theorem I5 (zs:List Int)(y:Int)(k:Nat)(h:k<zs.length):more (zs.take (k+1)) y=more (zs.take k) y+(if y<zs.getD k 0 then 1 else 0):=by
 unfold more;rw[List.take_succ_eq_append_getElem h,List.countP_append];simp[h,List.countP_cons]
theorem I6 (zs:List Int)(y:Int)(k:Nat)(h:k<zs.length):same (zs.take (k+1)) y=same (zs.take k) y+(if zs.getD k 0=y then 1 else 0):=by
 unfold same;rw[List.take_succ_eq_append_getElem h,List.countP_append];simp[h,List.countP_cons]
theorem Hr (zs:List Int)(y:Int)(k:Nat):more (zs.take k) y<=zs.length:=Nat.le_trans List.countP_le_length (by simp;omega)
theorem Hs (zs:List Int)(y:Int)(k:Nat):same (zs.take k) y<=zs.length:=Nat.le_trans List.countP_le_length (by simp;omega)
end Zj
namespace Zo
open Zx (Rw Tb Tk bn)
open Zj (ni kt more jT bu lp iT has all)
open Zr (dh add dN kC)
def SZ (n:Nat)(node now:Int):List Int:=(List.range n).map fun i:Nat=>if ((i:Nat):Int)=node then now else -1
def Ht (gen:Int)(n:Nat)(node now:Int):Tk:=⟨gen,0,SZ n node now,⟨now,[]⟩⟩
def VC:Tk:=⟨0,0,[],⟨0,[]⟩⟩
def vn (gen n node now:Int):Tk×Int :=
 if n<1∨64<n∨node<0∨n<=node then (VC,1) else if bn (Ht gen n.toNat node now)=true/\0<=now then (Ht gen n.toNat node now,0) else (VC,1)
def eY (l:List Int):List Int:=l.filter fun x=>decide (0<=x)
def mP (l:List Int)(eO:Int):Int:=if 1<=kt l.length/\kt l.length<=((eY l).length:Int) then add [ni (eY l) (kt l.length),eO] else -1
def fW (l:List Int)(now eO:Int):Bool:=decide (0<=mP l eO)&&decide (dh now<=mP l eO)
def cK (t:Tk)(node now:Int):Tk×Int:=if node<0∨(t.stamps.length:Int)<=node∨now<0∨4611686018427387903<now then (t,1) else (⟨t.gen,t.bP,t.stamps.set node.toNat now,t.table⟩,0)
theorem tB (l:List Int){y:Int}(h:0<=y):jT (eY l) y=jT l y:=by
 unfold jT eY;rw[List.countP_filter]
 congr 1
 funext x
 by_cases hx:y<=x
 ·simp [hx,show(0:Int)<=x by omega]
 ·simp [hx]
theorem Et (l:List Int){y:Int}(h:0<=y):more (eY l) y=more l y:=by
 unfold more eY;rw[List.countP_filter]
 congr 1
 funext x
 by_cases hx:y<x
 ·simp [hx,show(0:Int)<=x by omega]
 ·simp [hx]
theorem zJ (l:List Int):(eY l).length=jT l 0:=by
 unfold eY jT;rw[List.countP_eq_length_filter]
theorem I7 {l:List Int}{m:Int}(h1:1<=m)(h2:m<=(l.length:Int))(h0:0<=ni l m):m<=((eY l).length:Int)/\ni (eY l) m=ni l m:=by
 obtain⟨⟨hm,hl⟩,-⟩:=lp l m h1 h2;have h3:m<=((eY l).length:Int):=by
  have:jT l (ni l m)<=jT l 0:=List.countP_mono_left (fun z _ hz=>by simp at hz ⊢;omega)
  rw[zJ];omega
 refine⟨h3,?_⟩;obtain⟨hg,vk⟩:=lp (eY l) m h1 h3;have hb:0<=ni (eY l) m:=by simpa using(List.mem_filter.1 vk).2
 refine Zj.Br (zs:=l) (m:=m) ⟨?_,?_⟩ ⟨hm,hl⟩
 ·rw [<-Et l hb];exact hg.1
 ·rw [<-tB l hb];exact hg.2
theorem Mp {l:List Int}{eO:Int}(h:¬(1<=kt l.length/\kt l.length<=(l.length:Int))):mP l eO= -1:=by
 unfold mP;rw[if_neg fun k=>h ⟨k.1,by have:(eY l).length<=l.length:=List.length_filter_le _ _;omega⟩]
theorem Eu {l:List Int}{eO:Int}(h1:1<=kt l.length)(h2:kt l.length<=(l.length:Int))(h:ni l (kt l.length)<0):mP l eO= -1:=by
 unfold mP;refine if_neg fun k=> ?_
 obtain⟨hg,vk⟩:=lp (eY l) (kt l.length) k.1 k.2;obtain⟨⟨hm,hl⟩,-⟩:=lp l (kt l.length) h1 h2;have hb:0<=ni (eY l) (kt l.length):=by simpa using(List.mem_filter.1 vk).2
 have e1:=tB l hb;have e2:=iT l (show ni l (kt l.length)<ni (eY l) (kt l.length) by omega)
 have:=hg.2;omega
theorem I8 {l:List Int}{eO:Int}(h1:1<=kt l.length)(h2:kt l.length<=(l.length:Int))(h:0<=ni l (kt l.length)):mP l eO=add [ni l (kt l.length),eO]:=by
 obtain⟨h3,h4⟩:=I7 h1 h2 h;unfold mP;rw[if_pos ⟨h1,h3⟩,h4]
theorem Ev (l:List Int)(now eO:Int):fW l now eO=decide (dh now<=mP l eO):=by
 unfold fW;have:0<=dh now:=by unfold dh;simp only[Zr.mX];split <;>(try split) <;>omega
 by_cases h:dh now<=mP l eO
 ·rw [decide_eq_true h,decide_eq_true (by omega)];rfl
 ·rw [decide_eq_false h,Bool.and_false]
end Zo
namespace Zj
theorem fq {k:IntKind}{a b:Int}(h:a=b):Ending.returned (.int k a)=.returned (.int k b):=by rw[h]
theorem dV {a b:Bool}(h:a=b):Ending.returned (.bool a)=.returned (.bool b):=by rw[h]
theorem fC (n:Int)(w:World) :
 Calls prog 80 #[.int .i64 n] w fun e w'=>e=.returned (.bool (gN n))/\w=w':=by
 by_cases h:1<=n
 ·go_enter func80,ntmps80
  go_wp2;go_ret;exact⟨dV (by unfold gN;rw[Bool.eq_iff_iff];simp;omega),rfl⟩
 ·go_enter func80,ntmps80
  go_wp2;go_ret;exact⟨dV (by unfold gN;rw[Bool.eq_iff_iff];simp;omega),rfl⟩
theorem Hu (n:Int)(w:World)(hn:n<=9223372036854775807) :
 Calls prog 146 #[.int .i64 n] w fun e w'=>e=.returned (.int .i64 (kt n))/\w=w':=by
 by_cases h:n<1
 ·go_enter func146,ntmps146
  go_wp2;go_ret;exact⟨fq (by unfold kt;rw[if_pos h]),rfl⟩
 ·go_enter func146,ntmps146
  go_wp2;go_ret;refine⟨fq ?_,rfl⟩;unfold kt;rw[if_neg (by omega)]
theorem Ew (n:Int)(w:World)(hn:n<=9223372036854775807) :
 Calls prog 132 #[.int .i64 n] w fun e w'=>e=.returned (.int .i64 (kt n))/\w=w':=by
 by_cases h:n<1
 ·go_enter func132,ntmps132
  go_wp2;go_ret;exact⟨fq (by unfold kt;rw[if_pos h]),rfl⟩
 ·go_enter func132,ntmps132
  go_wp2;go_ret;refine⟨fq ?_,rfl⟩;unfold kt;rw[if_neg (by omega)]
end Zj
namespace Zm
open Go.RowKit Zj
theorem xr (n:Int):gN n=aB n 1 64:=rfl
theorem aU (x lo hi:Int)(w:World) :
 Calls prog 133 #[.int .i64 x,.int .i64 lo,.int .i64 hi] w fun e w'=>e=.returned (.bool (aB x lo hi))/\w=w':=by
 by_cases h:lo<=x
 ·go_enter func133,ntmps133
  go_wp2;go_ret;exact⟨dV (by unfold aB;simp[h]),rfl⟩
 ·go_enter func133,ntmps133
  go_wp2;go_ret;exact⟨dV (gp (by omega)).symm,rfl⟩
theorem vp (n:Int)(w:World) :
 Calls prog 73 #[.int .i64 n] w fun e w'=>e=.returned (.bool (aB n 1 64))/\w=w':=by
 go_enter func73,ntmps73
 go_wp2_with (go_at_call 133;refine(aU _ _ _ _).mono ?_;rintro e w' ⟨rfl,rfl⟩)
 go_ret;exact⟨rfl,rfl⟩
theorem fC (k:Int)(w:World) :
 Calls prog 134 #[.int .i64 k] w fun e w'=>e=.returned (.bool (aB k 0 524287))/\w=w':=by
 go_enter func134,ntmps134
 go_wp2_with (go_at_call 133;refine(aU _ _ _ _).mono ?_;rintro e w' ⟨rfl,rfl⟩)
 go_ret;exact⟨rfl,rfl⟩
theorem lS (k:Int)(w:World) :
 Calls prog 43 #[.int .i64 k] w fun e w'=>e=.returned (.bool (aB k 0 524287))/\w=w':=by
 by_cases h:0<=k
 ·go_enter func43,ntmps43
  go_wp2;go_ret;exact⟨dV (by unfold aB;rw[Bool.eq_iff_iff];simp;omega),rfl⟩
 ·go_enter func43,ntmps43
  go_wp2;go_ret;exact⟨dV (by unfold aB;rw[Bool.eq_iff_iff];simp;omega),rfl⟩
end Zm
namespace Zw
open Zq (aI cO ae aj ai cL)
def val (x:Lz):Value:=.agg #[.int .i64 x.key,.int .i64 x.gen,.int .i64 x.aK,.int .i64 x.spent,.int .i64 x.cJ]
theorem RJ:(prog.info? 131).map (fun i=>(i.zero,i.size,i.bytes))=some (some (.agg #[.int .i64 0,.int .i64 0,.int .i64 0,.int .i64 0,.int .i64 0]),5,40):=by kernel_rfl
def cV (l:List Lz):List Value:=l.flatMap fun x=>[.int .i64 x.key,.int .i64 x.gen,.int .i64 x.aK,.int .i64 x.spent,.int .i64 x.cJ]
theorem tC (l:List Lz)(x:Lz):cV (l++[x])=cV l++[.int .i64 x.key,.int .i64 x.gen,.int .i64 x.aK,.int .i64 x.spent,.int .i64 x.cJ]:=by simp[cV]
theorem vq (l:List Lz):(cV l).length=l.length*5:=by
 induction l with
 | nil=>rfl
 | cons s l ih =>
   simp only[cV,List.flatMap_cons,List.length_append,List.length_cons,List.length_nil] at ih ⊢;omega
theorem Ex (l:List Lz):∀u∈cV l,u.oneCell'=true:=by
 intro u hu;simp only[cV,List.mem_flatMap] at hu;obtain⟨s,_,hs⟩:=hu;simp at hs;rcases hs with rfl | rfl | rfl | rfl | rfl <;>rfl
theorem om:∀(l:List Lz)(j:Nat)(_:j<l.length),(cV l)[j*5]? =some (.int .i64 (l.getD j z).key)/\(cV l)[j*5+1]? =some (.int .i64 (l.getD j z).gen)/\(cV l)[j*5+2]? =some (.int .i64 (l.getD j z).aK)/\(cV l)[j*5+3]? =some (.int .i64 (l.getD j z).spent)/\(cV l)[j*5+4]? =some (.int .i64 (l.getD j z).cJ)
 | [],j,hj=>by simp at hj
 | x :: l,0,_=>by simp[cV]
 | x :: l,j+1,hj=>by
   have:=om l j (by simpa using hj)
   have e:cV (x :: l)=[.int .i64 x.key,.int .i64 x.gen,.int .i64 x.aK,.int .i64 x.spent,.int .i64 x.cJ]++cV l:=by simp[cV]
   rw[e];have s:∀n,([Value.int .i64 x.key,.int .i64 x.gen,.int .i64 x.aK,.int .i64 x.spent,.int .i64 x.cJ]++cV l)[5+n]? =(cV l)[n]? :=fun n=>by
    rw[List.getElem?_append_right (by simp)];simp
   have d:(x :: l).getD (j+1) z=l.getD j z:=by simp[List.getD]
   rw[d];refine⟨?_,?_,?_,?_,?_⟩
   ·rw [show (j+1)*5=5+j*5 by omega,s];exact this.1
   ·rw [show (j+1)*5+1=5+(j*5+1) by omega,s];exact this.2.1
   ·rw [show (j+1)*5+2=5+(j*5+2) by omega,s];exact this.2.2.1
   ·rw [show (j+1)*5+3=5+(j*5+3) by omega,s];exact this.2.2.2.1
   ·rw [show (j+1)*5+4=5+(j*5+4) by omega,s];exact this.2.2.2.2
def At (w:World)(b o:Nat)(x:Lz):Prop:=w.cell? ⟨b,o,none⟩=some (.int .i64 x.key)/\w.cell? ⟨b,o+1,none⟩=some (.int .i64 x.gen)/\w.cell? ⟨b,o+2,none⟩=some (.int .i64 x.aK)/\w.cell? ⟨b,o+3,none⟩=some (.int .i64 x.spent)/\w.cell? ⟨b,o+4,none⟩=some (.int .i64 x.cJ)
def aL (w:World)(p:Option Addr)(l:List Lz):Prop:=l=[]∨∃b o,p=some ⟨b,o,none⟩/\∀j,j<l.length->At w b (o+j*5) (l.getD j z)
theorem af {w w':World}{b o:Nat}{v:Value}(h:w.cell? ⟨b,o,none⟩=some v)(hb:Below w.heap.size w w'):w'.cell? ⟨b,o,none⟩=some v :=
 (hb.cell (p:=⟨b,o,none⟩) (World.block_lt_of_cell? _ _ h)).trans h
theorem At.below {w w':World}{b o:Nat}{x:Lz}(h:At w b o x)(hb:Below w.heap.size w w'):At w' b o x :=
 ⟨af h.1 hb,af h.2.1 hb,af h.2.2.1 hb,af h.2.2.2.1 hb,af h.2.2.2.2 hb⟩
theorem aL.below {w w':World}{p:Option Addr}{l:List Lz}(h:aL w p l)(hb:Below w.heap.size w w'):aL w' p l:=by
 rcases h with h | ⟨b,o,e,hc⟩
 ·exact .inl h
 ·exact .inr ⟨b,o,e,fun j hj=>(hc j hj).below hb⟩
theorem bj {w:World}{p:Option Addr}{l:List Lz}(h:aL w p l){j:Nat}(hj:j<l.length):∃b o,p=some ⟨b,o,none⟩/\At w b (o+j*5) (l.getD j z):=by
 rcases h with h | ⟨b,o,e,hc⟩
 ·rw [h] at hj;simp at hj
 ·exact ⟨b,o,e,hc j hj⟩
def Own (E:TypeId)(B:Nat)(w:World)(v:Value)(l:List Lz):Prop:=w.ownsRow B E 5 v l.length (cV l)
section
variable {w w':World}{E:TypeId}{B b:Nat}{v:Value}{l:List Lz}
theorem Own.none (E:TypeId)(B:Nat)(w:World):Own E B w (.slice Option.none 0 0) []:=World.ownsRow_nil _ _ _ _
theorem Own.on (h:Own E B w v l)(hb:Below w.heap.size w w'):Own E B w' v l:=aI h hb
theorem Own.gi (h:Own E B w v l):∃p c,v=.slice p l.length c/\aL w p l:=by
 have ho:=h;rcases h.2 with ⟨rfl,h0⟩ | ⟨g,cap,cur,rfl,h1,h2,h3⟩
 ·exact ⟨Option.none,0,by rw[h0],.inl (List.eq_nil_of_length_eq_zero h0)⟩
 ·refine ⟨_,cap,rfl,.inr ⟨g,0,rfl,fun j hj=> ?_⟩⟩
  obtain⟨c0,c1,c2,c3,c4⟩:=om l j hj;have hc:=World.ownsRow.cells (g:=g) ho rfl;have k0:=hc _ _ c0;have k1:=hc _ _ c1;have k2:=hc _ _ c2;have k3:=hc _ _ c3;have k4:=hc _ _ c4;rw[Zq.gM] at k0 k1 k2 k3 k4;rw[<-Nat.add_assoc] at k1 k2 k3 k4;exact⟨k0,k1,k2,k3,k4⟩
theorem Own.set {o:Nat}{u:Value}(h:Own E B w v l)(hb:b<B):Own E B (w.setCell ⟨b,o,Option.none⟩ u) v l:=by
 refine⟨h.1,?_⟩;rcases h.2 with h0 | ⟨g,cap,cur,rfl,h1,h2,h3⟩
 ·exact .inl h0
 ·exact .inr ⟨g,cap,cur,rfl,h1,(Below.heap_setCell _ _ _ _ (by simp;omega)).trans h2,h3⟩
structure bS (ts:List TypeId)(w w':World):Prop where
 size:w.heap.size<=w'.heap.size
 tD:∀(g:Nat) (o:Obj),w.heap[g]? =some o->(∀cs t z,o=Obj.cells cs t z->t∉ts)->w'.heap[g]? =some o
def Wl (B:Nat)(w:World)(v:Nat)(l:List Lz):Prop:=B<=v/\∃y,w.heap[v]? =some (.cells #[y] 92 (0,0))/\Own 131 B w y l
structure cS (B:Nat)(w:World)(v:Nat)(l:List Lz)(w':World):Prop where
 wl:Wl B w' v l
 kept:bS [92] w w'
 below:Below B w w'
end
theorem bQ {w:World}{b:Nat}{v0 v1 v2 v3 v4:Value}{T:TypeId}(h:w.heap[b]? =some (.cells #[v0,v1,v2,v3,v4] T (0,0))):w.cell? ⟨b,0,none⟩=some v0/\w.cell? ⟨b,1,none⟩=some v1/\w.cell? ⟨b,2,none⟩=some v2/\w.cell? ⟨b,3,none⟩=some v3/\w.cell? ⟨b,4,none⟩=some v4 :=
 ⟨by rw[cell_of_row w b 0 _ _ (0,0) h];rfl,by rw[cell_of_row w b 1 _ _ (0,0) h];rfl,by rw[cell_of_row w b 2 _ _ (0,0) h];rfl,by rw[cell_of_row w b 3 _ _ (0,0) h];rfl,by rw[cell_of_row w b 4 _ _ (0,0) h];rfl⟩
theorem cW {u:World}{ops:Array Oper}{rest:List Oper}{o:Oper}{a:Act}{Q:Exit->Act->World->Prop}(hgd:o.guard=none)(s y:Operand)
 (ho:o.op=.call { callee:=.builtin .append,args:= #[s,y],argTypes:= #[63,63] })
 (w0 wr:World) (v:Value) (hs:a.eval s=v) (l:List Lz) (n:Nat) (hn:l.length=n) (ax:Own 131 w0.heap.size wr v l) (aW:Below w0.heap.size w0 wr) (hu:Below wr.heap.size wr u)
 (g:Nat) (x:Lz) (hy:a.eval y=.slice (some ⟨g,0,Option.none⟩) 1 1)
 (hg:(u.alloc (.cells #[.int .i64 x.key,.int .i64 x.gen,.int .i64 x.aK,.int .i64 x.spent,.int .i64 x.cJ] 131)).heap[g]? =some (.cells #[.int .i64 x.key,.int .i64 x.gen,.int .i64 x.aK,.int .i64 x.spent,.int .i64 x.cJ] 131 (0,0))) (aT:n<=100000)
 (h:∀p c w',Hid (Own 131 w0.heap.size w' (.slice p (n+1) c) (l++[x]))->Below w0.heap.size w0 w'->wpList prog ops Q rest (a.put o.dst (.slice p (n+1) c)) w'):wpList prog ops Q (o :: rest) a (u.alloc (.cells #[.int .i64 x.key,.int .i64 x.gen,.int .i64 x.aK,.int .i64 x.spent,.int .i64 x.cJ] 131)):=by
 subst hn;obtain⟨i0,hi,hz0,hz1,hz2⟩:=info_parts RJ;have xT:Below wr.heap.size wr (u.alloc (.cells #[.int .i64 x.key,.int .i64 x.gen,.int .i64 x.aK,.int .i64 x.spent,.int .i64 x.cJ] 131)):=hu.alloc hu.size _;refine wpList_append_own _ hgd s y 63 ho w0.heap.size 131 i0 (.agg #[.int .i64 0,.int .i64 0,.int .i64 0,.int .i64 0,.int .i64 0]) 5 40 underlying63 hi hz0 hz1 hz2 rfl (by decide) v l.length (cV l) hs (aI ax xT) ⟨g,0,Option.none⟩ 1 1 [.int .i64 x.key,.int .i64 x.gen,.int .i64 x.aK,.int .i64 x.spent,.int .i64 x.cJ] hy rfl (World.news_of_block hg) ?_ (by unfold maxLen;omega) (by omega) (Nat.le_trans aW.size xT.size) ?_
 ·intro z hz
  simp at hz;rcases hz with rfl | rfl | rfl | rfl | rfl <;>rfl
 ·intro v' w' ko hg2 _
  have hb2:=(aW.trans (xT.mono aW.size)).grown hg2 (Nat.le_trans aW.size xT.size) (fun k hk=>(World.ownsRow.lt ax k hk).1)
  have R:Own 131 w0.heap.size w' v' (l++[x]):=by
   unfold Own;rw[tC,List.length_append];exact ko
  obtain⟨p,c,rfl⟩:∃p c,v'=.slice p (l.length+1) c:=by
   rcases ko.2 with ⟨_,h0⟩ | ⟨g,cap,cur,rfl,_⟩
   ·omega
   ·exact ⟨_,cap,rfl⟩
  exact h p c w' R hb2
end Zw
namespace Zl
open Zq (aI cO ae aj ai cL)
open Zw
def Wl (B:Nat)(w:World)(v ov:Nat)(l:List Lz):Prop:=B<=v/\∃cs T y,w.heap[v]? =some (.cells cs T (0,0))/\cs[ov]? =some y/\Own 131 B w y l
structure cS (B:Nat)(w:World)(v ov:Nat)(l:List Lz)(w':World):Prop where
 wl:Wl B w' v ov l
 row:∀cs T,w.heap[v]? =some (.cells cs T (0,0))->∃cs',w'.heap[v]? =some (.cells cs' T (0,0))/\∀k,k≠ov->cs'[k]? =cs[k]?
 only:∀g,g≠v->g<w.heap.size->w'.heap[g]? =w.heap[g]?
 below:Below B w w'
 size:w.heap.size<=w'.heap.size
section
variable {w w':World}{B b ov:Nat}{l:List Lz}
theorem Wl.lt (h:Wl B w b ov l):b<w.heap.size:=by
 obtain⟨_,cs,T,y,h,_⟩:=h;exact ae h
theorem Wl.below (h:Wl B w b ov l)(hb:Below w.heap.size w w'):Wl B w' b ov l:=by
 obtain⟨h0,cs,T,y,h1,h2,h3⟩:=h;exact⟨h0,cs,T,y,(hb.block b (ae h1)).trans h1,h2,h3.on hb⟩
theorem Wl.cell (h:Wl B w b ov l):∃p c,w.cell? ⟨b,ov,Option.none⟩=some (.slice p l.length c)/\aL w p l:=by
 obtain⟨_,cs,T,y,h1,h2,h3⟩:=h;obtain⟨p,c,rfl,hl⟩:=h3.gi;exact⟨p,c,by rw[cell_of_row w b ov _ _ (0,0) h1,h2],hl⟩
theorem cS.same (h:Wl B w b ov l)(hB:B<=w.heap.size)(hb:Below w.heap.size w w'):cS B w b ov l w' :=
 ⟨h.below hb,fun cs _ e=>⟨cs,(hb.block b (ae e)).trans e,fun _ _=>rfl⟩,fun g _ hg=>hb.block g hg,hb.mono hB,hb.size⟩
theorem cS.trans {w2:World}{l' l2:List Lz}(h:cS B w b ov l' w')(k:cS B w' b ov l2 w2):cS B w b ov l2 w2 :=
 ⟨k.wl,fun cs T e=>by
  obtain⟨c1,e1,h1⟩:=h.row cs T e;obtain⟨c2,e2,h2⟩:=k.row c1 T e1;exact⟨c2,e2,fun i hi=>(h2 i hi).trans (h1 i hi)⟩,fun g hn hg=>(k.only g hn (Nat.lt_of_lt_of_le hg h.size)).trans (h.only g hn hg),h.below.trans k.below,Nat.le_trans h.size k.size⟩
theorem Wl.store {l':List Lz}{y:Value}(h:Wl B w b ov l)(hB:B<=w.heap.size)(hb:Below w.heap.size w w')(ho:Own 131 w.heap.size w' y l') :
 w'.frozen? ⟨b,ov,Option.none⟩=false/\(∃u,w'.cell? ⟨b,ov,Option.none⟩=some u)/\Hid (cS B w b ov l' (w'.setCell ⟨b,ov,Option.none⟩ y)):=by
 obtain⟨h0,cs,T,y0,h1,h2,h3⟩:=h;have hv:w'.heap[b]? =_:=(hb.block b (ae h1)).trans h1;have aC:ov<cs.size:=(Array.getElem?_eq_some_iff.1 h2).1;refine⟨aj hv,⟨_,by rw[cell_of_row w' b ov _ _ (0,0) hv,h2]⟩,⟨⟨h0,cs.setIfInBounds ov y,T,y,ai b ov _ _ hv,by simp[aC],cO (Own.set ho (ae h1)) hB⟩,fun cs' T' e=> ?_,fun g hn hg=>(Below.heap_setCell _ _ _ _ hn).trans (hb.block g hg),(hb.mono hB).setCell (p:=⟨b,ov,Option.none⟩) h0 _,Nat.le_trans hb.size (by simp)⟩⟩
 rw[h1] at e;cases e;refine⟨_,ai b ov _ _ hv,fun k hk=> ?_⟩
 simp[Ne.symm hk]
end
end Zl
namespace Zl
open Zw
variable {ov:Nat}
open Zq (ae aj ai)
open Zv (spot eL cP)
theorem il {B v:Nat}{l:List Lz}{w:World}(h:Wl B w v ov l)(hl:l.length<=1000)(key:Int) :
 Calls prog 91 #[.pointer (some ⟨v,ov,none⟩),.int .i64 key] w fun e w'=>e=.returned (.int .i64 (au l key))/\Below w.heap.size w w':=by
 obtain⟨p,c,c1,hr⟩:=h.cell;have oq:=hid (show au l key=spot (fun x=>x.key==key) l from rfl)
 generalize au l key=R at oq ⊢;have HR:=hid hr;have HB:=hid (Below.refl w.heap.size w);clear hr h;go_enter func91,ntmps91
 go_wp2;go_loop [5] (fun i=>∃j:Nat,j<=l.length/\i=.int .i64 (j:Int)/\Hid (∀i,i<j->(l.getD i z).key≠key)) (fun i=>l.length-(intOf i).toNat)
 case atStart=>exact ⟨0,by omega,rfl,fun i hi=>by omega⟩
 case round =>
  obtain⟨j,hj,rfl,hne⟩:=hrel;by_cases aC:j<l.length
  ·obtain ⟨b,o,rfl,k0,-⟩:=bj HR.out aC
   have bE:(j:Int)<(l.length:Int):=by omega
   by_cases hk:(l.getD j z).key=key
   ·have HE:=hid (show R=(j:Int) by rw[oq.out];exact eL _ z l j aC (fun i hi=>by simpa using hne.out i hi) (by simpa using hk))
    rw[hk] at k0;clear hne oq HR hk;go_wp2;go_ret;exact⟨by rw[HE.out];rfl,HB.out⟩
   ·have HN:Hid (∀i,i<j+1->(l.getD i z).key≠key):=fun i hi=>by
     by_cases e:i<j
     ·exact hne.out i e
     ·rw [show i=j by omega];exact hk
    generalize(l.getD j z).key=y at k0 hk;clear hne oq HR;go_wp2;go_round
    case rel=>exact ⟨j+1,by omega,by go_num,HN⟩
    case measure=>simp only[intOf];omega
  ·have HE:=hid (show R= -1 by rw[oq.out];exact cP _ z l (fun i hi=>by simpa using hne.out i (by omega)))
   have bE:¬(j:Int)<(l.length:Int):=by omega
   clear hne oq HR;go_wp2;go_ret;exact⟨by rw[HE.out];rfl,HB.out⟩
end Zl
namespace Zl
open Zw
variable {ov:Nat}
open Zq (ae aj ai)
theorem aA {l:List Lz}{j:Nat}(h:j<l.length):l.take (j+1)=l.take j++[l.getD j z]:=by
 rw[List.take_add_one];simp[List.getD,h]
theorem vr {l:List Lz}{i j:Nat}(h:j<l.length)(e:j=i):(l.take (j+1)).eraseIdx i=(l.take j).eraseIdx i:=by
 subst e;have hl:(l.take j).length=j:=by simp;omega
 rw[aA h,List.eraseIdx_append_of_length_le (by omega),hl,Nat.sub_self,List.eraseIdx_of_length_le (l:=l.take j) (by omega)]
 simp
theorem rU {l:List Lz}{i j:Nat}(h:j<l.length)(e:j≠i):(l.take (j+1)).eraseIdx i=(l.take j).eraseIdx i++[l.getD j z]:=by
 have hl:(l.take j).length=j:=by simp;omega
 rw[aA h];by_cases og:i<j
 ·rw [List.eraseIdx_append_of_lt_length (by omega)]
 ·rw [List.eraseIdx_append_of_length_le (by omega),hl,List.eraseIdx_of_length_le (l:=l.take j) (by omega),List.eraseIdx_of_length_le (by simp;omega)]
theorem xU {B v:Nat}{l:List Lz}{w:World}(h:Wl B w v ov l)(hB:B<=w.heap.size)(hl:l.length<=1000)(i:Nat) :
 Calls prog 168 #[.pointer (some ⟨v,ov,none⟩),.int .i64 (i:Int)] w fun e w'=>e=.returned (.tuple #[])/\cS B w v ov (l.eraseIdx i) w':=by
 have HV:=hid h;have eF:=hid hB;clear h hB;go_enter func168,ntmps168
 go_wp2;go_loopw [4,5] (fun y k wr=>∃(j:Nat) (p:Option Addr) (c n:Nat),j<=l.length/\k=.int .i64 (j:Int)/\y=.slice p n c/\Hid (Own 131 w.heap.size wr y ((l.take j).eraseIdx i))/\Hid (((l.take j).eraseIdx i).length=n)/\Below w.heap.size w wr) (fun _ k _=>l.length-(intOf k).toNat)
 case atStart=>exact ⟨0,none,0,0,by omega,rfl,rfl,Own.none _ _ _,hid (by simp),Below.refl _ _⟩
 case round =>
  obtain⟨j,p,c,n,hj,rfl,rfl,ax,hn,aW⟩:=hrel;obtain⟨q,cq,c1,hr⟩:=(HV.out.below aW).cell;have HR:=hid hr;have cA:=hid aW;clear hr aW;by_cases aC:j<l.length
  ·obtain ⟨b,o,rfl,k0,k1,k2,k3,k4⟩:=bj HR.out aC
   have bE:(j:Int)<(l.length:Int):=by omega
   by_cases hk:j=i
   ·have HE:=hid (vr aC hk)
    have Pr:((j:Int) != (i:Int))=false:=by simp[hk]
    clear k0 k1 k2 k3 k4 HR hk;go_wp2;go_roundw
    case rel=>exact ⟨j+1,p,c,n,by omega,by go_num,rfl,by rw[HE.out];exact ax,by rw[HE.out];exact hn,cA.out⟩
    case measure=>simp [intOf];omega
   ·have HE:=hid (rU aC hk)
    have Pr:((j:Int) != (i:Int))=true:=by simp;omega
    have qE:((l.take j).eraseIdx i).length<=1000:=Nat.le_trans (List.eraseIdx_sublist _ _).length_le (by simp;omega)
    have jJ:n<=1000:=hn.out ▸ qE;clear qE;generalize hx:l.getD j z=x at k0 k1 k2 k3 k4 HE;generalize(l.take j).eraseIdx i=L at *;obtain⟨xk,xg,xa,xs,xt⟩:=x;simp only at k0 k1 k2 k3 k4;clear HR hk hx;go_wp2_with (at_builtin;refine cW rfl (.tmp 18) (.tmp 26) rfl w wr (.slice p n c) rfl L n hn.out ax.out cA.out (Below.refl _ _) wr.heap.size ⟨xk,xg,xa,xs,xt⟩ rfl (heap_alloc_new _ _) (by omega) ?_;intro p4 c4 w4 R4 B4)
    go_roundw
    case rel=>exact ⟨j+1,p4,c4,n+1,by omega,by go_num,rfl,by rw[HE.out];exact R4,hid (by rw[HE.out];simp[hn.out]),B4⟩
    case measure=>simp [intOf];omega
  ·have bE:¬(j:Int)<(l.length:Int):=by omega
   have HO:=hid (show Own 131 w.heap.size wr (.slice p n c) (l.eraseIdx i) by have:=ax.out;rwa [List.take_of_length_le (by omega)] at this)
   obtain⟨f0,⟨u0,d0⟩,D⟩:=HV.out.store eF.out cA.out HO.out;clear HR ax hn HO HV;go_wp2;go_end0
   exact⟨rfl,D.out⟩
end Zl
namespace Zw
open Zq (ae aj ai)
theorem aA {l:List Lz}{j:Nat}(h:j<l.length):l.take (j+1)=l.take j++[l.getD j z]:=by
 rw[List.take_add_one];simp[List.getD,h]
end Zw
end Go.Proofs.YtbgdlokegibkmaaGreat
