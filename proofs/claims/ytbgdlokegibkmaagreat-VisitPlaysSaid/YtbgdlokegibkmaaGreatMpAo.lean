/-
  A part of the proof of VisitPlays.
-/
import Derived.Test.YtbgdlokegibkmaaGreatMpAn
import Derived.Test.YtbgdlokegibkmaaGreatMpAi
namespace Go.Proofs.YtbgdlokegibkmaaGreat
open Tryz
namespace Zv
open Zx (Rw Tb aq eh iY di cy fI dC)
open Zr (dh add sub mul jN jm dD dM dN kC)
theorem eX {t:Tb}(h:eh t=true):∀i j,i<j->j<t.rows.length->(t.rows.getD i aq).key<(t.rows.getD j aq).key:=by
 simp only[eh,Bool.and_eq_true] at h;have h3:=h.2;rw[dC,List.all_eq_true] at h3;have step:∀j,0<j->j<t.rows.length->(t.rows.getD (j-1) aq).key<(t.rows.getD j aq).key:=fun j h0 hj=>by
  have h4:=h3 j (List.mem_range.2 hj);simp only[Zx.iZ,Bool.and_eq_true,Bool.or_eq_true,beq_iff_eq,decide_eq_true_eq] at h4;rcases h4.2 with h5 | h5
  ·omega
  ·exact h5
 intro i j og hj
 induction j with
 | zero=>omega
 | succ j ih =>
   have h1:=step (j+1) (by omega) hj
   rw[Nat.add_sub_cancel] at h1;by_cases e:i=j
   ·rw [e];exact h1
   ·exact Int.lt_trans (ih (by omega) (by omega)) h1
open Zx (Rw Tb aq eh iY di cy dC)
def Up (l:List Rw):Prop:=l.Pairwise fun a b=>a.key<b.key
def Ei (l:List (Int×Int)):Prop:=l.Pairwise fun a b=>a.1<b.1
structure cI (n:Nat)(t:Tb):Prop where
 dJ:kz n t
 up:Up t.rows
 J9:∀r∈t.rows,Ei r.out
theorem Iu (r:Rw):∀(l:List Rw)(s:List Rw×Bool),Up s.1->Up l->(∀x∈s.1,∀y∈l,x.key<y.key)->(s.2=false->∀x∈s.1,x.key<r.key) ->
 Up (l.foldl (cN r) s).1/\((l.foldl (cN r) s).2=false->∀x∈(l.foldl (cN r) s).1,x.key<r.key)
 | [],s,h1,_,_,h4=>⟨h1,h4⟩
 | x :: l,(a,b),h1,h2,h3,h4=>by
   obtain⟨h2a,h2b⟩:=List.pairwise_cons.1 h2;have e3:∀y∈a,y.key<x.key:=fun y hy=>h3 y hy x List.mem_cons_self
   have e4:∀y∈a,∀z∈l,y.key<z.key:=fun y hy z hz=>h3 y hy z (List.mem_cons_of_mem _ hz)
   rw[List.foldl_cons];have ha:Up (if b=false/\r.key<=x.key then a++[r] else a):=by
    split
    ·rename_i hb
     exact List.pairwise_append.2 ⟨h1,List.pairwise_singleton _ _,fun y hy z hz=>by rw[List.mem_singleton.1 hz];exact h4 hb.1 y hy⟩
    ·exact h1
   have hm:∀y∈(if b=false/\r.key<=x.key then a++[r] else a),y∈a∨y=r/\r.key<=x.key:=fun y hy=>by
    split at hy
    ·rename_i hb
     rcases List.mem_append.1 hy with h | h
     ·exact .inl h
     ·exact .inr ⟨List.mem_singleton.1 h,hb.2⟩
    ·exact .inl hy
   refine Iu r l _ ?_ h2b ?_ ?_
   ·refine List.pairwise_append.2 ⟨ha,?_,fun y hy z hz=> ?_⟩
    ·split
     ·exact List.Pairwise.nil
     ·exact List.pairwise_singleton _ _
    ·split at hz
     ·cases hz
     ·rename_i hne
      rw[List.mem_singleton.1 hz];rcases hm y hy with h | ⟨h,h'⟩
      ·exact e3 y h
      ·rw [h];omega
   ·intro y hy z hz
    have hxz:=h2a z hz;rcases List.mem_append.1 hy with h | h
    ·rcases hm y h with h | ⟨h,h'⟩
     ·exact e4 y h z hz
     ·rw [h];omega
    ·split at h
     ·cases h
     ·rw [List.mem_singleton.1 h];exact hxz
   ·intro hb0 y hy
    have hb:(b||decide (r.key<=x.key))=false:=hb0
    simp only[Bool.or_eq_false_iff,decide_eq_false_iff_not] at hb;rcases List.mem_append.1 hy with h | h
    ·rcases hm y h with h | ⟨h,h'⟩
     ·exact h4 hb.1 y h
     ·omega
    ·split at h
     ·cases h
     ·rw [List.mem_singleton.1 h];omega
theorem sJ {l:List Rw}(h:Up l)(r:Rw):Up (dr l r):=by
 have k:=Iu r l ([],false) List.Pairwise.nil h (fun x hx=>by cases hx) (fun _ x hx=>by cases hx)
 unfold dr;split
 ·exact k.1
 ·rename_i hb
  exact List.pairwise_append.2 ⟨k.1,List.pairwise_singleton _ _,fun y hy z hz=>by rw[List.mem_singleton.1 hz];exact k.2 (Bool.eq_false_iff.2 hb) y hy⟩
theorem Cy (r:Int×Int):∀(l:List (Int×Int))(s:List (Int×Int)×Bool),Ei s.1->Ei l->(∀y∈l,y.1≠r.1)->(∀x∈s.1,∀y∈l,x.1<y.1)->(s.2=false->∀x∈s.1,x.1<r.1) ->
 Ei (l.foldl (aZ r) s).1/\((l.foldl (aZ r) s).2=false->∀x∈(l.foldl (aZ r) s).1,x.1<r.1)
 | [],s,h1,_,_,_,h4=>⟨h1,h4⟩
 | x :: l,(a,b),h1,h2,h0,h3,h4=>by
   obtain⟨h2a,h2b⟩:=List.pairwise_cons.1 h2;have hx:=h0 x List.mem_cons_self;have e3:∀y∈a,y.1<x.1:=fun y hy=>h3 y hy x List.mem_cons_self
   have e4:∀y∈a,∀z∈l,y.1<z.1:=fun y hy z hz=>h3 y hy z (List.mem_cons_of_mem _ hz)
   rw[List.foldl_cons];have ha:Ei (if b=false/\r.1<x.1 then a++[r] else a):=by
    split
    ·rename_i hb
     exact List.pairwise_append.2 ⟨h1,List.pairwise_singleton _ _,fun y hy z hz=>by rw[List.mem_singleton.1 hz];exact h4 hb.1 y hy⟩
    ·exact h1
   have hm:∀y∈(if b=false/\r.1<x.1 then a++[r] else a),y∈a∨y=r/\r.1<x.1:=fun y hy=>by
    split at hy
    ·rename_i hb
     rcases List.mem_append.1 hy with h | h
     ·exact .inl h
     ·exact .inr ⟨List.mem_singleton.1 h,hb.2⟩
    ·exact .inl hy
   refine Cy r l _ ?_ h2b (fun y hy=>h0 y (List.mem_cons_of_mem _ hy)) ?_ ?_
   ·refine List.pairwise_append.2 ⟨ha,List.pairwise_singleton _ _,fun y hy z hz=> ?_⟩
    rw[List.mem_singleton.1 hz];rcases hm y hy with h | ⟨h,h'⟩
    ·exact e3 y h
    ·rw [h];exact h'
   ·intro y hy z hz
    have hxz:=h2a z hz;rcases List.mem_append.1 hy with h | h
    ·rcases hm y h with h | ⟨h,h'⟩
     ·exact e4 y h z hz
     ·rw [h];omega
    ·rw [List.mem_singleton.1 h];exact hxz
   ·intro hb0 y hy
    have hb:(b||decide (r.1<x.1))=false:=hb0
    simp only[Bool.or_eq_false_iff,decide_eq_false_iff_not] at hb;rcases List.mem_append.1 hy with h | h
    ·rcases hm y h with h | ⟨h,h'⟩
     ·exact h4 hb.1 y h
     ·omega
    ·rw [List.mem_singleton.1 h];omega
theorem NQ {l:List (Int×Int)}(h:Ei l){r:Int×Int}(h0:∀y∈l,y.1≠r.1):Ei (bL l r):=by
 have k:=Cy r l ([],false) List.Pairwise.nil h h0 (fun x hx=>by cases hx) (fun _ x hx=>by cases hx)
 unfold bL;split
 ·exact k.1
 ·rename_i hb
  exact List.pairwise_append.2 ⟨k.1,List.pairwise_singleton _ _,fun y hy z hz=>by rw[List.mem_singleton.1 hz];exact k.2 (Bool.eq_false_iff.2 hb) y hy⟩
theorem pR {t:Tb}(h:eh t=true):cI 0 t:=by
 refine⟨Ff h,List.pairwise_iff_getElem.2 fun i j hi hj og=> ?_,fun r hr=>List.pairwise_iff_getElem.2 fun i j hi hj og=> ?_⟩
 ·have:=eX h i j og hj
  simpa[List.getD,hi,hj] using this
 ·simp only[eh,Bool.and_eq_true] at h
  have h3:=h.2;rw[dC,List.all_eq_true] at h3;obtain⟨q,hq,e⟩:=List.mem_iff_getElem.1 hr;have h4:=h3 q (List.mem_range.2 hq);have e2:t.rows.getD q aq=r:=by simp[List.getD,hq,e]
  simp only[Zx.iZ,e2,Bool.and_eq_true,iY] at h4;have h5:=h4.1.2;rw[dC,List.all_eq_true] at h5;have step:∀j,0<j->j<r.out.length->(r.out.getD (j-1) (0,0)).1<(r.out.getD j (0,0)).1:=fun j h0 hj=>by
   have h6:=h5 j (List.mem_range.2 hj);simp only[di,Bool.and_eq_true,Bool.or_eq_true,beq_iff_eq,decide_eq_true_eq] at h6;rcases h6.2 with h7 | h7
   ·omega
   ·exact h7
  have key:∀d,i+1+d<r.out.length->(r.out.getD i (0,0)).1<(r.out.getD (i+1+d) (0,0)).1:=by
   intro d
   induction d with
   | zero=>intro hd;have:=step (i+1) (by omega) hd;simpa using this
   | succ d ih =>
     intro hd;have:=step (i+1+(d+1)) (by omega) hd
     rw[show i+1+(d+1)-1=i+1+d by omega] at this
     have:=ih (by omega)
     omega
  have:=key (j-i-1) (by omega)
  rw[show i+1+(j-i-1)=j by omega] at this
  simpa[List.getD,hi,hj] using this
theorem lG {n:Nat}{t:Tb}(h:cI n t)(key:Int):Ei (ah t key).out:=by
 rcases Ir t key with e | e
 ·rw [e];exact List.Pairwise.nil
 ·exact h.J9 _ e
theorem uK {t:Tb}(h:∀r∈t.rows,Ei r.out){r:Rw}(hr:Ei r.out):∀x∈dr t.rows r,Ei x.out:=fun x hx=>by
 rcases tO hx with e | e
 ·rw [e];exact hr
 ·exact h x e
theorem l8 {n:Nat}{t:Tb}(h:cI n t)(now:Int)(f:Cf):cI n (dc t now f) :=
 ⟨pP h.dJ now f,List.Pairwise.sublist List.filter_sublist h.up,fun r hr=>h.J9 r (oG hr)⟩
theorem Ka {n:Nat}{t:Tb}(h:cI n t){key now:Int}(hk:bC key)(hn:bC now)(f:Cf):cI (n+1) (bV t key now f).1:=by
 refine⟨J7 h.dJ hk hn f,?_,?_⟩
 all_goals
  unfold bV;split
  ·first | exact h.up | exact h.J9
  ·split
   ·first | exact sJ h.up _ | exact uK h.J9 (lG h key)
   ·split
    ·first | exact h.up | exact h.J9
    ·first | exact sJ (l8 h now f).up _ | exact uK (l8 h now f).J9 (lG (l8 h now f) key)
theorem Cz {n:Nat}{t:Tb}(h:cI n t){key:Int}(hk:bC key)(node spent:Int):cI (n+1) (settle t key node spent).1:=by
 refine⟨Cv h.dJ hk node spent,?_,?_⟩
 all_goals
  unfold settle;split
 ·exact sJ h.up _
 ·exact h.up
 ·exact uK h.J9 (List.Pairwise.sublist (List.eraseIdx_sublist _ _) (lG h key))
 ·exact h.J9
theorem CC {l:List (Int×Int)}{node:Int}(h:cF l node<0):∀y∈l,y.1≠node:=by
 rcases bA (fun x:Int×Int=>x.1==node) (0,0) l with ⟨-,h2⟩ | ⟨j,h1,-⟩
 ·intro y hy
  obtain⟨i,hi,e⟩:=List.mem_iff_getElem.1 hy;have h3:=h2 i hi;have e2:l.getD i (0,0)=y:=by simp[List.getD,hi,e]
  rw[e2] at h3;simpa using h3
 ·unfold cF at h
  omega
theorem Fj {n:Nat}{t:Tb}(h:cI n t){key:Int}(hk:bC key)(node aF:Int):cI (n+1) (aQ t key node aF).1:=by
 refine⟨Fh h.dJ hk node aF,?_,?_⟩
 all_goals
  unfold aQ;split
 ·exact sJ h.up _
 ·exact h.up
 ·rename_i hm
  simp only[fe,Bool.and_eq_true,decide_eq_true_eq] at hm;exact uK h.J9 (NQ (lG h key) (CC hm.2))
 ·exact h.J9
theorem Al (r:Rw):∀(A a:List Rw),(∀x∈A,x.key<r.key)->A.foldl (cN r) (a,false)=(a++A,false)
 | [],a,_=>by simp
 | x :: A,a,h=>by
   have hx:=h x List.mem_cons_self;have e:cN r (a,false) x=(a++[x],false):=by
    simp only[cN,Bool.false_or];rw[if_neg (by omega),if_neg (by omega),decide_eq_false (by omega)]
   rw[List.foldl_cons,e,Al r A _ fun y hy=>h y (List.mem_cons_of_mem _ hy)]
   simp
theorem Am (r:Rw):∀(B a:List Rw),(∀x∈B,r.key<x.key)->B.foldl (cN r) (a,true)=(a++B,true)
 | [],a,_=>by simp
 | x :: B,a,h=>by
   have hx:=h x List.mem_cons_self;have e:cN r (a,true) x=(a++[x],true):=by
    simp only[cN,Bool.true_or];rw[if_neg (by simp),if_neg (by omega)]
   rw[List.foldl_cons,e,Am r B _ fun y hy=>h y (List.mem_cons_of_mem _ hy)]
   simp
theorem tQ {A B:List Rw}{r:Rw}(hA:∀x∈A,x.key<r.key)(hB:∀x∈B,r.key<x.key):dr (A++B) r=A++r :: B:=by
 have e:gj r (A++B)=B.foldl (cN r) (A,false):=by
  unfold gj;rw[List.foldl_append,Al r A [] hA];rfl
 unfold dr;rw[e];cases B with
 | nil=>simp
 | cons y B =>
   have hy:=hB y List.mem_cons_self;have e:cN r (A,false) y=(A++[r,y],true):=by
    simp only[cN,Bool.false_or,true_and];rw[if_pos (by omega),if_neg (by omega),decide_eq_true (by omega)]
    simp
   rw[List.foldl_cons,e,Am r B _ fun z hz=>hB z (List.mem_cons_of_mem _ hz)]
   simp
theorem pS {A B:List Rw}{r y:Rw}(hA:∀x∈A,x.key<r.key)(he:y.key=r.key)(hB:∀x∈B,r.key<x.key):dr (A++y :: B) r=A++r :: B:=by
 have e:cN r (A,false) y=(A++[r],true):=by
  simp only[cN,Bool.false_or,true_and];rw[if_pos (by omega),if_pos he,decide_eq_true (by omega),List.append_nil]
 unfold dr gj;rw[List.foldl_append,Al r A [] hA,List.nil_append,List.foldl_cons,e,Am r B _ hB];simp
theorem CF (r:Int×Int):∀(A a:List (Int×Int)),(∀x∈A,x.1<r.1)->A.foldl (aZ r) (a,false)=(a++A,false)
 | [],a,_=>by simp
 | x :: A,a,h=>by
   have hx:=h x List.mem_cons_self;have e:aZ r (a,false) x=(a++[x],false):=by
    simp only[aZ,Bool.false_or];rw[if_neg (by omega),decide_eq_false (by omega)]
   rw[List.foldl_cons,e,CF r A _ fun y hy=>h y (List.mem_cons_of_mem _ hy)]
   simp
theorem CG (r:Int×Int):∀(B a:List (Int×Int)),B.foldl (aZ r) (a,true)=(a++B,true)
 | [],a=>by simp
 | x :: B,a=>by
   have e:aZ r (a,true) x=(a++[x],true):=by
    simp only[aZ,Bool.true_or];rw[if_neg (by simp)]
   rw[List.foldl_cons,e,CG r B _];simp
theorem xH {A B:List (Int×Int)}{r:Int×Int}(hA:∀x∈A,x.1<r.1)(hB:∀x∈B,r.1<x.1):bL (A++B) r=A++r :: B:=by
 have e:dI r (A++B)=B.foldl (aZ r) (A,false):=by
  unfold dI;rw[List.foldl_append,CF r A [] hA];rfl
 unfold bL;rw[e];cases B with
 | nil=>simp
 | cons y B =>
   have hy:=hB y List.mem_cons_self;have e:aZ r (A,false) y=(A++[r,y],true):=by
    simp only[aZ,Bool.false_or,true_and];rw[if_pos hy,decide_eq_true hy];simp
   rw[List.foldl_cons,e,CG r B _];simp
open Zx (Rw Tb aq eh)
theorem CH {α:Type}(f:α->Int):∀(l:List α)(lo hi:Int),(l.Pairwise fun a b=>f a<f b)->(∀x∈l,lo<=f x/\f x<=hi)->lo<=hi+1->(l.length:Int)<=hi-lo+1
 | [],lo,hi,_,_,h=>by simp;omega
 | a :: l,lo,hi,h,hb,hl=>by
   obtain⟨h1,h2⟩:=List.pairwise_cons.1 h;have ha:=hb a List.mem_cons_self;have:=CH f l (f a+1) hi h2 (fun x hx=>by have:=h1 x hx;have:=hb x (List.mem_cons_of_mem _ hx);omega) (by omega)
   simp only[List.length_cons,Int.natCast_add,Int.natCast_one];omega
theorem QF {l:List (Int×Int)}(h:Ei l)(hn:∀x∈l,0<=x.1/\x.1<=63):l.length<=64:=by
 have:=CH (fun x:Int×Int=>x.1) l 0 63 h hn (by omega)
 omega
theorem CI:∀(a m:List Int),(a.Pairwise (·<·))->(∀x∈a,x∈m)->a.length<=m.length
 | [],m,_,_=>Nat.zero_le _
 | x :: a,m,h,hs=>by
   obtain⟨h1,h2⟩:=List.pairwise_cons.1 h;obtain⟨A,B,rfl⟩:=List.append_of_mem (hs x List.mem_cons_self);have:=CI a (A++B) h2 fun y hy=>by
    have h3:=hs y (List.mem_cons_of_mem _ hy);have h4:=h1 y hy;simp only[List.mem_append,List.mem_cons] at h3 ⊢;rcases h3 with h3 | h3 | h3
    ·exact .inl h3
    ·omega
    ·exact .inr h3
   simp only[List.length_append,List.length_cons] at this ⊢;omega
theorem Fl (k:Int):∀(l:List Rw),Up l->∃A M B,l=A++M++B/\(∀x∈A,x.key<k)/\(∀x∈B,k<x.key)/\(M=[]∨∃y,M=[y]/\y.key=k)
 | [],_=>⟨[],[],[],rfl,fun x h=>(by cases h),fun x h=>(by cases h),.inl rfl⟩
 | a :: l,h=>by
   obtain⟨h1,h2⟩:=List.pairwise_cons.1 h;rcases Int.lt_trichotomy a.key k with h3 | h3 | h3
   ·obtain ⟨A,M,B,e,hA,hB,hM⟩:=Fl k l h2
    refine⟨a :: A,M,B,by rw[e];rfl,fun x hx=> ?_,hB,hM⟩
    rcases List.mem_cons.1 hx with rfl | hx
    ·exact h3
    ·exact hA x hx
   ·exact ⟨[],[a],l,rfl,fun x h=>(by cases h),fun x hx=>by have:=h1 x hx;omega,.inr ⟨a,rfl,h3⟩⟩
   ·refine ⟨[],[],a :: l,rfl,fun x h=>(by cases h),fun x hx=> ?_,.inl rfl⟩
    rcases List.mem_cons.1 hx with rfl | hx
    ·exact h3
    ·have:=h1 x hx;omega
theorem uL {l:List Rw}(h:Up l)(r x:Rw):x∈dr l r↔x=r∨(x∈l/\x.key≠r.key):=by
 obtain⟨A,M,B,rfl,hA,hB,hM⟩:=Fl r.key l h;rcases hM with rfl | ⟨y,rfl,hy⟩
 ·rw [List.append_nil,tQ hA hB]
  simp only[List.mem_append,List.mem_cons]
  constructor
  ·rintro (h | h | h)
   ·exact .inr ⟨.inl h,by have:=hA x h;omega⟩
   ·exact .inl h
   ·exact .inr ⟨.inr h,by have:=hB x h;omega⟩
  ·rintro (h | ⟨h | h,-⟩)
   ·exact .inr (.inl h)
   ·exact .inl h
   ·exact .inr (.inr h)
 ·rw [List.append_assoc,List.singleton_append,pS hA hy hB]
  simp only[List.mem_append,List.mem_cons]
  constructor
  ·rintro (h | h | h)
   ·exact .inr ⟨.inl h,by have:=hA x h;omega⟩
   ·exact .inl h
   ·exact .inr ⟨.inr (.inr h),by have:=hB x h;omega⟩
  ·rintro (h | ⟨h | h | h,hn⟩)
   ·exact .inr (.inl h)
   ·exact .inl h
   ·exact absurd (h ▸ hy) hn
   ·exact .inr (.inr h)
theorem pn {l:List Rw}(h:Up l){r:Rw}(hf:∃x∈l,x.key=r.key):(dr l r).length=l.length:=by
 obtain⟨A,M,B,rfl,hA,hB,hM⟩:=Fl r.key l h;obtain⟨x,hx,hk⟩:=hf;rcases hM with rfl | ⟨y,rfl,hy⟩
 ·exfalso
  simp only[List.append_nil,List.mem_append] at hx;rcases hx with hx | hx
  ·have:=hA x hx;omega
  ·have:=hB x hx;omega
 ·rw [List.append_assoc,List.singleton_append,pS hA hy hB]
  simp
theorem sK {l:List Rw}{k:Int}:0<=au l k↔∃x∈l,x.key=k:=by
 rcases bA (fun r:Rw=>r.key==k) aq l with ⟨h1,h2⟩ | ⟨j,h1,h2,h3,-⟩
 ·constructor
  ·intro h
   unfold au at h;omega
  ·rintro ⟨x,hx,hk⟩
   obtain⟨i,hi,e⟩:=List.mem_iff_getElem.1 hx;have:=h2 i hi;simp[List.getD,hi,e,hk] at this
 ·constructor
  ·intro _
   refine⟨l.getD j aq,by simp[List.getD,h2],by simpa using h3⟩
  ·intro _
   unfold au;omega
theorem yJ {l:List (Int×Int)}{k:Int}:0<=cF l k↔∃y∈l,y.1=k:=by
 rcases bA (fun y:Int×Int=>y.1==k) (0,0) l with ⟨h1,h2⟩ | ⟨j,h1,h2,h3,-⟩
 ·constructor
  ·intro h
   unfold cF at h;omega
  ·rintro ⟨x,hx,hk⟩
   obtain⟨i,hi,e⟩:=List.mem_iff_getElem.1 hx;have:=h2 i hi;simp[List.getD,hi,e,hk] at this
 ·constructor
  ·intro _
   refine⟨l.getD j (0,0),by simp[List.getD,h2],by simpa using h3⟩
  ·intro _
   unfold cF;omega
theorem oJ {t:Tb}(h:Up t.rows){x:Rw}(hx:x∈t.rows):ah t x.key=x:=by
 have h0:0<=au t.rows x.key:=sK.2 ⟨x,hx,rfl⟩;unfold ah;rw[if_neg (by omega)]
 rcases bA (fun r:Rw=>r.key==x.key) aq t.rows with ⟨h1,-⟩ | ⟨j,h1,h2,h3,-⟩
 ·unfold au at h0;omega
 ·have e:(au t.rows x.key).toNat=j:=by unfold au;omega
  rw[e];have hk:(t.rows.getD j aq).key=x.key:=by simpa using h3
  obtain⟨i,hi,ei⟩:=List.mem_iff_getElem.1 hx;have ej:t.rows.getD j aq=t.rows[j]:=by simp[List.getD,h2]
  rw[ej] at hk ⊢;rcases Nat.lt_trichotomy i j with h4 | h4 | h4
  ·have:=List.pairwise_iff_getElem.1 h i j hi h2 h4
   rw[ei] at this;omega
  ·subst h4;exact ei
  ·have:=List.pairwise_iff_getElem.1 h j i h2 hi h4
   rw[ei] at this;omega
theorem gV (t:Tb)(k:Int):(ah t k).key=k:=by
 unfold ah;split
 ·rfl
 ·rename_i hn
  rcases bA (fun r:Rw=>r.key==k) aq t.rows with ⟨h1,-⟩ | ⟨j,h1,h2,h3,-⟩
  ·unfold au at hn;omega
  ·have e:(au t.rows k).toNat=j:=by unfold au;omega
   rw[e];simpa using h3
theorem vW {t:Tb}{k:Int}:et t k=true↔∃x∈t.rows,x.key=k:=by
 unfold et;rw[decide_eq_true_iff];exact sK
theorem kP {t:Tb}(h:Up t.rows){k node:Int}:has t k node=true↔∃x∈t.rows,x.key=k/\∃y∈x.out,y.1=node:=by
 unfold has;rw[Bool.and_eq_true,decide_eq_true_iff,vW]
 constructor
 ·rintro ⟨⟨x,hx,rfl⟩,h2⟩
  rw[oJ h hx] at h2;exact⟨x,hx,rfl,yJ.1 h2⟩
 ·rintro ⟨x,hx,rfl,h2⟩
  rw[oJ h hx];exact⟨⟨x,hx,rfl⟩,yJ.2 h2⟩
theorem sL {n:Nat}{t:Tb}(h:cI n t)(hr:t.rows.length<=16):cI 0 t :=
 ⟨⟨by omega,h.dJ.lo,h.dJ.hi,fun r hm=>by
   have hb:=h.dJ.rows r hm;exact⟨Nat.le_trans (QF (h.J9 r hm) fun x hx=>(hb.out x hx).1) (by omega),hb.lo,hb.hi,hb.mark,hb.key,hb.out⟩⟩,h.up,h.J9⟩
theorem iu {t:Tb}(h:cI 0 t):t.rows.length<=16:=by have:=h.dJ.len;omega
theorem yK {t:Tb}(h:cI 0 t){key now:Int}(hk:bC key)(hn:bC now){f:Cf}(hf:f.aR<=16):cI 0 (bV t key now f).1:=by
 refine sL (Ka h hk hn f) ?_;have Sa:=iu h;unfold bV;split
 ·exact Sa
 ·split
  ·rename_i h1
   by_cases hp:0<=au t.rows key
   ·show (dr _ _).length<=16
    rw[pn h.up]
    ·exact Sa
    ·obtain ⟨x,hx,hk2⟩:=sK.1 hp
     exact⟨x,hx,by rw[hk2];exact(gV t key).symm⟩
   ·have:=nc t.rows (gZ t key now (aX f key).1 (aX f key).2)
    show(dr _ _).length<=16
    omega
  ·split
   ·exact Sa
   ·rename_i h3
    have:=nc (dc t now f).rows (gZ (dc t now f) key now (aX f key).1 (aX f key).2)
    show(dr _ _).length<=16
    omega
theorem Wp {t:Tb}(h:cI 0 t){key:Int}(hf:et t key=true){r:Rw}(hr:r.key=(ah t key).key):(setRow t r).rows.length<=16:=by
 have Sa:=iu h
 show(dr _ _).length<=16
 rw[pn h.up]
 ·exact Sa
 ·obtain ⟨x,hx,hk⟩:=vW.1 hf
  exact⟨x,hx,by rw[hr,gV,hk]⟩
theorem QG {t:Tb}(h:cI 0 t){key:Int}(hk:bC key)(node spent:Int):cI 0 (settle t key node spent).1:=by
 refine sL (Cz h hk node spent) ?_;unfold settle;split
 ·rename_i hh
  exact Wp h (by unfold has at hh;simp only[Bool.and_eq_true] at hh;exact hh.1) rfl
 ·exact iu h
theorem Fm {t:Tb}(h:cI 0 t){key:Int}(hk:bC key)(node aF:Int):cI 0 (aQ t key node aF).1:=by
 refine sL (Fj h hk node aF) ?_;unfold aQ;split
 ·rename_i hh
  exact Wp h (by simp only[fe,Bool.and_eq_true] at hh;exact hh.1.1.1.1) rfl
 ·exact iu h
theorem Ao {t:Tb}(h:Up t.rows){r:Rw}{k node:Int}(hk:k≠r.key):has (setRow t r) k node=has t k node:=by
 rw[Bool.eq_iff_iff,kP (show Up (setRow t r).rows from sJ h r),kP h]
 constructor
 ·rintro ⟨x,hx,rfl,hy⟩
  rcases(uL h r x).1 hx with rfl | ⟨h1,-⟩
  ·exact absurd rfl hk
  ·exact ⟨x,h1,rfl,hy⟩
 ·rintro ⟨x,hx,rfl,hy⟩
  exact⟨x,(uL h r x).2 (.inr ⟨hx,hk⟩),rfl,hy⟩
theorem mf {t:Tb}(h:Up t.rows){r:Rw}{node:Int}:has (setRow t r) r.key node=true↔∃y∈r.out,y.1=node:=by
 rw[kP (show Up (setRow t r).rows from sJ h r)]
 constructor
 ·rintro ⟨x,hx,he,hy⟩
  rcases(uL h r x).1 hx with rfl | ⟨-,h2⟩
  ·exact hy
  ·exact absurd he h2
 ·intro hy
  exact⟨r,(uL h r r).2 (.inl rfl),rfl,hy⟩
theorem Kb {t:Tb}(h:Up t.rows){k node now:Int}{f:Cf}(hh:has t k node=true):has (dc t now f) k node=true:=by
 obtain⟨x,hx,rfl,y,hy,hn⟩:=(kP h).1 hh;refine(kP (show Up (dc t now f).rows from List.Pairwise.sublist List.filter_sublist h)).2 ⟨x,?_,rfl,y,hy,hn⟩
 show x∈dU _ _ _ _
 unfold dU;refine List.mem_filter.2 ⟨hx,?_⟩;have:ia t.start x now f=false:=by
  unfold ia;have hl:¬x.out.length=0:=by
   intro e;rw[List.length_eq_zero_iff] at e;rw[e] at hy;cases hy
  simp[hl]
 rw[this];rfl
theorem CJ {t:Tb}(h:Up t.rows){k key node now R B:Int}(hh:has t k node=true):has (setRow t (gZ t key now R B)) k node=true:=by
 by_cases hk:k=key
 ·subst hk
  have e:(gZ t k now R B).key=k:=gV t k;have h2:=(mf h (r:=gZ t k now R B) (node:=node)).2 ?_
  ·rwa [e] at h2
  ·obtain ⟨x,hx,rfl,hy⟩:=(kP h).1 hh
   show ∃y∈(ah t x.key).out,y.1=node
   rw[oJ h hx];exact hy
 ·rw [Ao h (by rw[show (gZ t key now R B).key=key from gV t key];exact hk)]
  exact hh
theorem vX {t:Tb}(h:Up t.rows){k key node now:Int}{f:Cf}(hh:has t k node=true):has (bV t key now f).1 k node=true:=by
 unfold bV;split
 ·exact hh
 ·split
  ·exact CJ h hh
  ·split
   ·exact hh
   ·exact CJ (List.Pairwise.sublist List.filter_sublist h) (Kb h hh)
theorem Fo {t:Tb}(h:Up t.rows){k key node spent:Int}(hk:k≠key)(yM:Int):has (settle t key node spent).1 k yM=has t k yM:=by
 unfold settle;split
 ·exact Ao h (by show k≠(ah t key).key;rw[gV];exact hk)
 ·rfl
theorem NR (l:List (Int×Int))(x:Int×Int):∀y∈l,y∈bL l x:=by
 have key:∀(l:List (Int×Int)) (s:List (Int×Int)×Bool) (y:Int×Int),y∈s.1∨y∈l->y∈(l.foldl (aZ x) s).1:=by
  intro l
  induction l with
  | nil=>intro s y h;exact h.elim id fun h=>by cases h
  | cons z l ih =>
    intro s y h;refine ih _ y ?_;rcases h with h | h
    ·left
     simp only[aZ,List.mem_append]
     left
     split
     ·exact List.mem_append_left _ h
     ·exact h
    ·rcases List.mem_cons.1 h with rfl | h
     ·left
      simp[aZ]
     ·exact .inr h
 intro y hy;have:=key l ([],false) y (.inr hy);unfold bL dI;split
 ·exact this
 ·exact List.mem_append_left _ this
theorem Kc (l:List (Int×Int))(x:Int×Int):x∈bL l x:=by
 have key:∀(l:List (Int×Int)) (s:List (Int×Int)×Bool),(s.2=true->x∈s.1)->(l.foldl (aZ x) s).2=true->x∈(l.foldl (aZ x) s).1:=by
  intro l
  induction l with
  | nil=>intro s h h2;exact h h2
  | cons z l ih =>
    intro s h;refine ih _ fun h2=> ?_
    simp only[aZ,Bool.or_eq_true,decide_eq_true_iff] at h2 ⊢;cases hb:s.2
    ·rw [hb] at h2
     have h3:x.1<z.1:=by simpa using h2
     simp[h3]
    ·simp [h hb]
 unfold bL;split
 ·rename_i h
  exact key l ([],false) (fun h=>by cases h) h
 ·simp
theorem yN {t:Tb}(h:Up t.rows){k key node yM aF:Int}(hh:has t k node=true):has (aQ t key yM aF).1 k node=true:=by
 unfold aQ;split
 ·by_cases hk:k=key
  ·subst hk
   have e:(fY (ah t k) yM (bT (ah t k) aF)).key=k:=gV t k;have h2:=(mf h (r:=fY (ah t k) yM (bT (ah t k) aF)) (node:=node)).2 ?_
   ·rwa [e] at h2
   ·obtain ⟨x,hx,rfl,y,hy,hn⟩:=(kP h).1 hh
    refine⟨y,?_,hn⟩
    show y∈bL (ah t x.key).out _
    rw[oJ h hx];exact NR _ _ _ hy
  ·rw [Ao h (by show k≠(ah t key).key;rw[gV];exact hk)]
   exact hh
 ·exact hh
theorem CK {t:Tb}(h:Up t.rows){key node aF:Int}(hg:0<(aQ t key node aF).2):has (aQ t key node aF).1 key node=true:=by
 unfold aQ at hg ⊢;split at hg
 ·rename_i hm
  rw[if_pos hm];have e:(fY (ah t key) node (bT (ah t key) aF)).key=key:=gV t key;have h2:=(mf h (r:=fY (ah t key) node (bT (ah t key) aF)) (node:=node)).2 ⟨_,Kc _ _,rfl⟩;rwa [e] at h2
 ·exact absurd hg (by simp)
theorem vY {t:Tb}(h:cI 0 t)(node:Int):(held t node).length<=16:=by
 have:=j5 node t.rows t.rows.length;rw[List.take_length] at this;have:=iu h;unfold held;omega
end Zv
end Go.Proofs.YtbgdlokegibkmaaGreat
