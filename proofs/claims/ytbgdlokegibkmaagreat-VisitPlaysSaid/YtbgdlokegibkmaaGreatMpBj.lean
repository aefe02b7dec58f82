/-
  A part of the proof of VisitPlays.
-/
import Derived.Deep.RegionLaw
import Derived.Test.YtbgdlokegibkmaaGreatMpAo
set_option maxRecDepth 100000
set_option maxHeartbeats 2000000
namespace Go.Proofs.YtbgdlokegibkmaaGreat
open Go.RowKit
open Tryz
open Lib (hid)
namespace Zv
open Zx (Rw Tb aq ak af)
abbrev Rp:=Rw×(Option Addr×Nat)
def XH:Rp:=(aq,none,0)
def rA (w:World)(p:Option Addr)(cs:List Value):Prop:=cs=[]∨∃b o,p=some ⟨b,o,none⟩/\w.rangeAt b o cs
theorem nV {w w':World}{b o:Nat}{cs:List Value}(h:w.rangeAt b o cs)(hb:Below w.heap.size w w'):w'.rangeAt b o cs:=fun j v hv=>af (h j v hv) hb
theorem rA.on {w w':World}{p:Option Addr}{cs:List Value}(h:rA w p cs)(hb:Below w.heap.size w w'):rA w' p cs:=by
 rcases h with h | ⟨b,o,e,hc⟩
 ·exact .inl h
 ·exact .inr ⟨b,o,e,nV hc hb⟩
theorem gQ:∀(m:List Rp),(bp m).length=m.length*4
 | []=>rfl
 | x :: m=>by
   have e:bp (x :: m)=[.int .i64 x.1.key,.int .i64 x.1.ay,.int .i64 x.1.mark,.slice x.2.1 x.1.out.length (x.2.2+x.1.out.length)]++bp m:=by simp[bp]
   rw[e,List.length_append,gQ m];simp;omega
theorem lh (m n:List Rp):bp (m++n)=bp m++bp n:=by simp[bp]
theorem mB:∀(l:List (Int×Int)),(df l).length=l.length*2
 | []=>rfl
 | x :: l=>by
   have e:df (x :: l)=[.int .i64 x.1,.int .i64 x.2]++df l:=by simp[df]
   rw[e,List.length_append,mB l];simp;omega
theorem xO (m n:List (Int×Int)):df (m++n)=df m++df n:=by simp[df]
theorem wU (l:List (Int×Int)):∀u∈df l,u.oneCell'=true:=by
 intro u hu;simp only[df,List.mem_flatMap] at hu;obtain⟨s,_,hs⟩:=hu;simp at hs;rcases hs with rfl | rfl <;>rfl
theorem GM {w:World}{b o:Nat}{m:List Rp}(h:∀j (hj:j<m.length),w.cell? ⟨b,o+j*4,none⟩=some (.int .i64 m[j].1.key)/\w.cell? ⟨b,o+j*4+1,none⟩=some (.int .i64 m[j].1.ay)/\w.cell? ⟨b,o+j*4+2,none⟩=some (.int .i64 m[j].1.mark)/\w.cell? ⟨b,o+j*4+3,none⟩=some (.slice m[j].2.1 m[j].1.out.length (m[j].2.2+m[j].1.out.length))):w.rangeAt b o (bp m):=by
 intro i v hv;have hi:i<m.length*4:=by
  rw[<-gQ];exact(List.getElem?_eq_some_iff.1 hv).1
 have hj:i / 4<m.length:=by omega
 obtain⟨c0,c1,c2,c3⟩:=ox m (i / 4) hj;obtain⟨h0,h1,h2,h3⟩:=h (i / 4) hj;have hr:i=i / 4*4∨i=i / 4*4+1∨i=i / 4*4+2∨i=i / 4*4+3:=by omega
 generalize i / 4=q at *;rcases hr with rfl | rfl | rfl | rfl
 ·rw [c0] at hv;rw[<-hv];exact h0
 ·rw [c1] at hv;rw[<-hv,<-Nat.add_assoc];exact h1
 ·rw [c2] at hv;rw[<-hv,<-Nat.add_assoc];exact h2
 ·rw [c3] at hv;rw[<-hv,<-Nat.add_assoc];exact h3
theorem qi {w:World}{b o:Nat}{m:List Rp}(h:w.rangeAt b o (bp m)):∀j (hj:j<m.length),w.cell? ⟨b,o+j*4,none⟩=some (.int .i64 m[j].1.key)/\w.cell? ⟨b,o+j*4+1,none⟩=some (.int .i64 m[j].1.ay)/\w.cell? ⟨b,o+j*4+2,none⟩=some (.int .i64 m[j].1.mark)/\w.cell? ⟨b,o+j*4+3,none⟩=some (.slice m[j].2.1 m[j].1.out.length (m[j].2.2+m[j].1.out.length)):=by
 intro j hj;obtain⟨c0,c1,c2,c3⟩:=ox m j hj;exact⟨h _ _ c0,by rw[Nat.add_assoc];exact h _ _ c1,by rw[Nat.add_assoc];exact h _ _ c2,by rw[Nat.add_assoc];exact h _ _ c3⟩
theorem zw {w:World}{p:Option Addr}{l:List Rw}(h:ar w p l):∃m:List Rp,m.map (·.1)=l/\rA w p (bp m)/\(∀x∈m,ak w x.2.1 x.1.out)/\∀S,cz S w p l->∀x∈m,bq S w x.2.1 x.1.out:=by
 rcases h with rfl | ⟨b,o,rfl,hc⟩
 ·exact ⟨[],rfl,.inl rfl,(fun x hx=>by cases hx),fun _ _ x hx=>by cases hx⟩
 ·have hq:∀j,∃q:Option Addr×Nat,j<l.length->w.cell? ⟨b,o+j*4+3,none⟩=some (.slice q.1 (l.getD j aq).out.length (q.2+(l.getD j aq).out.length))/\ak w q.1 (l.getD j aq).out:=fun j=>by
   by_cases hj:j<l.length
   ·obtain ⟨-,-,-,p,c,h3,h4⟩:=hc j hj
    exact⟨(p,c),fun _=>⟨h3,h4⟩⟩
   ·exact ⟨(none,0),fun h=>absurd h hj⟩
  obtain⟨f,hf⟩:=Classical.axiomOfChoice hq;have hm:((List.range l.length).map fun j=>(l.getD j aq,f j)).map (·.1)=l:=by
   refine List.ext_getElem (by simp) fun i h1 h2=> ?_
   simp[List.getD,h2]
  refine⟨(List.range l.length).map fun j=>(l.getD j aq,f j),hm,.inr ⟨b,o,rfl,GM fun j hj=> ?_⟩,fun x hx=> ?_,fun S hS x hx=> ?_⟩
  ·have mG:j<l.length:=by simpa using hj
   obtain⟨h0,h1,h2,-⟩:=hc j mG;simp only[List.getElem_map,List.getElem_range];exact⟨h0,h1,h2,(hf j mG).1⟩
  ·simp only[List.mem_map,List.mem_range] at hx
   obtain⟨j,hj,rfl⟩:=hx;exact(hf j hj).2
  ·simp only[List.mem_map,List.mem_range] at hx
   obtain⟨j,hj,rfl⟩:=hx;rcases hS with hS | ⟨b',o',e,-,hS⟩
   ·rw [hS] at hj;cases hj
   ·simp only[Option.some.injEq,Addr.mk.injEq,and_true] at e
    obtain⟨rfl,rfl⟩:=e;obtain⟨-,-,-,p,c,h3,h4⟩:=hS j hj;have h5:=(hf j hj).1;rw[h3] at h5;simp only[Option.some.injEq,Value.slice.injEq,true_and] at h5;rw[<-h5.1];exact h4
theorem tq {w:World}{p:Option Addr}{m:List Rp}(h:rA w p (bp m))(hl:∀x∈m,ak w x.2.1 x.1.out):ar w p (m.map (·.1)):=by
 rcases h with h | ⟨b,o,rfl,hc⟩
 ·have:m.length*4=0:=by rw[<-gQ,h];rfl
  have:m=[]:=List.eq_nil_of_length_eq_zero (by omega)
  subst this;exact .inl rfl
 ·refine .inr ⟨b,o,rfl,fun j hj=> ?_⟩
  have mG:j<m.length:=by simpa using hj
  obtain⟨h0,h1,h2,h3⟩:=qi hc j mG;have e:(m.map (·.1)).getD j aq=m[j].1:=by simp[List.getD,mG]
  rw[e];exact⟨h0,h1,h2,m[j].2.1,m[j].2.2,h3,hl _ (List.getElem_mem mG)⟩
theorem Dy {w:World}{b o:Nat}{S:Nat->Prop}{m:List Rp}(h:w.rangeAt b o (bp m))(hb:S b)(hl:∀x∈m,bq S w x.2.1 x.1.out):cz S w (some ⟨b,o,none⟩) (m.map (·.1)):=by
 refine .inr ⟨b,o,rfl,hb,fun j hj=> ?_⟩
 have mG:j<m.length:=by simpa using hj
 obtain⟨h0,h1,h2,h3⟩:=qi h j mG;have e:(m.map (·.1)).getD j aq=m[j].1:=by simp[List.getD,mG]
 rw[e];exact⟨h0,h1,h2,m[j].2.1,m[j].2.2,h3,hl _ (List.getElem_mem mG)⟩
theorem GN {w:World}{p:Option Addr}{l:List (Int×Int)}(h:ak w p l):rA w p (df l):=by
 rcases h with rfl | ⟨b,o,rfl,hc⟩
 ·exact .inl rfl
 ·refine .inr ⟨b,o,rfl,fun i v hv=> ?_⟩
  have hi:i<l.length*2:=by
   rw[<-mB];exact(List.getElem?_eq_some_iff.1 hv).1
  have hj:i / 2<l.length:=by omega
  obtain⟨c0,c1⟩:=oF l (i / 2) hj;obtain⟨h0,h1⟩:=hc (i / 2) hj;have hr:i=i / 2*2∨i=i / 2*2+1:=by omega
  generalize i / 2=q at *;rcases hr with rfl | rfl
  ·rw [c0] at hv;rw[<-hv];exact h0
  ·rw [c1] at hv;rw[<-hv,<-Nat.add_assoc];exact h1
theorem GQ {w:World}{b o:Nat}{l:List (Int×Int)}(h:w.rangeAt b o (df l)):∀j,j<l.length->w.cell? ⟨b,o+j*2,none⟩=some (.int .i64 (l.getD j (0,0)).1)/\w.cell? ⟨b,o+j*2+1,none⟩=some (.int .i64 (l.getD j (0,0)).2):=fun j hj=>by
 obtain⟨c0,c1⟩:=oF l j hj;exact⟨h _ _ c0,by rw[Nat.add_assoc];exact h _ _ c1⟩
theorem jI {w:World}{b o:Nat}{A B:List Value}:w.rangeAt b o (A++B)↔w.rangeAt b o A/\w.rangeAt b (o+A.length) B:=by
 refine⟨fun h=>⟨fun j v hv=>h j v ?_,fun j v hv=> ?_⟩,fun⟨h1,h2⟩ j v hv=> ?_⟩
 ·rw [List.getElem?_append_left (List.getElem?_eq_some_iff.1 hv).1];exact hv
 ·have:=h (A.length+j) v (by rw[List.getElem?_append_right (by omega)];simpa using hv)
  rwa [<-Nat.add_assoc] at this
 ·by_cases hj:j<A.length
  ·rw [List.getElem?_append_left hj] at hv
   exact h1 j v hv
  ·rw [List.getElem?_append_right (by omega)] at hv
   have:=h2 (j-A.length) v hv;rwa [show o+A.length+(j-A.length)=o+j by omega] at this
theorem rA.left {w:World}{p:Option Addr}{A B:List Value}(h:rA w p (A++B)):rA w p A:=by
 rcases h with h | ⟨b,o,e,hc⟩
 ·exact .inl (List.append_eq_nil_iff.1 h).1
 ·exact .inr ⟨b,o,e,(jI.1 hc).1⟩
theorem nW (P:Program)(w:World)(dT sT ty elem:TypeId)(b o rB GU rC GV sz:Nat)(dp sp:Option Addr)(cs:List Value)
 (hu:P.underlying dT=some (.slice elem)) (hs:(P.info? elem).map (·.size)=some sz) (hn:cs.length=Nat.min rC rB*sz) (OK:rA w sp cs) (hd:cs=[]∨dp=some ⟨b,o,none⟩)
 (ht:w.there b o cs.length) (h1:∀v∈cs,v.oneCell'=true) :
 (Builtin.copy_ #[dT,sT] ty #[.slice dp rB GU,.slice sp rC GV]).run P w=.ok (goInt (Nat.min rC rB)) (w.setCells b o cs):=by
 cases hq:P.info? elem with
 | none=>simp [hq] at hs
 | some i =>
   have hi:i.size=sz:=by simpa[hq] using hs
   by_cases h0:cs=[]
   ·subst h0
    have YO:Nat.min rC rB*sz=0:=by rw[<-hn];rfl
    have hl:∀(x:Addr),(loadCells x 0).run P w=.ok #[] w:=fun x=>by simpa using run_loadCells_list (P:=P) w x [] (by simp)
    cases dp <;>cases sp <;>simp [Builtin.copy_,run_underlying hu,Builtin.lenOf,Builtin.firstCells,sizeOf,typeInfo,hq,hi,YO,storeCells,hl,World.setCells]
   ·rcases hd with hd | rfl
    ·exact absurd hd h0
    ·rcases OK with hd | ⟨sb,so,rfl,hc⟩
     ·exact absurd hd h0
     ·have hl:=run_loadCells_list (P:=P) w ⟨sb,so,none⟩ cs (fun j v hv=>by rw[Addr.add_mid];exact hc j v hv)
      have hst:=run_storeCells_cells (P:=P) b o cs 0 w (fun j hj=>by simpa using(ht j hj).1) (fun j hj=>by simpa using(ht j hj).2) h1
      rw[hn] at hl;simp[Builtin.copy_,run_underlying hu,Builtin.lenOf,Builtin.firstCells,sizeOf,typeInfo,hq,hi,hl,hst]
theorem iB {P:Program}{w:World}{ops:Array Oper}{rest:List Oper}{o:Oper}{a:Act}{Q:Exit->Act->World->Prop}(hgd:o.guard=none)(d s:Operand)(dT sT:TypeId)
 (ho:o.op=.call { callee:=.builtin .copy,args:= #[d,s],argTypes:= #[dT,sT] }) (elem:TypeId) (sz:Nat) (hu:P.underlying dT=some (.slice elem)) (hs:(P.info? elem).map (·.size)=some sz)
 (dp sp:Option Addr) (rB GU rC GV:Nat) (hd:a.eval d=.slice dp rB GU) (Qr:a.eval s=.slice sp rC GV)
 (b off:Nat) (cs:List Value) (hn:cs.length=Nat.min rC rB*sz) (OK:rA w sp cs) (Ro:cs=[]∨dp=some ⟨b,off,none⟩)
 (ht:w.there b off cs.length) (h1:∀v∈cs,v.oneCell'=true) (h:∀w',Hid (w'=w.setCells b off cs)->wpList P ops Q rest (a.put o.dst (goInt (Nat.min rC rB))) w') :
 wpList P ops Q (o :: rest) a w:=by
 refine wpList_plain hgd fun K hK=> ?_
 have hrun:=nW P w dT sT o.type elem b off rB GU rC GV sz dp sp cs hu hs hn OK Ro ht h1;unfold Oper.wp;simp[execOp,ho,resolve,invoke,builtin,hd,Qr,hrun,Result.andThen];exact hK _ _ (h _ rfl)
theorem jw {P:Program}{ops:Array Oper}{o:Oper}{a:Act}{w:World}{K:Act->World->Prop}{Q:Exit->Act->World->Prop}{E:Prop}(hgd:o.guard=none)(d s:Operand)(dT sT:TypeId)
 (ho:o.op=.call { callee:=.builtin .copy,args:= #[d,s],argTypes:= #[dT,sT] }) (elem:TypeId) (sz:Nat) (hu:P.underlying dT=some (.slice elem)) (hs:(P.info? elem).map (·.size)=some sz)
 (dp sp:Option Addr) (rB GU rC GV:Nat) (hd:a.eval d=.slice dp rB GU) (Qr:a.eval s=.slice sp rC GV)
 (b off:Nat) (cs:List Value) (hn:cs.length=Nat.min rC rB*sz) (OK:rA w sp cs) (Ro:cs=[]∨dp=some ⟨b,off,none⟩)
 (ht:w.there b off cs.length) (h1:∀v∈cs,v.oneCell'=true) (h:∀w',Hid (w'=w.setCells b off cs)->K (a.put o.dst (goInt (Nat.min rC rB))) w') :
 if Region.wanted o (yielded ops a.tmps)=true then Oper.wp P o a w K Q else E:=by
 have hw:Region.wanted o (yielded ops a.tmps)=true:=by simp[Region.wanted,hgd]
 rw[if_pos hw];have hrun:=nW P w dT sT o.type elem b off rB GU rC GV sz dp sp cs hu hs hn OK Ro ht h1;unfold Oper.wp;simp[execOp,ho,resolve,invoke,builtin,hd,Qr,hrun,Result.andThen];exact h _ rfl
theorem Dz (P:Program)(t e:TypeId)(sz:Nat)(ht:P.underlying t=some (.slice e))(hs:(P.info? e).map (·.size)=some sz)(p:Option Addr)(n c i:Nat)(h:i<=c)(w:World) :
 (Instr.slice t (.slice p n c) none (some (.int .i64 (i:Int))) none).run P w=.ok (.slice p i c) w:=by
 cases hq:P.info? e with
 | none=>simp [hq] at hs
 | some j =>
   have hi:j.size=sz:=by simpa[hq] using hs
   have h2:(i:Int)<=(c:Int):=by omega
   have e0:∀a:Addr,a.add 0=a:=fun a=>by
    obtain⟨b,o,sp⟩:=a;unfold Addr.add;split <;>simp_all
   have h3:¬c<i:=by omega
   simp[Instr.slice,run_underlying ht,Instr.sliceBounds,Instr.sliceBound,asIntOf,h3,sizeOf,typeInfo,hq,e0]
theorem lM (P:Program)(t e:TypeId)(sz:Nat)(ht:P.underlying t=some (.slice e))(hs:(P.info? e).map (·.size)=some sz)(p:Option Addr)(n c k:Nat)(x:Int)(hx:x=(k:Int))(h:k<=n)(hc:n<=c) :
 ∃q,(∀w,(Instr.slice t (.slice p n c) (some (.int .i64 x)) none none).run P w=.ok (.slice q (n-k) (c-k)) w)/\(n-k=0∨q=p.map (·.add (k*sz))):=by
 subst hx;cases hq:P.info? e with
 | none=>simp [hq] at hs
 | some j =>
   have hi:j.size=sz:=by simpa[hq] using hs
   have h2:(k:Int)<=(n:Int):=by omega
   have h3:¬n<k:=by omega
   refine⟨if c=k then p else p.map (·.add (k*sz)),fun w=> ?_,?_⟩
   ·simp [Instr.slice,run_underlying ht,Instr.sliceBounds,Instr.sliceBound,asIntOf,h3,sizeOf,typeInfo,hq,hi]
   ·by_cases e:c=k
    ·left;omega
    ·right;rw[if_neg e]
theorem iC {P:Program}{w:World}{ops:Array Oper}{rest:List Oper}{o:Oper}{a:Act}{Q:Exit->Act->World->Prop}(hg:o.guard=none)(l c:Operand)(t:TypeId)(bP:o.op=Op.makeSlice t l c)
 (e:TypeId) (i:TypeInfo) (z:Value) (sz:Nat) (h1:P.underlying t=some (.slice e)) (h2:P.info? e=some i) (h3:i.zero=some z) (h4:i.size=sz)
 (kl kc:IntKind) (L C:Int) (n:Nat) (hl:a.eval l=.int kl L) (hc:a.eval c=.int kc C) (hL:L=(n:Int)) (hC:C=(n:Int)) (b2:i.bytes*n<=281474976710656) (b3:n<=9223372036854775807)
 (hK:∀w',Below w.heap.size w w'->w.heap.size<w'.heap.size->w'.there w.heap.size 0 (n*sz)->wpList P ops Q rest (a.put o.dst (.slice (some ⟨w.heap.size,0,none⟩) n n)) w') :
 wpList P ops Q (o :: rest) a w:=by
 refine wpList_plain hg fun K hK'=> ?_
 subst hL hC h4;have hrun:=run_make (P:=P) w t e i z h1 h2 h3 kl kc n n (by omega) (by omega) (by omega) (by omega)
 simp only[Int.toNat_natCast] at hrun;unfold Oper.wp;simp[execOp,bP,hl,hc,hrun,Result.andThen];refine hK' _ _ (hK _ ((Below.refl _ _).alloc (Nat.le_refl _) _) (by simp) fun j hj=> ?_)
 have hs:=heap_alloc_new w (.cells (madeCells z.cells (n*i.size)) e);have hm:j<(madeCells z.cells (n*i.size)).size:=by rw[size_madeCells];exact hj
 refine⟨?_,?_⟩
 ·rw [Nat.zero_add,cell_of_row _ _ _ _ _ (0,0) hs,Array.getElem?_eq_getElem hm];rfl
 ·exact Zq.aj hs
structure rD (w0:World)(g M:Nat)(X:List Value)(u:World):Prop where
 aw:u.there g 0 M
 has:u.rangeAt g 0 X
 below:Below w0.heap.size w0 u
 ge:w0.heap.size<=g
theorem rD.sub {w0:World}{g M:Nat}{X:List Value}{u:World}(h:rD w0 g M X u)(o n:Nat)(hn:o+n<=M):u.there g o n:=fun j hj=>by
 have:=h.aw (o+j) (by omega)
 rwa [Nat.zero_add] at this
theorem rD.cell {w0:World}{g M:Nat}{X:List Value}{u:World}(h:rD w0 g M X u){o:Nat}(ho:o<M):∃z,u.cell? ⟨g,o,none⟩=some z/\u.frozen? ⟨g,o,none⟩=false:=by
 obtain⟨h1,h2⟩:=h.aw o ho;rw[Nat.zero_add] at h1 h2;obtain⟨z,hz⟩:=Option.isSome_iff_exists.1 h1;exact⟨z,hz,h2⟩
theorem rD.same {w0:World}{g M:Nat}{X:List Value}{u u':World}(h:rD w0 g M X u)(hb:Below u.heap.size u u'):rD w0 g M X u':=by
 refine⟨fun j hj=> ?_,nV h.has hb,h.below.trans (hb.mono h.below.size),h.ge⟩
 obtain⟨h1,h2⟩:=h.aw j hj;obtain⟨v,hv⟩:=Option.isSome_iff_exists.1 h1;have aC:=World.block_lt_of_cell? _ _ hv;refine⟨by rw[af hv hb];rfl,?_⟩
 rw[<-h2];exact hb.frozen (p:=⟨g,0+j,none⟩) aC
theorem qj {u u':World}(e:u'.heap=u.heap){b o n:Nat}(h:u.there b o n):u'.there b o n:=fun j hj=>by
 obtain⟨h1,h2⟩:=h j hj;refine⟨?_,?_⟩
 ·rw [<-h1];simp only[World.cell?,e]
 ·rw [<-h2];simp only[World.frozen?,e]
theorem wV {u u':World}(e:u'.heap=u.heap){p:Option Addr}{cs:List Value}(h:rA u p cs):rA u' p cs:=by
 rcases h with h | ⟨b,o,e2,h⟩
 ·exact .inl h
 ·refine .inr ⟨b,o,e2,fun j v hv=> ?_⟩
  rw[<-h j v hv];simp only[World.cell?,e]
theorem nX {B:Nat}{w0:World}:∀(cs:List Value)(b o:Nat)(w:World),Below B w0 w->B<=b->Below B w0 (w.setCells b o cs)
 | [],_,_,_,h,_=>h
 | v :: cs,b,o,_,h,hb=>nX cs b (o+1) _ (h.setCell hb v) hb
theorem rD.step {w0:World}{g M:Nat}{X:List Value}{u u':World}{cs:List Value}{o:Nat}(h:rD w0 g M X u)(e:u'=u.setCells g o cs)(ho:X.length=o)(hM:o+cs.length<=M):rD w0 g M (X++cs) u':=by
 subst e ho;have ht:=h.sub X.length cs.length hM;refine⟨World.there_setCells h.aw _ _ _,?_,nX _ _ _ _ h.below h.ge,h.ge⟩;rw[jI];refine⟨World.rangeAt_setCells_apart h.has _ _ _ (.inr (.inl (by omega))),?_⟩
 have:=World.rangeAt_setCells_same u g X.length cs ht;rwa [Nat.zero_add]
def GX (l:List Rw)(key:Int):Nat:=if au l key<0 then l.length else (au l key).toNat
theorem OL {l:List Rw}{key:Int}{j:Nat}(hj:j<l.length)(h:∀i,i<j->(l.getD i aq).key≠key)(h1:(l.getD j aq).key=key):GX l key=j:=by
 have e:au l key=(j:Int):=eL _ aq l j hj (fun i hi=>by simpa using h i hi) (by simpa using h1)
 unfold GX;rw[e,if_neg (by omega),Int.toNat_natCast]
theorem DA {l:List Rw}{key:Int}(h:∀i,i<l.length->(l.getD i aq).key≠key):GX l key=l.length:=by
 have e:au l key= -1:=cP _ aq l fun i hi=>by simpa using h i hi
 unfold GX;rw[e,if_pos (by omega)]
theorem oP (l:List Rw)(key:Int):(au l key= -1/\GX l key=l.length/\∀i,i<l.length->(l.getD i aq).key≠key)∨(∃j:Nat,au l key=(j:Int)/\GX l key=j/\j<l.length/\(l.getD j aq).key=key):=by
 rcases bA (fun r:Rw=>r.key==key) aq l with ⟨h1,h2⟩ | ⟨j,h1,h2,h3,h4⟩
 ·exact .inl ⟨h1,DA fun i hi=>by simpa using h2 i hi,fun i hi=>by simpa using h2 i hi⟩
 ·exact .inr ⟨j,h1,OL h2 (fun i hi=>by simpa using h4 i hi) (by simpa using h3),h2,by simpa using h3⟩
theorem AX (l:List Rw)(p:Option Addr)(c:Nat)(key:Int)(w:World)(h:ar w p l)(hl:l.length<=1000) :
 Calls prog 189 #[.slice p l.length c,.int .i64 key] w fun e w'=>e=.returned (.int .i64 (GX l key:Nat))/\w'=w:=by
 have GY:Hid (∀j:Nat,j<=l.length->(∀i,i<j->(l.getD i aq).key≠key)->(∃b o y,(j:Int)<(l.length:Int)/\p=some ⟨b,o,none⟩/\w.cell? ⟨b,o+j*4,none⟩=some (.int .i64 y)/\¬y=key/\Hid (∀i,i<j+1->(l.getD i aq).key≠key))∨
  (∃b o,(j:Int)<(l.length:Int)/\p=some ⟨b,o,none⟩/\w.cell? ⟨b,o+j*4,none⟩=some (.int .i64 key)/\Hid (GX l key=j))∨(j=l.length/\Hid (GX l key=j))):=by
  intro j hj hne;by_cases aC:j<l.length
  ·obtain ⟨b,o,rfl,k0,-⟩:=gT h aC
   by_cases hk:(l.getD j aq).key=key
   ·exact .inr (.inl ⟨b,o,by omega,rfl,by rw[<-hk];exact k0,OL aC hne hk⟩)
   ·refine .inl ⟨b,o,_,by omega,rfl,k0,hk,fun i hi=> ?_⟩
    by_cases e:i<j
    ·exact hne i e
    ·rw [show i=j by omega];exact hk
  ·have e:j=l.length:=by omega
   exact .inr (.inr ⟨e,by subst e;exact DA hne⟩)
 generalize GX l key=R at *;have Rs:=GY.out 0 (by omega) (fun i hi=>by omega)
 clear h;go_enter func189,ntmps189
 go_wp2;refine wp_scope_jumps 0 (fun a' w'=>w'=w/\∃(j:Nat) (u6 u7 u8 u9 u10 u11 u12 u13 u14 u15 u16 u17 u18 u19 u20 u21:Value),a'={ tmps:= #[.slice p l.length c,.int .i64 key,undef,undef,.int .i64 0,.int .i64 (j:Int),u6,u7,u8,u9,u10,u11,u12,u13,u14,u15,u16,u17,u18,u19,u20,u21],defers:=[] }/\j<=l.length/\Hid (∀i,i<j->(l.getD i aq).key≠key)) (fun a' _=>l.length-(intOf (a'.tmps.getD 5 undef)).toNat) rfl ?_ ?_
 ·rcases Rs with ⟨b,o,y,aC,rfl,k0,hk,hn⟩ | ⟨b,o,aC,rfl,k0,hR⟩ | ⟨hj,hR⟩
  ·simp only[Nat.zero_mul,Nat.add_zero] at k0
   go_wp2;go_step3
   go_wp2;go_step3
   exact⟨rfl,rfl,1,_,_,_,_,_,_,_,_,_,_,_,_,_,_,_,_,rfl,by omega,hn⟩
  ·simp only[Nat.zero_mul,Nat.add_zero] at k0
   go_wp2;go_step3
   go_wp2;simp only[Exit.jump];go_ret;exact⟨by rw[hR.out];rfl,rfl⟩
  ·have mG:¬(0:Int)<(l.length:Int):=by omega
   go_wp2;go_step3
   go_wp2;simp only[Exit.jump];go_ret;exact⟨by rw[hR.out];rfl,rfl⟩
 ·rintro a' w' ⟨rfl,j,u6,u7,u8,u9,u10,u11,u12,u13,u14,u15,u16,u17,u18,u19,u20,u21,rfl,hj,hne⟩
  rcases GY.out j hj hne.out with ⟨b,o,y,aC,rfl,k0,hk,hn⟩ | ⟨b,o,aC,rfl,k0,hR⟩ | ⟨hj,hR⟩
  ·clear GY Rs hne
   go_wp2;go_step3
   refine⟨rfl,⟨rfl,j+1,_,_,_,_,_,_,_,_,_,_,_,_,_,_,_,_,rfl,by omega,hn⟩,?_⟩
   simp[intOf];omega
  ·clear GY Rs hne
   go_wp2;simp only[Exit.jump];go_ret;exact⟨by rw[hR.out];rfl,rfl⟩
  ·clear GY Rs hne
   have mG:¬(j:Int)<(l.length:Int):=by omega
   go_wp2;simp only[Exit.jump];go_ret;exact⟨by rw[hR.out,hj];rfl,rfl⟩
open Zq (aI cO ae aj ai)
open Zr (dh add sub mul dD dM dN ft jE oC qL jN jm)
theorem OO (l:List Int)(x:Int):add (l++[x])=add [add l,x]:=by
 have h0:=jN l;have h1:=jm l;have hs:Zr.sum (l++[x])=Zr.sum l+dh x:=by
  have:=Zr.BB (l++[x]) l.length (by simp)
  rw[List.take_of_length_le (by simp),List.take_left'] at this
  ·rw [this];simp[List.getD]
  ·rfl
 have hl:=Zr.zF l;have hx:=dD x;unfold add at h0 h1 ⊢;rw[Zr.kC,hs];generalize Zr.sum l=S at *;have ht:Zr.mX=4611686018427387904:=rfl;rw[ht] at h0 h1 ⊢;rw[dN h0 h1];by_cases hS:4611686018427387904<S
 ·rw [if_pos hS]
  split <;>split <;>omega
 ·rw [if_neg hS]
theorem OP (x:Int):add [x]=dh x:=by
 have h0:=dD x;have h1:=dM x;unfold add;have:Zr.sum [x]=dh x:=by simp[Zr.sum]
 rw[this,if_neg (by unfold Zr.mX;omega)]
theorem GZ (r:Rw)(p:Option Addr)(c:Nat)(w:World)(h:ak w p r.out)(hl:r.out.length<=1000) :
 Calls prog 224 #[dE r p c] w fun e w'=>e=.returned (.int .i64 (mF r))/\Below w.heap.size w w':=by
 have HT:=hid (yc r);have HS:∀j,Hid (j<r.out.length->add (je r (j+1))=add [add (je r j),(r.out.getD j (0,0)).2]):=fun j hj=>by rw[vB r j hj,OO]
 have qB:add (je r 0)=dh r.ay:=by rw[<-OP];simp[je]
 generalize mF r=T at HT ⊢;generalize hF:(fun j=>add (je r j))=F
 have SB:∀j,add (je r j)=F j:=fun j=>by rw[<-hF]
 simp only[SB] at HT HS qB;clear hF SB;obtain⟨key,ay,mark,out⟩:=r;simp only[dE] at *;have M0:=hid (((Mem.start w).oH h).box #[.int .i64 key,.int .i64 ay,.int .i64 mark,.slice p out.length (c+out.length)] 80);obtain⟨r0,r1,r2,r3,-⟩:=dG (M0.out.boxes 0 _ _ _ rfl);have Ah:=ft ay;rw[<-qB] at Ah;clear h;go_enter func224,ntmps224
 go_wp2_with (go_at_call 100;(with_reducible refine(Ah _).mono ?_);rintro e w' ⟨rfl,rfl⟩)
 go_loopw [3,12] (fun s i wr=>∃j:Nat,j<=out.length/\i=.int .i64 (j:Int)/\s=.int .i64 (F j)/\Below (w.alloc (.cells #[.int .i64 key,.int .i64 ay,.int .i64 mark,.slice p out.length (c+out.length)] 80)).heap.size (w.alloc (.cells #[.int .i64 key,.int .i64 ay,.int .i64 mark,.slice p out.length (c+out.length)] 80)) wr) (fun _ i _=>out.length-(intOf i).toNat)
 case atStart=>exact ⟨0,by omega,rfl,by rw[qB],Below.refl _ _⟩
 case round =>
  obtain⟨j,hj,rfl,rfl,aW⟩:=hrel;have M1:=hid (M0.out.on aW);by_cases aC:j<out.length
  ·obtain ⟨b,o,rfl,x0,x1⟩:=cC (M1.out.dS 0 _ _ rfl) aC
   have bE:(j:Int)<(out.length:Int):=by omega
   have hs:=(HS j).out aC;generalize out.getD j (0,0)=y at *;obtain⟨y1,y2⟩:=y;simp only at x0 x1 hs;have M2:=hid (M1.out.box #[.int .i64 y1,.int .i64 y2] 141);have kW:=qL (F j) y2;rw[<-hs] at kW;have cA:=hid aW;clear HS HT hs r0 r1 r2 r3 Ah aW qB;go_wp2_with (go_at_call 88;(with_reducible refine(kW _ _ (by simp)).mono ?_);rintro e u ⟨rfl,rfl⟩)
   go_roundw
   case rel=>exact ⟨j+1,by omega,by go_num,rfl,(cA.out.alloc cA.out.size _).alloc (Nat.le_trans cA.out.size (by simp)) _⟩
   case measure=>simp only[intOf];omega
  ·obtain rfl:j=out.length:=by omega
   have hT:=HT.out;clear HS HT;go_wp2;go_ret;exact⟨by rw[hT];rfl,M1.out.below⟩
def jk (node:Int)(s:Int×Bool)(y:Int×Int):Int×Bool:=if y.1=node then (add [s.1,y.2],true) else s
def fP (node:Int)(l:List (Int×Int)):Int×Bool:=l.foldl (jk node) (0,false)
theorem DB (node:Int)(l:List (Int×Int))(j:Nat)(h:j<l.length):fP node (l.take (j+1))=jk node (fP node (l.take j)) (l.getD j (0,0)):=by
 have e:l.getD j (0,0)=l[j]:=by simp[List.getD,h]
 rw[e,fP,List.take_succ_eq_append_getElem h,List.foldl_append];rfl
theorem rE (node:Int):∀(l:List (Int×Int))(s:Int×Bool),(∀y∈l,y.1≠node)->l.foldl (jk node) s=s
 | [],_,_=>rfl
 | y :: l,s,h=>by
   have e:jk node s y=s:=if_neg (h y List.mem_cons_self);rw[List.foldl_cons,e];exact rE node l s fun z hz=>h z (List.mem_cons_of_mem _ hz)
theorem DC {l:List (Int×Int)}(hu:Ei l){j:Nat}(hj:j<l.length){node:Int}(hk:l[j].1=node):(∀y∈l.take j,y.1≠node)/\∀y∈l.drop (j+1),y.1≠node:=by
 have up:=List.pairwise_iff_getElem.1 hu;refine⟨fun y hy=> ?_,fun y hy=> ?_⟩
 ·obtain ⟨q,hq,rfl⟩:=List.mem_iff_getElem.1 hy
  simp only[List.length_take] at hq;rw[List.getElem_take];have:=up q j (by omega) hj (by omega)
  omega
 ·obtain ⟨q,hq,rfl⟩:=List.mem_iff_getElem.1 hy
  simp only[List.length_drop] at hq;rw[List.getElem_drop];have:=up j (j+1+q) hj (by omega) (by omega)
  omega
theorem DF {α:Type}(l:List α)(j:Nat)(hj:j<l.length):l=l.take j++l[j] :: l.drop (j+1):=by
 rw[<-List.drop_eq_getElem_cons hj,List.take_append_drop]
theorem wW {l:List (Int×Int)}(hu:Ei l)(node:Int)(hA:∀y∈l,1<=y.2/\y.2<=2147483648):(cF l node<0/\fP node l=(0,false))∨(0<=cF l node/\fP node l=((l.getD (cF l node).toNat (0,0)).2,true)):=by
 rcases bA (fun x:Int×Int=>x.1==node) (0,0) l with ⟨h1,h2⟩ | ⟨j,h1,h2,h3,-⟩
 ·refine .inl ⟨by unfold cF;omega,rE node l _ fun y hy=> ?_⟩
  obtain⟨i,hi,rfl⟩:=List.mem_iff_getElem.1 hy;have:=h2 i hi;simpa[List.getD,hi] using this
 ·have e:(cF l node).toNat=j:=by unfold cF;omega
  have hk:l[j].1=node:=by simpa[List.getD,h2] using h3
  obtain⟨a1,a2⟩:=DC hu h2 hk;refine .inr ⟨by unfold cF;omega,?_⟩
  have ha:=hA _ (List.getElem_mem h2);rw[e];have eg:l.getD j (0,0)=l[j]:=by simp[List.getD,h2]
  have e0:fP node l=jk node (0,false) l[j]:=by
   unfold fP
   conv=>lhs;rw[DF l j h2]
   rw[List.foldl_append,rE node _ _ a1,List.foldl_cons,rE node _ _ a2]
  rw[e0,eg,jk,if_pos hk];have e1:add [0,l[j].2]=l[j].2:=by
   unfold add;rw[Zr.kC,dN (x:=0) (by omega) (by omega),dN (x:=l[j].2) (by omega) (by omega)]
   rw[if_neg (show ¬Zr.mX<0+l[j].2 by unfold Zr.mX;omega)]
   omega
  simp only[e1]
theorem wX (r:Rw)(p:Option Addr)(c:Nat)(node:Int)(w:World)(h:ak w p r.out)(hl:r.out.length<=1000) :
 Calls prog 147 #[dE r p c,.int .i64 node] w fun e w'=>e=.returned (.tuple #[.int .i64 (fP node r.out).1,.bool (fP node r.out).2])/\Below w.heap.size w w':=by
 have HS:∀j,Hid (j<r.out.length->fP node (r.out.take (j+1))=jk node (fP node (r.out.take j)) (r.out.getD j (0,0))):=fun j hj=>DB node r.out j hj
 have HT:Hid (∀j,j=r.out.length->fP node r.out=fP node (r.out.take j)):=by rintro j rfl;rw[List.take_length]
 have qB:fP node (r.out.take 0)=(0,false):=by simp[fP]
 generalize fP node r.out=T at HT ⊢;generalize hF:(fun j=>fP node (r.out.take j))=F
 have SB:∀j,fP node (r.out.take j)=F j:=fun j=>by rw[<-hF]
 simp only[SB] at HT HS qB;clear hF SB;obtain⟨key,ay,mark,out⟩:=r;simp only[dE] at *;have M0:=hid (((Mem.start w).oH h).box #[.int .i64 key,.int .i64 ay,.int .i64 mark,.slice p out.length (c+out.length)] 80);obtain⟨r0,r1,r2,r3,-⟩:=dG (M0.out.boxes 0 _ _ _ rfl);clear h;go_enter func147,ntmps147
 go_wp2;go_loopw [6,7,13] (fun s b i wr=>∃j:Nat,j<=out.length/\i=.int .i64 (j:Int)/\s=.int .i64 (F j).1/\b=.bool (F j).2/\Below (w.alloc (.cells #[.int .i64 key,.int .i64 ay,.int .i64 mark,.slice p out.length (c+out.length)] 80)).heap.size (w.alloc (.cells #[.int .i64 key,.int .i64 ay,.int .i64 mark,.slice p out.length (c+out.length)] 80)) wr) (fun _ _ i _=>out.length-(intOf i).toNat)
 case atStart=>exact ⟨0,by omega,rfl,by rw[qB],by rw[qB],Below.refl _ _⟩
 case round =>
  obtain⟨j,hj,rfl,rfl,rfl,aW⟩:=hrel;have M1:=hid (M0.out.on aW);by_cases aC:j<out.length
  ·obtain ⟨b,o,rfl,x0,x1⟩:=cC (M1.out.dS 0 _ _ rfl) aC
   have bE:(j:Int)<(out.length:Int):=by omega
   have hs:=(HS j).out aC;generalize out.getD j (0,0)=y at *;obtain⟨y1,y2⟩:=y;simp only at x0 x1 hs;have M2:=hid (M1.out.box #[.int .i64 y1,.int .i64 y2] 141);generalize F j=f at *;generalize Mf:F (j+1)=f2 at *;have H2:=hid Mf;obtain⟨s,q⟩:=f;simp only[jk] at hs;have cA:=hid aW;clear HS HT r0 r1 r2 r3 aW qB Mf;by_cases hk:y1=node
   ·rw [if_pos hk] at hs
    have kW:=qL s y2;have SE:=hid hs;clear hs;go_wp2_with (go_at_call 88;(with_reducible refine(kW _ _ (by simp)).mono ?_);rintro e u ⟨rfl,rfl⟩)
    go_roundw
    case rel=>exact ⟨j+1,by omega,by go_num,by rw[H2.out,SE.out],by rw[H2.out,SE.out],(cA.out.alloc cA.out.size _).alloc (Nat.le_trans cA.out.size (by simp)) _⟩
    case measure=>simp only[intOf];omega
   ·rw [if_neg hk] at hs
    have SE:=hid hs;clear hs;go_wp2;go_roundw
    case rel=>exact ⟨j+1,by omega,by go_num,by rw[H2.out,SE.out],by rw[H2.out,SE.out],cA.out.alloc cA.out.size _⟩
    case measure=>simp only[intOf];omega
  ·obtain rfl:j=out.length:=by omega
   have hT:=HT.out _ rfl;clear HS HT;generalize F out.length=f at *;obtain⟨s,q⟩:=f;subst hT;go_wp2;refine bodyPost_ret (v:=.tuple #[.int .i64 s,.bool q]) (by simp[results,results147,go_sem]) rfl ⟨rfl,M1.out.below⟩
theorem G0 {l:List (Int×Int)}(hu:Ei l)(node:Int)(h:0<=cF l node):l.filter (fun y=>y.1 != node)=gI l (cF l node).toNat:=by
 rcases bA (fun x:Int×Int=>x.1==node) (0,0) l with ⟨h1,-⟩ | ⟨j,h1,h2,h3,-⟩
 ·unfold cF at h;omega
 ·have e:(cF l node).toNat=j:=by unfold cF;omega
  have hk:l[j].1=node:=by simpa[List.getD,h2] using h3
  obtain⟨a1,a2⟩:=DC hu h2 hk;rw[e,gI,List.eraseIdx_eq_take_drop_succ]
  conv=>lhs;rw[DF l j h2]
  rw[List.filter_append,List.filter_cons_of_neg (by simp[hk]),List.filter_eq_self.2 (fun y hy=>by simpa using a1 y hy),List.filter_eq_self.2 (fun y hy=>by simpa using a2 y hy)]
theorem DG (f:Int×Int->Bool)(l:List (Int×Int))(j:Nat)(h:j<l.length):(l.take (j+1)).filter f=(l.take j).filter f++(if f (l.getD j (0,0))=true then [l.getD j (0,0)] else []):=by
 have e:l.getD j (0,0)=l[j]:=by simp[List.getD,h]
 rw[e,List.take_succ_eq_append_getElem h,List.filter_append];by_cases h2:f l[j]=true
 ·rw [if_pos h2];simp[h2]
 ·rw [if_neg h2];simp[h2]
theorem pL (i:Int)(w:World):Calls prog 202 #[.int .i64 i] w fun e w'=>e=.returned (.bool (decide (0<=i/\i<=63)))/\w'=w:=by
 by_cases h:0<=i
 all_goals
  go_enter func202,ntmps202
  go_wp2;go_ret;exact⟨congrArg (fun b=>Ending.returned (.bool b)) (by rw[Bool.eq_iff_iff];simp;omega),rfl⟩
theorem j7.JE {B:Nat}{w:World}{v:Value}{l:List (Int×Int)}(h:j7 B w v l):∃p c,v=.slice p l.length (c+l.length)/\ak w p l/\bq (fun b=>B<=b) w p l:=by
 obtain⟨p,c,hv,hl⟩:=h.dS;refine⟨p,c,hv,hl,?_⟩;rcases hl with hl | ⟨b,o,e,hc⟩
 ·exact .inl hl
 ·refine .inr ⟨b,o,e,?_,hc⟩
  subst hv e;rcases h.2 with ⟨h0,-⟩ | ⟨g,cap,cur,h0,h1,-⟩
  ·simp at h0
  ·simp only[Value.slice.injEq,Option.some.injEq,Addr.mk.injEq] at h0
   rw[h0.1.1];exact h1
theorem G1 (l:List (Int×Int))(p:Option Addr)(c:Nat)(node:Int)(w:World)(h:ak w p l)(hl:l.length<=1000) :
 Calls prog 155 #[.slice p l.length c,.int .i64 node] w fun e w'=>∃p' c',e=.returned (.slice p' (l.filter fun y=>y.1 != node).length (c'+(l.filter fun y=>y.1 != node).length))/\ak w' p' (l.filter fun y=>y.1 != node)/\bq (fun b=>w.heap.size<=b) w' p' (l.filter fun y=>y.1 != node)/\Below w.heap.size w w':=by
 have HS:∀j,Hid (j<l.length->(l.take (j+1)).filter (fun y=>y.1 != node)=(l.take j).filter (fun y=>y.1 != node)++(if (l.getD j (0,0)).1 != node then [l.getD j (0,0)] else [])):=fun j hj=>DG (fun y=>y.1 != node) l j hj
 have HT:Hid (∀j,j=l.length->l.filter (fun y=>y.1 != node)=(l.take j).filter (fun y=>y.1 != node)):=by rintro j rfl;rw[List.take_length]
 have HN:∀j,Hid (((l.take j).filter (fun y=>y.1 != node)).length<=l.length):=fun j=>by
  have h1:=List.length_filter_le (fun y:Int×Int=>y.1 != node) (l.take j)
  have h2:(l.take j).length<=l.length:=by simp;omega
  exact Nat.le_trans h1 h2
 have qB:(l.take 0).filter (fun y=>y.1 != node)=[]:=by simp
 generalize l.filter (fun y=>y.1 != node)=T at HT ⊢
 generalize hF:(fun j=>(l.take j).filter (fun y=>y.1 != node))=F
 have SB:∀j,(l.take j).filter (fun y=>y.1 != node)=F j:=fun j=>by rw[<-hF]
 simp only[SB] at HT HS HN qB;clear hF SB;have M0:=hid ((Mem.start w).oH h);clear h;go_enter func155,ntmps155
 go_wp2;go_loopw [5,10] (fun v i wr=>∃j:Nat,j<=l.length/\i=.int .i64 (j:Int)/\Hid (j7 w.heap.size wr v (F j))/\Below w.heap.size w wr) (fun _ i _=>l.length-(intOf i).toNat)
 case atStart=>exact ⟨0,by omega,rfl,(by rw[qB];exact nw _ _),Below.refl _ _⟩
 case round =>
  obtain⟨j,hj,rfl,ax,aW⟩:=hrel;have M1:=hid (M0.out.on aW);by_cases aC:j<l.length
  ·obtain ⟨b,o,rfl,x0,x1⟩:=cC (M1.out.dS 0 _ _ rfl) aC
   have bE:(j:Int)<(l.length:Int):=by omega
   have hs:=(HS j).out aC;have aT:=(HN j).out;generalize l.getD j (0,0)=y at *;obtain⟨y1,y2⟩:=y;simp only at x0 x1 hs;have M2:=hid (M1.out.box #[.int .i64 y1,.int .i64 y2] 141);generalize F j=f at *;generalize Mf:F (j+1)=f2 at *;have H2:=hid Mf;obtain⟨pv,cv,rfl⟩:=ax.out.jx;generalize ny:f.length=nl at *;have yn:=hid ny;have kX:=hid ax.out;have cA:=hid aW;clear HS HT HN aW qB Mf ax ny;by_cases hk:y1=node
   ·rw [if_neg (by simp[hk]),List.append_nil] at hs
    have SE:=hid hs;clear hs;go_wp2;go_roundw
    case rel=>exact ⟨j+1,by omega,by go_num,by rw[H2.out,SE.out];exact hid (kX.out.on ((Below.refl _ _).alloc (Nat.le_refl _) _)),cA.out.alloc cA.out.size _⟩
    case measure=>simp only[intOf];omega
   ·rw [if_pos (by simpa using hk)] at hs
    have SE:=hid hs;clear hs;go_wp2_with (at_builtin;refine cW rfl (.tmp 18) (.tmp 20) rfl w wr (.slice pv nl cv) rfl f nl yn.out kX.out cA.out ((Below.refl _ _).alloc (Nat.le_refl _) _) (wr.heap.size+1) y1 y2 rfl (by have h:=heap_alloc_new (wr.alloc (.cells #[.int .i64 y1,.int .i64 y2] 141)) (.cells #[.int .i64 y1,.int .i64 y2] 141);rwa [size_alloc] at h) (by omega) ?_;intro p4 c4 w4 R4 B4;clear x0 x1)
    go_roundw
    case rel=>exact ⟨j+1,by omega,by go_num,by rw[H2.out,SE.out];exact R4,B4⟩
    case measure=>simp only[intOf];omega
  ·obtain rfl:j=l.length:=by omega
   have hT:=HT.out _ rfl;rw[<-hT] at ax;obtain⟨pv,cv,rfl,h1,h2⟩:=ax.out.JE;have H12:=hid (And.intro h1 h2);have cA:=hid aW;clear HS HT HN hT h1 h2 ax aW;go_wp2;go_ret;exact⟨pv,cv,rfl,H12.out.1,H12.out.2,cA.out⟩
def DI (x:Rp):Value:=dE x.1 x.2.1 x.2.2
def bw (start:Int)(m:List Rp)(key:Int):Rp:=if au (m.map (·.1)) key<0 then (⟨key,0,start,[]⟩,(none,0)) else m.getD (au (m.map (·.1)) key).toNat XH
theorem ql (t:Tb)(m:List Rp)(key:Int)(h:m.map (·.1)=t.rows):(bw t.start m key).1=ah t key:=by
 unfold bw ah;rw[h];split
 ·rfl
 ·rw [<-h]
  generalize(au (m.map (·.1)) key).toNat=j
  by_cases hj:j<m.length
  ·simp [List.getD,hj]
  ·simp [List.getD,hj,XH]
theorem oQ (start:Int)(m:List Rp)(key:Int):bw start m key=(⟨key,0,start,[]⟩,(none,0))∨bw start m key∈m:=by
 unfold bw;split
 ·exact .inl rfl
 ·rename_i h
  rcases oP (m.map (·.1)) key with ⟨h1,-⟩ | ⟨j,h1,-,h2,-⟩
  ·omega
  ·right
   rw[h1,Int.toNat_natCast];have h2':j<m.length:=by simpa using h2
   simp[List.getD,h2']
theorem IZ {w:World}{p:Option Addr}{m:List Rp}(h:rA w p (bp m)){j:Nat}(hj:j<m.length):∃b o,p=some ⟨b,o,none⟩/\w.cell? ⟨b,o+j*4,none⟩=some (.int .i64 m[j].1.key)/\w.cell? ⟨b,o+j*4+1,none⟩=some (.int .i64 m[j].1.ay)/\w.cell? ⟨b,o+j*4+2,none⟩=some (.int .i64 m[j].1.mark)/\w.cell? ⟨b,o+j*4+3,none⟩=some (.slice m[j].2.1 m[j].1.out.length (m[j].2.2+m[j].1.out.length)):=by
 rcases h with h | ⟨b,o,e,hc⟩
 ·have:(bp m).length=0:=by rw[h];rfl
  rw[gQ] at this;omega
 ·exact ⟨b,o,e,qi hc j hj⟩
theorem tr (start:Int)(m:List Rp)(p:Option Addr)(c:Nat)(key:Int)(w:World)(hl:m.length<=1000)(h:ar w p (m.map (·.1)))(hm:rA w p (bp m)) :
 Calls prog 153 #[.agg #[.int .i64 start,.slice p m.length (c+m.length)],.int .i64 key] w fun e w'=>e=.returned (.tuple #[DI (bw start m key),.bool (decide (0<=au (m.map (·.1)) key))])/\Below w.heap.size w w':=by
 have hat:=fun u (hb:Below w.heap.size w u)=>AX (m.map (·.1)) p (c+m.length) key u (h.below hb) (by simpa using hl)
 have aT:(m.map (·.1)).length=m.length:=by simp
 rw[aT] at hat;have M0:=hid (((Mem.start w).box #[.int .i64 start,.slice p m.length (c+m.length)] 28).box #[.int .i64 0,.int .i64 0,.int .i64 0,.slice none 0 0] 80);simp only[size_alloc] at M0;have HM:=hid (hm.on M0.out.below);obtain⟨t0,t1,-⟩:=eB (M0.out.boxes 1 _ _ _ rfl);obtain⟨d0,d1,d2,d3,ff⟩:=dG (M0.out.boxes 0 _ _ _ rfl);have f0:=ff 0;have f1:=ff 1;have f2:=ff 2;have f3:=ff 3;clear ff h hm;rcases oP (m.map (·.1)) key with ⟨hp,hq,-⟩ | ⟨j,hp,hq,hj,-⟩
 ·have hF:bw start m key=(⟨key,0,start,[]⟩,(none,0)):=by unfold bw;rw[hp,if_pos (by omega)]
  rw[hF,hp];rw[hq,aT] at hat;have Rt:=hat _ M0.out.below;clear hat hp hq hF;go_enter func153,ntmps153
  go_wp2_with (go_at_call 189;(with_reducible refine Rt.mono ?_);rintro e u ⟨rfl,rfl⟩)
  refine bodyPost_ret (v:=.tuple #[.agg #[.int .i64 key,.int .i64 0,.int .i64 start,.slice none 0 0],.bool false]) (by simp[results,results153,go_sem]) rfl ⟨rfl,?_⟩
  exact((Below.refl _ _).alloc (Nat.le_refl _) _).alloc (by simp) _
 ·rw [aT] at hj
  have hF:bw start m key=m[j]:=by unfold bw;rw[hp,if_neg (by omega),Int.toNat_natCast];simp[List.getD,hj]
  rw[hF,hp];rw[hq] at hat;obtain⟨b,o,rfl,x0,x1,x2,x3⟩:=IZ HM.out hj;have mG:(j:Int)<(m.length:Int):=by omega
  have Rt:=hat _ M0.out.below;generalize m[j]=x at *;obtain⟨⟨xk,xa,xm,xo⟩,px,cx⟩:=x;simp only[DI,dE] at *;generalize xo.length=nx at *;generalize m.length=nm at *;clear hat hp hq hF HM aT hl;go_enter func153,ntmps153
  go_wp2_with (go_at_call 189;(with_reducible refine Rt.mono ?_);rintro e u ⟨rfl,rfl⟩)
  refine bodyPost_ret (v:=.tuple #[.agg #[.int .i64 xk,.int .i64 xa,.int .i64 xm,.slice px nx (cx+nx)],.bool true]) (by simp[results,results153,go_sem]) rfl ⟨by simp,?_⟩
  exact((Below.refl _ _).alloc (Nat.le_refl _) _).alloc (by simp) _
def gt (l:List Rw)(key:Int):Nat:=if spot (fun r:Rw=>decide (key<r.key)) l<0 then l.length else (spot (fun r:Rw=>decide (key<r.key)) l).toNat
theorem XI {l:List Rw}{key:Int}{j:Nat}(hj:j<l.length)(h:∀i,i<j->(l.getD i aq).key<=key)(h1:key<(l.getD j aq).key):gt l key=j:=by
 have e:spot (fun r:Rw=>decide (key<r.key)) l=(j:Int):=eL _ aq l j hj (fun i hi=>by have:=h i hi;simpa using this) (by simpa using h1)
 unfold gt;rw[e,if_neg (by omega),Int.toNat_natCast]
theorem Ru {l:List Rw}{key:Int}(h:∀i,i<l.length->(l.getD i aq).key<=key):gt l key=l.length:=by
 have e:spot (fun r:Rw=>decide (key<r.key)) l= -1:=cP _ aq l fun i hi=>by have:=h i hi;simpa using this
 unfold gt;rw[e,if_pos (by omega)]
theorem Lu (l:List Rw)(p:Option Addr)(c:Nat)(key:Int)(w:World)(h:ar w p l)(hl:l.length<=1000) :
 Calls prog 193 #[.slice p l.length c,.int .i64 key] w fun e w'=>e=.returned (.int .i64 (gt l key:Nat))/\Below w.heap.size w w':=by
 have HH:=hid h;have GY:Hid (∀j:Nat,(j<=l.length/\∀i,i<j->(l.getD i aq).key<=key)->(j=l.length->Hid (gt l key=j))/\(j<l.length->key<(l.getD j aq).key->Hid (gt l key=j))):=fun j ⟨hj,hn⟩ =>
  ⟨fun e=>by subst e;exact Ru hn,fun h1 h2=>XI h1 hn h2⟩
 generalize gt l key=R at *;clear h;go_enter func193,ntmps193
 go_wp2;go_loopw [9] (fun i wr=>∃j:Nat,j<=l.length/\i=.int .i64 (j:Int)/\Hid (∀i,i<j->(l.getD i aq).key<=key)/\Below w.heap.size w wr) (fun i _=>l.length-(intOf i).toNat)
 case atStart=>exact ⟨0,by omega,rfl,(fun i hi=>by omega),Below.refl _ _⟩
 case round =>
  obtain⟨j,hj,rfl,hne,aW⟩:=hrel;obtain⟨t1,t2⟩:=GY.out j ⟨hj,hne.out⟩;by_cases aC:j<l.length
  ·obtain ⟨b,o,rfl,o9,qC,Jp,px,cx,Jq,-⟩:=gT HH.out aC
   have x0:=af o9 aW;have x1:=af qC aW;have x2:=af Jp aW;have x3:=af Jq aW;have bE:(j:Int)<(l.length:Int):=by omega
   have cA:=hid aW;by_cases hk:key<(l.getD j aq).key
   ·have hR:=t2 aC hk
    clear GY t1 t2 hne o9 qC Jp Jq aW HH;generalize l.getD j aq=x at *;go_wp2;go_ret;exact⟨by rw[hR.out];rfl,cA.out.alloc cA.out.size _⟩
   ·have HN:Hid (∀i,i<j+1->(l.getD i aq).key<=key):=fun i hi=>by
     by_cases e:i<j
     ·exact hne.out i e
     ·rw [show i=j by omega];omega
    clear GY t1 t2 hne o9 qC Jp Jq aW HH;generalize l.getD j aq=x at *;have HBA:=hid (cA.out.alloc cA.out.size (.cells #[.int .i64 x.key,.int .i64 x.ay,.int .i64 x.mark,.slice px x.out.length (cx+x.out.length)] 80));go_wp2;go_roundw
    case rel=>exact ⟨j+1,by omega,by go_num,HN,HBA.out⟩
    case measure=>simp only[intOf];omega
  ·obtain rfl:j=l.length:=by omega
   have hR:=t1 rfl;have cA:=hid aW;clear GY t1 t2 hne HH aW;go_wp2;go_ret;exact⟨by rw[hR.out];rfl,cA.out⟩
theorem Rv (x:Int):mul 2 x=add [x,x]:=by
 have h0:=dD x;have h1:=dM x;unfold mul add;rw[Zr.kC,dN (x:=2) (by omega) (by omega)]
 have e:2*dh x=dh x+dh x:=by omega
 rw[e]
theorem lJ (f:Cf)(p:Option Addr)(c:Nat)(key:Int)(w:World)(hz:iU w p f.aH) :
 Calls prog 83 #[gD f p c,.int .i64 key] w fun e w'=>e=.returned (.tuple #[.agg #[.int .i64 (if 0<=cB f.aH key then (aX f key).1 else 0),.int .i64 (if 0<=cB f.aH key then (aX f key).2 else 0)],.bool (decide (0<=cB f.aH key))])/\Below w.heap.size w w':=by
 by_cases hr:0<=cB f.aH key
 ·rw [if_pos hr,if_pos hr,decide_eq_true hr]
  obtain⟨k,hk,Tp⟩:=si f.aH key hr;obtain⟨b,o,e,x0,x1⟩:=cC hz Tp;have hb:0<=key/\key<524288/\key / 65536=(k:Int):=by
   unfold cB at hk;split at hk
   ·rename_i h;exact⟨h.1,h.2.1,hk⟩
   ·omega
  have e1:aX f key=f.aH.getD k (0,0):=by unfold aX;rw[hk,Int.toNat_natCast]
  rw[e1];subst e;exact Zm.yv f.n f.js f.Qg f.fW f.zR f.zS f.aR f.qM b o f.aH.length c k key _ _ w (by rw[Zm.pH];omega) hb.1 (by omega) hb.2.2 (by omega) x0 x1
 ·rw [if_neg hr,if_neg hr,decide_eq_false hr]
  refine Zm.yu f.n f.js f.Qg f.fW f.zR f.zS f.aR f.qM p f.aH.length c key w ?_;unfold cB at hr;split at hr
  ·rename_i h
   exact absurd (by omega) hr
  ·rename_i h
   by_cases hk:0<=key/\key<524288
   ·refine .inr ⟨by rw[Zm.pH];omega,hk.1,by omega,?_⟩
    omega
   ·refine .inl ?_
    cases hw:Zm.aB key 0 524287 with
    | false=>rfl
    | true=>rw [Zm.pH] at hw;omega
theorem G2 (xk xa xm:Int)(px:Option Addr)(nx cx:Nat)(start now:Int)(n sk tl va lo he ke qu:Int)(pf:Option Addr)(nz cf:Nat)(w:World)(R B:Int)(q D:Bool)(g s2 m2 sf:Int)
 (dF:∀u,Below w.heap.size w u->Calls prog 83 #[.agg #[.int .i64 n,.int .i64 sk,.int .i64 tl,.int .i64 va,.int .i64 lo,.int .i64 he,.int .i64 ke,.int .i64 qu,.slice pf nz cf],.int .i64 xk] u fun e u'=>e=.returned (.tuple #[.agg #[.int .i64 R,.int .i64 B],.bool q])/\Below u.heap.size u u')
 (hg:s2=sub xm start) (hm:g=mul R s2) (h2:m2=mul 2 sk) (hs:sf=sub now m2) (hD:D=(q&&decide (nx=0)&&decide (xa=B)&&decide (B<=g)&&decide (xm<=sf))) :
 Calls prog 225 #[.agg #[.int .i64 xk,.int .i64 xa,.int .i64 xm,.slice px nx cx],.int .i64 start,.int .i64 now,.agg #[.int .i64 n,.int .i64 sk,.int .i64 tl,.int .i64 va,.int .i64 lo,.int .i64 he,.int .i64 ke,.int .i64 qu,.slice pf nz cf]] w fun e w'=>e=.returned (.bool D)/\Below w.heap.size w w':=by
 have M0:=hid (((Mem.start w).box #[.int .i64 xk,.int .i64 xa,.int .i64 xm,.slice px nx cx] 80).box #[.int .i64 n,.int .i64 sk,.int .i64 tl,.int .i64 va,.int .i64 lo,.int .i64 he,.int .i64 ke,.int .i64 qu,.slice pf nz cf] 24);simp only[size_alloc] at M0;have jr:=jE xm start;have lU:=oC R s2;have Ie:=oC 2 sk;have kD:=jE now m2;rw[<-hg] at jr;rw[<-hm] at lU;rw[<-h2] at Ie;rw[<-hs] at kD;clear hg hm h2 hs;have hr1:=dF _ M0.out.below;clear dF;obtain⟨r0,r1,r2,r3,-⟩:=dG (M0.out.boxes 1 _ _ _ rfl);obtain⟨c0,c1,c2,c3,c4,c5,c6,c7,c8⟩:=aG (M0.out.boxes 0 _ _ _ rfl);have b9:(q=false/\D=false)∨(q=true/\(0:Int)<(nx:Int)/\D=false)∨(q=true/\nx=0/\(xa != B)=true/\D=false)∨(q=true/\nx=0/\xa=B/\D=(decide (B<=g)&&decide (xm<=sf))):=by
  cases q
  ·exact .inl ⟨rfl,by rw[hD];simp⟩
  ·by_cases h1:nx=0
   ·by_cases h2:xa=B
    ·exact .inr (.inr (.inr ⟨rfl,h1,h2,by rw[hD,decide_eq_true h1,decide_eq_true h2];rfl⟩))
    ·exact .inr (.inr (.inl ⟨rfl,h1,by simpa using h2,by rw[hD,decide_eq_false h2];simp⟩))
   ·exact .inr (.inl ⟨rfl,by omega,by rw[hD,decide_eq_false h1];simp⟩)
 clear hD;rcases b9 with ⟨rfl,rfl⟩ | ⟨rfl,h1,rfl⟩ | ⟨rfl,rfl,h1,rfl⟩ | ⟨rfl,rfl,hB,hD⟩
 ·go_enter func225,ntmps225
  go_wp2_with (go_at_call 83;(with_reducible refine hr1.mono ?_);rintro e u1 ⟨rfl,hb⟩;have M1:=hid ((M0.out.on hb).box #[.int .i64 R,.int .i64 B] 77);clear hb r0 r1 r2 r3 c0 c1 c2 c3 c4 c5 c6 c7 c8 hr1;obtain⟨z0,z1,-⟩:=eB (M1.out.boxes 0 _ _ _ rfl);obtain⟨c0,c1,c2,c3,c4,c5,c6,c7,c8⟩:=aG (M1.out.boxes 1 _ _ _ rfl);obtain⟨r0,r1,r2,r3,-⟩:=dG (M1.out.boxes 2 _ _ _ rfl))
  go_ret;exact⟨rfl,M1.out.below⟩
 ·go_enter func225,ntmps225
  go_wp2_with (go_at_call 83;(with_reducible refine hr1.mono ?_);rintro e u1 ⟨rfl,hb⟩;have M1:=hid ((M0.out.on hb).box #[.int .i64 R,.int .i64 B] 77);clear hb r0 r1 r2 r3 c0 c1 c2 c3 c4 c5 c6 c7 c8 hr1;obtain⟨z0,z1,-⟩:=eB (M1.out.boxes 0 _ _ _ rfl);obtain⟨c0,c1,c2,c3,c4,c5,c6,c7,c8⟩:=aG (M1.out.boxes 1 _ _ _ rfl);obtain⟨r0,r1,r2,r3,-⟩:=dG (M1.out.boxes 2 _ _ _ rfl))
  go_ret;exact⟨rfl,M1.out.below⟩
 ·go_enter func225,ntmps225
  go_wp2_with (go_at_call 83;(with_reducible refine hr1.mono ?_);rintro e u1 ⟨rfl,hb⟩;have M1:=hid ((M0.out.on hb).box #[.int .i64 R,.int .i64 B] 77);clear hb r0 r1 r2 r3 c0 c1 c2 c3 c4 c5 c6 c7 c8 hr1;obtain⟨z0,z1,-⟩:=eB (M1.out.boxes 0 _ _ _ rfl);obtain⟨c0,c1,c2,c3,c4,c5,c6,c7,c8⟩:=aG (M1.out.boxes 1 _ _ _ rfl);obtain⟨r0,r1,r2,r3,-⟩:=dG (M1.out.boxes 2 _ _ _ rfl))
  go_ret;exact⟨rfl,M1.out.below⟩
 ·have T9:=hB.symm
  clear hB;subst T9;go_enter func225,ntmps225
  go_wp2_with (go_at_call 83;(with_reducible refine hr1.mono ?_);rintro e u1 ⟨rfl,hb⟩;have M1:=hid ((M0.out.on hb).box #[.int .i64 R,.int .i64 B] 77);clear hb r0 r1 r2 r3 c0 c1 c2 c3 c4 c5 c6 c7 c8 hr1;obtain⟨z0,z1,-⟩:=eB (M1.out.boxes 0 _ _ _ rfl);obtain⟨c0,c1,c2,c3,c4,c5,c6,c7,c8⟩:=aG (M1.out.boxes 1 _ _ _ rfl);obtain⟨r0,r1,r2,r3,-⟩:=dG (M1.out.boxes 2 _ _ _ rfl))
  have MD:=hid M1.out.drew;go_region_held3 (fun u=>u.cell? ⟨u1.heap.size,0,none⟩=some (.int .i64 R)/\u.cell? ⟨w.heap.size,2,none⟩=some (.int .i64 xm)/\u.cell? ⟨u1.heap.size,1,none⟩=some (.int .i64 B)) (first | assumption | exact⟨z0,r2,z1⟩) (first
   |(go_at_call 154;(with_reducible refine(jr _).mono ?_);rintro e u2 ⟨rfl,rfl⟩)
   |(go_at_call 223;(with_reducible refine(lU _).mono ?_);rintro e u2 ⟨rfl,rfl⟩))
  all_goals
   clear r0 r1 r2 r3 z0 z1 c0 c1 c2 c3 c4 c5 c6 c7 c8 jr lU;obtain⟨r0,r1,r2,r3,-⟩:=dG (MD.out.boxes 2 _ _ _ rfl);obtain⟨c0,c1,c2,c3,c4,c5,c6,c7,c8⟩:=aG (MD.out.boxes 1 _ _ _ rfl);by_cases k1:B<=g
   ·rw [decide_eq_true k1,Bool.true_and] at hD
    have k1':decide (B<=g)=true:=by simpa using k1
    go_wp2;have ME:=hid MD.out.drew;go_region_held3 (fun u=>u.cell? ⟨w.heap.size+1,1,none⟩=some (.int .i64 sk)/\u.cell? ⟨w.heap.size,2,none⟩=some (.int .i64 xm)) (first | assumption | exact⟨c1,r2⟩) (first
     |(go_at_call 223;(with_reducible refine(Ie _).mono ?_);rintro e u3 ⟨rfl,rfl⟩)
     |(go_at_call 154;(with_reducible refine(kD _).mono ?_);rintro e u3 ⟨rfl,rfl⟩))
    all_goals
     clear k1';subst hD;go_wp2;go_ret;exact⟨rfl,ME.out.below⟩
   ·rw [decide_eq_false k1,Bool.false_and] at hD
    subst hD;have k1':decide (B<=g)=false:=by simpa using k1
    go_wp2;go_quiet (fail)
    go_wp2;go_ret;exact⟨rfl,MD.out.below.trans ((ag _ _).mono MD.out.below.size)⟩
theorem Lv (r:Rw)(pr:Option Addr)(cr:Nat)(start now:Int)(f:Cf)(pf:Option Addr)(cf:Nat)(w:World)(hz:iU w pf f.aH) :
 Calls prog 225 #[dE r pr cr,.int .i64 start,.int .i64 now,gD f pf cf] w fun e w'=>e=.returned (.bool (ia start r now f))/\Below w.heap.size w w':=by
 refine G2 r.key r.ay r.mark pr r.out.length (cr+r.out.length) start now f.n f.js f.Qg f.fW f.zR f.zS f.aR f.qM pf f.aH.length cf w _ _ _ _ _ _ _ _ (fun u hu=>lJ f pf cf r.key u (hz.below hu)) rfl rfl rfl rfl ?_
 unfold ia;by_cases h:0<=cB f.aH r.key
 ·rw [if_pos h,if_pos h,decide_eq_true h,Rv]
  show _=(true&&decide (r.out.length=0)&&decide (r.ay=(aX f r.key).2)&&decide ((aX f r.key).2<=mul (aX f r.key).1 (sub r.mark start))&&decide (r.mark<=sub now (add [f.js,f.js])))
  unfold aX;rw[Bool.true_and,Bool.true_and];cases decide (r.mark<=sub now (add [f.js,f.js])) <;>simp
 ·rw [decide_eq_false h]
  simp
def lN (start:Int)(m:List Rp)(key now R B:Int):Rp:=(jn (bw start m key).1 now R B,(bw start m key).2)
theorem G3 (start:Int)(p:Option Addr)(nm c:Nat)(key now R B:Int)(fk fa fm:Int)(px:Option Addr)(nx cx:Nat)(w:World)(q:Bool)(T s1 more aw av mk:Int)(_: -9223372036854775808<=T/\T<=9223372036854775807)
 (eH:∀u,Below w.heap.size w u->Calls prog 153 #[.agg #[.int .i64 start,.slice p nm (c+nm)],.int .i64 key] u fun e u'=>e=.returned (.tuple #[.agg #[.int .i64 fk,.int .i64 fa,.int .i64 fm,.slice px nx (cx+nx)],.bool q])/\Below u.heap.size u u')
 (EJ:∀u,Below w.heap.size w u->Calls prog 224 #[.agg #[.int .i64 fk,.int .i64 fa,.int .i64 fm,.slice px nx (cx+nx)]] u fun e u'=>e=.returned (.int .i64 T)/\Below u.heap.size u u')
 (h1:s1=sub now fm) (h2:more=mul R s1) (h3:aw=sub B T) (h4:av=add [fa,min more aw]) (h5:mk=max fm now) :
 Calls prog 188 #[.agg #[.int .i64 start,.slice p nm (c+nm)],.int .i64 key,.int .i64 now,.agg #[.int .i64 R,.int .i64 B]] w fun e w'=>e=.returned (.agg #[.int .i64 fk,.int .i64 av,.int .i64 mk,.slice px nx (cx+nx)])/\Below w.heap.size w w':=by
 have M0:=hid ((((Mem.start w).box #[.int .i64 start,.slice p nm (c+nm)] 28).box #[.int .i64 R,.int .i64 B] 77).box #[.int .i64 0,.int .i64 0,.int .i64 0,.slice none 0 0] 80);simp only[size_alloc] at M0;have jr:=jE now fm;have lU:=oC R s1;have kD:=jE B T;rw[<-h1] at jr;rw[<-h2] at lU;rw[<-h3] at kD;have b9:(¬aw<more/\fm<now/\av=add [fa,more]/\mk=now)∨(¬aw<more/\¬fm<now/\av=add [fa,more]/\mk=fm)∨(aw<more/\fm<now/\av=add [fa,aw]/\mk=now)∨(aw<more/\¬fm<now/\av=add [fa,aw]/\mk=fm):=by
  by_cases k1:aw<more
  ·have e1:min more aw=aw:=by omega
   rw[e1] at h4;by_cases k2:fm<now
   ·exact .inr (.inr (.inl ⟨k1,k2,h4,by omega⟩))
   ·exact .inr (.inr (.inr ⟨k1,k2,h4,by omega⟩))
  ·have e1:min more aw=more:=by omega
   rw[e1] at h4;by_cases k2:fm<now
   ·exact .inl ⟨k1,k2,h4,by omega⟩
   ·exact .inr (.inl ⟨k1,k2,h4,by omega⟩)
 clear h1 h2 h3 h4 h5;obtain⟨t0,t1,-⟩:=eB (M0.out.boxes 2 _ _ _ rfl);have zu:=eH _ M0.out.below;clear eH;go_enter func188,ntmps188
 go_wp2_with (first
  |(go_at_call 153;(with_reducible refine zu.mono ?_);rintro e u1 ⟨rfl,hb⟩;have aC:=ae ((M0.out.on hb).boxes 0 _ _ _ rfl);have M1:=hid ((M0.out.on hb).box #[.int .i64 fk,.int .i64 fa,.int .i64 fm,.slice px nx (cx+nx)] 80);clear hb t0 t1;obtain⟨r0,r1,r2,r3,-⟩:=dG (M1.out.boxes 0 _ _ _ rfl);obtain⟨z0,z1,-⟩:=eB (M1.out.boxes 2 _ _ _ rfl)))
 have MD:=hid M1.out.drew;go_region_held3 (fun u=>u.cell? ⟨w.heap.size+1,0,none⟩=some (.int .i64 R)/\u.cell? ⟨u1.heap.size,2,none⟩=some (.int .i64 fm)) (first | assumption | exact⟨z0,r2⟩) (first
  |(go_at_call 154;(with_reducible refine(jr _).mono ?_);rintro e u2 ⟨rfl,rfl⟩)
  |(go_at_call 223;(with_reducible refine(lU _).mono ?_);rintro e u2 ⟨rfl,rfl⟩))
 all_goals
  clear r0 r1 r2 r3 z0 z1;obtain⟨r0,r1,r2,r3,-⟩:=dG (MD.out.boxes 0 _ _ _ rfl);obtain⟨z0,z1,-⟩:=eB (MD.out.boxes 2 _ _ _ rfl);have ME:=hid MD.out.drew;have YS:=hid EJ;clear EJ;go_wp2;go_region_held3 (fun u=>u.cell? ⟨w.heap.size+1,1,none⟩=some (.int .i64 B)/\u.cell? ⟨u1.heap.size,0,none⟩=some (.int .i64 fk)/\u.cell? ⟨u1.heap.size,1,none⟩=some (.int .i64 fa)/\u.cell? ⟨u1.heap.size,2,none⟩=some (.int .i64 fm)/\u.cell? ⟨u1.heap.size,3,none⟩=some (.slice px nx (cx+nx))) (first | assumption | exact SN.out | exact⟨z1,r0,r1,r2,r3⟩) (first
   |(go_at_call 224;(with_reducible refine(YS.out _ ME.out.below).mono ?_);rintro e u3 ⟨rfl,hb⟩;have M2:=hid (ME.out.on hb);have SN:=hid (And.intro (eB (M2.out.boxes 2 _ _ _ rfl)).2.1 (And.intro (dG (M2.out.boxes 0 _ _ _ rfl)).1 (And.intro (dG (M2.out.boxes 0 _ _ _ rfl)).2.1 (And.intro (dG (M2.out.boxes 0 _ _ _ rfl)).2.2.1 (dG (M2.out.boxes 0 _ _ _ rfl)).2.2.2.1))));clear hb)
   |(go_at_call 154;(with_reducible refine(kD _).mono ?_);rintro e u4 ⟨rfl,rfl⟩))
  all_goals
   clear r0 r1 r2 r3 z0 z1;obtain⟨r0,r1,r2,r3,-⟩:=dG (M2.out.boxes 0 _ _ _ rfl);clear YS;have qE:¬(u1.heap.size=w.heap.size+1+1):=by omega
   have jJ:¬(w.heap.size+1+1=u1.heap.size):=by omega
   have JO:w.heap.size<=u1.heap.size:=by have:=size_alloc w (.cells #[] 0);omega
   clear aC;rcases b9 with ⟨k1,k2,C4,rfl⟩ | ⟨k1,k2,C4,rfl⟩ | ⟨k1,k2,C4,rfl⟩ | ⟨k1,k2,C4,rfl⟩
   case' inl=>have kW:=qL fa more
   case' inr.inl=>have kW:=qL fa more
   case' inr.inr.inl=>have kW:=qL fa aw
   case' inr.inr.inr=>have kW:=qL fa aw
   all_goals
    rw[<-C4] at kW;clear C4;go_wp2_with (go_at_call 88;(with_reducible refine(kW _ _ (by first | rfl | simp)).mono ?_);rintro e u5 ⟨rfl,hu⟩;have M3:=hid (M2.out.on (u':=u5) (by rw[<-hu];exact(Below.refl _ _).alloc (Nat.le_refl _) _));clear hu r0 r1 r2 r3;obtain⟨r0,r1,r2,r3,ff⟩:=dG (M3.out.boxes 0 _ _ _ rfl);obtain⟨d0,d1,d2,d3,gg⟩:=dG (M3.out.boxes 1 _ _ _ rfl);have f1:=ff 1;have f2:=ff 2;have g0:=gg 0;have g1:=gg 1;have g2:=gg 2;have g3:=gg 3;clear ff gg)
    refine bodyPost_ret ?gh rfl ⟨rfl,?gb⟩
    case gh=>simp [results,results188,go_sem,d0,d1,d2,d3]
    case gb=>repeat' (first
     | with_reducible refine Below.setCell ?_ (by first | omega | (simp;done) | (simp;omega)) _
     | exact M3.out.below)
theorem Lx (start:Int)(m:List Rp)(p:Option Addr)(c:Nat)(key now R B:Int)(w:World)(hl:m.length<=1000)(h:ar w p (m.map (·.1)))(hm:rA w p (bp m))(sg:∀x∈m,ak w x.2.1 x.1.out/\x.1.out.length<=1000) :
 Calls prog 188 #[.agg #[.int .i64 start,.slice p m.length (c+m.length)],.int .i64 key,.int .i64 now,.agg #[.int .i64 R,.int .i64 B]] w fun e w'=>e=.returned (DI (lN start m key now R B))/\Below w.heap.size w w':=by
 have hf:ak w (bw start m key).2.1 (bw start m key).1.out/\(bw start m key).1.out.length<=1000:=by
  rcases oQ start m key with e | e
  ·rw [e];exact⟨.inl rfl,by simp⟩
  ·exact sg _ e
 have eH:=fun u (hb:Below w.heap.size w u)=>tr start m p c key u hl (h.below hb) (hm.on hb)
 have EJ:=fun u (hb:Below w.heap.size w u)=>GZ (bw start m key).1 (bw start m key).2.1 (bw start m key).2.2 u (hf.1.below hb) hf.2
 exact G3 start p m.length c key now R B (bw start m key).1.key (bw start m key).1.ay (bw start m key).1.mark (bw start m key).2.1 (bw start m key).1.out.length (bw start m key).2.2 w (decide (0<=au (m.map (·.1)) key)) (mF (bw start m key).1) _ _ _ _ _
  (by have h1:=jN ((bw start m key).1.ay :: (bw start m key).1.out.map (·.2));have h2:=jm ((bw start m key).1.ay :: (bw start m key).1.out.map (·.2));unfold mF;omega) eH EJ rfl rfl rfl rfl rfl
def qm (B:Nat)(w:World)(v:Value)(M:List Rp):Prop:=w.ownsRow B 80 4 v M.length (bp M)
theorem qm.none (B:Nat)(w:World):qm B w (.slice Option.none 0 0) []:=World.ownsRow_nil _ _ _ _
theorem qm.jx {B:Nat}{w:World}{v:Value}{M:List Rp}(h:qm B w v M):∃p c,v=.slice p M.length c:=by
 rcases h.2 with ⟨rfl,h0⟩ | ⟨g,cap,cur,rfl,h1,h2,h3⟩
 ·exact ⟨Option.none,0,by rw[h0]⟩
 ·exact ⟨_,cap,rfl⟩
theorem qm.cQ {B:Nat}{w:World}{v:Value}{M:List Rp}(h:qm B w v M):∃p c,v=.slice p M.length (c+M.length)/\rA w p (bp M):=by
 have ho:=h;rcases h.2 with ⟨rfl,h0⟩ | ⟨g,cap,cur,rfl,h1,h2,h3⟩
 ·have:M=[]:=List.eq_nil_of_length_eq_zero h0
  subst this;exact⟨Option.none,0,rfl,.inl rfl⟩
 ·refine ⟨_,cap-M.length,by rw[Nat.sub_add_cancel h3.1],.inr ⟨g,0,rfl,fun j v hv=> ?_⟩⟩
  have:=World.ownsRow.cells (g:=g) ho rfl j v hv;rwa [Addr.add_mid] at this
theorem qm.on {B:Nat}{w w':World}{v:Value}{M:List Rp}(h:qm B w v M)(hb:Below w.heap.size w w'):qm B w' v M:=aI h hb
theorem LB {u:World}{ops:Array Oper}{rest:List Oper}{o:Oper}{a:Act}{Q:Exit->Act->World->Prop}(hgd:o.guard=none)(s y:Operand)
 (ho:o.op=.call { callee:=.builtin .append,args:= #[s,y],argTypes:= #[26,26] })
 (w0 wr:World) (v:Value) (hs:a.eval s=v) (M:List Rp) (n:Nat) (hn:M.length=n) (ax:qm w0.heap.size wr v M) (aW:Below w0.heap.size w0 wr) (hu:Below wr.heap.size wr u)
 (g:Nat) (x:Rp) (nx:Nat) (Ic:x.1.out.length=nx) (hy:a.eval y=.slice (some ⟨g,0,Option.none⟩) 1 1)
 (hg:(u.alloc (.cells #[.int .i64 x.1.key,.int .i64 x.1.ay,.int .i64 x.1.mark,.slice x.2.1 nx (x.2.2+nx)] 80)).heap[g]? =some (.cells #[.int .i64 x.1.key,.int .i64 x.1.ay,.int .i64 x.1.mark,.slice x.2.1 nx (x.2.2+nx)] 80 (0,0))) (aT:n<=100000)
 (h:∀p c w',Hid (qm w0.heap.size w' (.slice p (n+1) c) (M++[x]))->Below w0.heap.size w0 w'->wpList prog ops Q rest (a.put o.dst (.slice p (n+1) c)) w'):wpList prog ops Q (o :: rest) a (u.alloc (.cells #[.int .i64 x.1.key,.int .i64 x.1.ay,.int .i64 x.1.mark,.slice x.2.1 nx (x.2.2+nx)] 80)):=by
 subst hn Ic;obtain⟨i0,hi,hz0,hz1,hz2⟩:=info_parts Ms;have xT:Below wr.heap.size wr (u.alloc (.cells #[.int .i64 x.1.key,.int .i64 x.1.ay,.int .i64 x.1.mark,.slice x.2.1 x.1.out.length (x.2.2+x.1.out.length)] 80)):=hu.alloc hu.size _;refine wpList_append_own _ hgd s y 26 ho w0.heap.size 80 i0 (.agg #[.int .i64 0,.int .i64 0,.int .i64 0,.slice Option.none 0 0]) 4 48 underlying26 hi hz0 hz1 hz2 rfl (by decide) v M.length (bp M) hs (aI ax xT) ⟨g,0,Option.none⟩ 1 1 [.int .i64 x.1.key,.int .i64 x.1.ay,.int .i64 x.1.mark,.slice x.2.1 x.1.out.length (x.2.2+x.1.out.length)] hy rfl (World.news_of_block hg) ?_ (by unfold maxLen;omega) (by omega) (Nat.le_trans aW.size xT.size) ?_
 ·intro z hz
  simp at hz;rcases hz with rfl | rfl | rfl | rfl <;>rfl
 ·intro v' w' ko hg2 _
  have hb2:=(aW.trans (xT.mono aW.size)).grown hg2 (Nat.le_trans aW.size xT.size) (fun k hk=>(World.ownsRow.lt ax k hk).1)
  have R:qm w0.heap.size w' v' (M++[x]):=by
   unfold qm;rw[tE,List.length_append];exact ko
  obtain⟨p,c,rfl⟩:∃p c,v'=.slice p (M.length+1) c:=by
   rcases ko.2 with ⟨_,h0⟩ | ⟨g,cap,cur,rfl,_⟩
   ·omega
   ·exact ⟨_,cap,rfl⟩
  exact h p c w' R hb2
def eD (start now:Int)(f:Cf)(m:List Rp):List Rp:=m.filter fun x=> !ia start x.1 now f
theorem DJ (start now:Int)(f:Cf)(m:List Rp)(j:Nat)(h:j<m.length):eD start now f (m.take (j+1))=eD start now f (m.take j)++(if ia start m[j].1 now f=true then [] else [m[j]]):=by
 rw[eD,List.take_succ_eq_append_getElem h,List.filter_append];by_cases h2:ia start m[j].1 now f=true
 ·rw [if_pos h2];simp[eD,h2]
 ·rw [if_neg h2];simp[eD,h2]
theorem wY (start now:Int)(f:Cf)(m:List Rp):(eD start now f m).map (·.1)=dU start now f (m.map (·.1)):=by
 unfold eD dU;rw[List.filter_map];rfl
theorem G5 (start now:Int)(f:Cf)(m:List Rp)(j:Nat):(eD start now f (m.take j)).length<=m.length:=by
 have h1:(eD start now f (m.take j)).length<=(m.take j).length:=List.length_filter_le _ _;have h2:(m.take j).length<=m.length:=by simp;omega
 omega
theorem DK (start:Int)(m:List Rp)(p:Option Addr)(c:Nat)(now:Int)(f:Cf)(pf:Option Addr)(cf:Nat)(w:World)(hl:m.length<=1000)(hm:rA w p (bp m))(hz:iU w pf f.aH) :
 Calls prog 190 #[.agg #[.int .i64 start,.slice p m.length (c+m.length)],.int .i64 now,gD f pf cf] w fun e w'=>∃p' c',e=.returned (.slice p' (eD start now f m).length (c'+(eD start now f m).length))/\rA w' p' (bp (eD start now f m))/\Below w.heap.size w w':=by
 have HV:Hid (∀j,j=m.length->eD start now f m=eD start now f (m.take j)):=by rintro j rfl;rw[List.take_length]
 have HS:Hid (∀j (hj:j<m.length),eD start now f (m.take (j+1))=eD start now f (m.take j)++(if ia start m[j].1 now f=true then [] else [m[j]])):=fun j hj=>DJ start now f m j hj
 have HL:=fun j=>hid (G5 start now f m j)
 have qB:eD start now f (m.take 0)=[]:=by simp[eD]
 have HI:=hid (fun(u:World) (r:Rw) (pr:Option Addr) (cr:Nat) (hu:Below w.heap.size w u)=>Lv r pr cr start now f pf cf u (hz.below hu))
 generalize eD start now f m=V at HV ⊢;generalize hG:(fun j=>eD start now f (m.take j))=G
 have MK:∀j,eD start now f (m.take j)=G j:=fun j=>by rw[<-hG]
 simp only[MK] at HV HS HL qB;clear hG MK;generalize hI:(fun r=>ia start r now f)=I
 have VW:∀r,ia start r now f=I r:=fun r=>by rw[<-hI]
 simp only[VW] at HS HI;clear hI VW;obtain⟨n,sk,tl,va,lo,he,ke,qu,aH⟩:=f;simp only[gD,dE] at *;have M0:=hid (((Mem.start w).box #[.int .i64 start,.slice p m.length (c+m.length)] 28).box #[.int .i64 n,.int .i64 sk,.int .i64 tl,.int .i64 va,.int .i64 lo,.int .i64 he,.int .i64 ke,.int .i64 qu,.slice pf aH.length cf] 24);simp only[size_alloc] at M0;have HM:=hid (hm.on M0.out.below);obtain⟨t0,t1,-⟩:=eB (M0.out.boxes 1 _ _ _ rfl);obtain⟨c0,c1,c2,c3,c4,c5,c6,c7,c8⟩:=aG (M0.out.boxes 0 _ _ _ rfl);clear hm hz;go_enter func190,ntmps190
 go_wp2;generalize((w.alloc (.cells #[.int .i64 start,.slice p m.length (c+m.length)] 28)).alloc (.cells #[.int .i64 n,.int .i64 sk,.int .i64 tl,.int .i64 va,.int .i64 lo,.int .i64 he,.int .i64 ke,.int .i64 qu,.slice pf aH.length cf] 24))=W1 at *;clear t0 t1 c0 c1 c2 c3 c4 c5 c6 c7 c8;go_loopw [7,13] (fun v i wr=>∃j:Nat,j<=m.length/\i=.int .i64 (j:Int)/\Hid (qm W1.heap.size wr v (G j))/\Below W1.heap.size W1 wr) (fun _ i _=>m.length-(intOf i).toNat)
 case atStart=>exact ⟨0,by omega,rfl,(by rw[qB];exact qm.none _ _),Below.refl _ _⟩
 case round =>
  obtain⟨j,hj,rfl,ax,aW⟩:=hrel;have M1:=hid (M0.out.on aW);by_cases aC:j<m.length
  ·obtain ⟨b,o,rfl,o9,qC,Jp,Jq⟩:=IZ HM.out aC
   have x0:=af o9 aW;have x1:=af qC aW;have x2:=af Jp aW;have x3:=af Jq aW;have bE:(j:Int)<(m.length:Int):=by omega
   have hs:=HS.out j aC;have aT:=(HL j).out;generalize m[j]=x at *;have hi:=fun u hu=>HI.out u x.1 x.2.1 x.2.2 hu
   generalize I x.1=q at *;obtain⟨⟨xk,xa,xm,xo⟩,px,cx⟩:=x;simp only at x0 x1 x2 x3 hi;generalize Ic:xo.length=nx at *;have Ti:=hid Ic;generalize G j=F at *;generalize Mf:G (j+1)=F2 at *;have H2:=hid Mf;obtain⟨pv,cv,rfl⟩:=ax.out.jx;generalize ny:F.length=nl at *;have yn:=hid ny;have kX:=hid ax.out;have cA:=hid aW;have M2:=hid (M1.out.box #[.int .i64 xk,.int .i64 xa,.int .i64 xm,.slice px nx (cx+nx)] 80);have UD:=hi _ M2.out.below;have bJ:=hid ((Below.refl wr.heap.size wr).alloc (Nat.le_refl _) (.cells #[.int .i64 xk,.int .i64 xa,.int .i64 xm,.slice px nx (cx+nx)] 80));obtain⟨t0,t1,-⟩:=eB (M2.out.boxes 2 _ _ _ rfl);obtain⟨c0,c1,c2,c3,c4,c5,c6,c7,c8⟩:=aG (M2.out.boxes 1 _ _ _ rfl);clear HS HV HL HI hi aW ax Mf ny Ic o9 qC Jp Jq qB;cases q with
   | true =>
     rw[if_pos rfl,List.append_nil] at hs;have SE:=hid hs;clear hs;go_wp2_with (go_at_call 225;(with_reducible refine UD.mono ?_);rintro e u2 ⟨rfl,hb2⟩;have B3:=hid (bJ.out.trans (hb2.mono bJ.out.size));clear hb2 UD t0 t1 c0 c1 c2 c3 c4 c5 c6 c7 c8)
     go_roundw
     case rel=>exact ⟨j+1,by omega,by go_num,by rw[H2.out,SE.out];exact hid (kX.out.on B3.out),cA.out.trans (B3.out.mono cA.out.size)⟩
     case measure=>simp only[intOf];omega
   | false =>
     rw[if_neg (by simp)] at hs
     have SE:=hid hs;clear hs;go_wp2_with (first
      |(go_at_call 225;(with_reducible refine UD.mono ?_);rintro e u2 ⟨rfl,hb2⟩;have M3:=hid (M2.out.on hb2);have B3:=hid (bJ.out.trans (hb2.mono bJ.out.size));clear hb2 UD t0 t1 c0 c1 c2 c3 c4 c5 c6 c7 c8 x0 x1 x2 x3;obtain⟨r0,r1,r2,r3,-⟩:=dG (M3.out.boxes 0 _ _ _ rfl))
      |(at_builtin;refine LB rfl (.tmp 24) (.tmp 26) rfl W1 u2 (.slice pv nl cv) rfl F nl yn.out (kX.out.on B3.out) (cA.out.trans (B3.out.mono cA.out.size)) (Below.refl _ _) u2.heap.size (⟨xk,xa,xm,xo⟩,(px,cx)) nx Ti.out rfl (heap_alloc_new _ _) (by omega) ?_;intro p4 c4 w4 R4 B4;clear r0 r1 r2 r3))
     go_roundw
     case rel=>exact ⟨j+1,by omega,by go_num,by rw[H2.out,SE.out];exact R4,B4⟩
     case measure=>simp only[intOf];omega
  ·obtain rfl:j=m.length:=by omega
   have hT:=HV.out _ rfl;rw[<-hT] at ax;obtain⟨pv,cv,rfl,h1⟩:=ax.out.cQ;have H1:=hid h1;have cA:=hid aW;clear HS HV HL HI hT h1 ax aW;go_wp2;go_ret;exact⟨pv,cv,rfl,H1.out,M1.out.below⟩
end Zv
end Go.Proofs.YtbgdlokegibkmaaGreat
