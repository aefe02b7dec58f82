/-
  A part of the proof of VisitPlays.
-/
import Derived.BigQuiet
import Derived.Test.YtbgdlokegibkmaaGreatMpAa
set_option maxRecDepth 100000
set_option maxHeartbeats 2000000
namespace Go.Proofs.YtbgdlokegibkmaaGreat
open Go.RowKit
open Tryz
open Lib (hid)
namespace Zp
open Zq (aI cO ae aj ai cL)
structure iE (α:Type) where
 n:Nat
 cs:α->List Value
 z:α
 pos:0<n
 len:∀x,(cs x).length=n
 one:∀x,∀u∈cs x,u.oneCell'=true
section
variable {α:Type}{E:iE α}
def cells (E:iE α)(l:List α):List Value:=l.flatMap E.cs
theorem jD (l m:List α):cells E (l++m)=cells E l++cells E m:=by simp[cells]
theorem lT (l:List α)(x:α):cells E (l++[x])=cells E l++E.cs x:=by simp[cells]
theorem fM (l:List α)(x:α):cells E (x :: l)=E.cs x++cells E l:=by simp[cells]
theorem lq (l:List α):(cells E l).length=l.length*E.n:=by
 induction l with
 | nil=>simp [cells]
 | cons x l ih=>rw [fM,List.length_append,ih,E.len,List.length_cons,Nat.succ_mul,Nat.add_comm]
theorem xV (l:List α):∀u∈cells E l,u.oneCell'=true:=by
 intro u hu;simp only[cells,List.mem_flatMap] at hu;obtain⟨s,_,hs⟩:=hu;exact E.one s u hs
theorem nj:∀(l:List α)(j:Nat)(_:j<l.length)(k:Nat)(u:Value),(E.cs (l.getD j E.z))[k]? =some u->(cells E l)[j*E.n+k]? =some u
 | [],j,hj,_,_,_=>by simp at hj
 | x :: l,0,_,k,u,h=>by
   have h':(E.cs x)[k]? =some u:=by simpa using h
   have hk:=(List.getElem?_eq_some_iff.1 h').1;rw[fM,Nat.zero_mul,Nat.zero_add,List.getElem?_append_left hk,h']
 | x :: l,j+1,hj,k,u,h=>by
   have ih:=nj l j (by simpa using hj) k u (by simpa[List.getD] using h)
   rw[fM,List.getElem?_append_right (by rw[E.len,Nat.succ_mul];omega),E.len,show(j+1)*E.n+k-E.n=j*E.n+k by rw[Nat.succ_mul];omega,ih]
theorem xW (l:List α)(i:Nat)(u:Value)(h:(cells E l)[i]? =some u):i / E.n<l.length/\(E.cs (l.getD (i / E.n) E.z))[i % E.n]? =some u:=by
 have hi:=(List.getElem?_eq_some_iff.1 h).1;rw[lq] at hi;have hj:i / E.n<l.length:=by rw[Nat.div_lt_iff_lt_mul E.pos];exact hi
 refine⟨hj,?_⟩;have hk:i % E.n<(E.cs (l.getD (i / E.n) E.z)).length:=by rw[E.len];exact Nat.mod_lt _ E.pos
 have h2:=nj (E:=E) l (i / E.n) hj (i % E.n) _ (List.getElem?_eq_getElem hk);rw[show i / E.n*E.n+i % E.n=i by rw[Nat.mul_comm];exact Nat.div_add_mod i E.n,h] at h2
 rw[List.getElem?_eq_getElem hk,h2]
def At (E:iE α)(w:World)(b o:Nat)(x:α):Prop:=∀k u,(E.cs x)[k]? =some u->w.cell? ⟨b,o+k,none⟩=some u
def aL (E:iE α)(w:World)(p:Option Addr)(l:List α):Prop:=l=[]∨∃b o,p=some ⟨b,o,none⟩/\∀j,j<l.length->At E w b (o+j*E.n) (l.getD j E.z)
theorem af {w w':World}{b o:Nat}{v:Value}(h:w.cell? ⟨b,o,none⟩=some v)(hb:Below w.heap.size w w'):w'.cell? ⟨b,o,none⟩=some v :=
 (hb.cell (p:=⟨b,o,none⟩) (World.block_lt_of_cell? _ _ h)).trans h
theorem At.below {w w':World}{b o:Nat}{x:α}(h:At E w b o x)(hb:Below w.heap.size w w'):At E w' b o x:=fun k u hu=>af (h k u hu) hb
theorem aL.below {w w':World}{p:Option Addr}{l:List α}(h:aL E w p l)(hb:Below w.heap.size w w'):aL E w' p l:=by
 rcases h with h | ⟨b,o,e,hc⟩
 ·exact .inl h
 ·exact .inr ⟨b,o,e,fun j hj=>(hc j hj).below hb⟩
theorem bj {w:World}{p:Option Addr}{l:List α}(h:aL E w p l){j:Nat}(hj:j<l.length):∃b o,p=some ⟨b,o,none⟩/\At E w b (o+j*E.n) (l.getD j E.z):=by
 rcases h with h | ⟨b,o,e,hc⟩
 ·rw [h] at hj;simp at hj
 ·exact ⟨b,o,e,hc j hj⟩
theorem vt {w:World}{g:Nat}{x:α}{t:TypeId}{fr:Nat×Nat}(h:w.heap[g]? =some (.cells (E.cs x).toArray t fr)):aL E w (some ⟨g,0,none⟩) [x]:=by
 refine .inr ⟨g,0,rfl,fun j hj=> ?_⟩
 obtain rfl:j=0:=by simpa using hj
 intro k u hu;rw[cell_of_row w g _ _ t fr h];simpa using hu
def Own (E:iE α)(T:TypeId)(B:Nat)(w:World)(v:Value)(l:List α):Prop:=w.ownsRow B T E.n v l.length (cells E l)
variable {w w':World}{T:TypeId}{B b:Nat}{v:Value}{l:List α}
theorem Own.none (E:iE α)(T:TypeId)(B:Nat)(w:World):Own E T B w (.slice Option.none 0 0) []:=World.ownsRow_nil _ _ _ _
theorem Own.on (h:Own E T B w v l)(hb:Below w.heap.size w w'):Own E T B w' v l:=aI h hb
theorem Own.lower {B':Nat}(h:Own E T B w v l)(hb:B'<=B):Own E T B' w v l:=cO h hb
theorem Own.gi (h:Own E T B w v l):∃p c,v=.slice p l.length c/\aL E w p l:=by
 have ho:=h;rcases h.2 with ⟨rfl,h0⟩ | ⟨g,cap,cur,rfl,h1,h2,h3⟩
 ·exact ⟨Option.none,0,by rw[h0],.inl (List.eq_nil_of_length_eq_zero h0)⟩
 ·refine ⟨_,cap,rfl,.inr ⟨g,0,rfl,fun j hj k u hu=> ?_⟩⟩
  have k0:=World.ownsRow.cells (g:=g) ho rfl _ _ (nj l j hj k u hu);rw[Zq.gM,<-Nat.add_assoc] at k0;exact k0
theorem Own.set {o:Nat}{u:Value}(h:Own E T B w v l)(hb:b<B):Own E T B (w.setCell ⟨b,o,Option.none⟩ u) v l:=by
 refine⟨h.1,?_⟩;rcases h.2 with h0 | ⟨g,cap,cur,rfl,h1,h2,h3⟩
 ·exact .inl h0
 ·exact .inr ⟨g,cap,cur,rfl,h1,(Below.heap_setCell _ _ _ _ (by simp;omega)).trans h2,h3⟩
theorem aD {w:World}{g:Nat}{o:Obj}(h:w.heap[g]? =some o):g<w.heap.size:=(Array.getElem?_eq_some_iff.1 h).1
structure bS (ts:List TypeId)(w w':World):Prop where
 size:w.heap.size<=w'.heap.size
 tD:∀(g:Nat) (o:Obj),w.heap[g]? =some o->(∀cs t z,o=Obj.cells cs t z->t∉ts)->w'.heap[g]? =some o
theorem bS.block {ts:List TypeId}(h:bS ts w w')(g:Nat)(cs:Array Value)(t:TypeId)(z:Nat×Nat)(e:w.heap[g]? =some (Obj.cells cs t z))(ht:t∉ts):w'.heap[g]? =some (Obj.cells cs t z) :=
 h.tD g _ e fun cs' t' z' k=>by
  simp only[Obj.cells.injEq] at k;exact k.2.1 ▸ ht
theorem bS.cw {ts:List TypeId}(hb:Below w.heap.size w w'):bS ts w w':=⟨hb.size,fun g _ e _=>(hb.block g (aD e)).trans e⟩
structure fN (ts:List TypeId)(w w':World):Prop where
 size:w.heap.size<=w'.heap.size
 block:∀(g:Nat) (cs:Array Value) (t:TypeId) (z:Nat×Nat),w.heap[g]? =some (Obj.cells cs t z)->t∈ts->w'.heap[g]? =some (Obj.cells cs t z)
theorem fN.cw {ts:List TypeId}(hb:Below w.heap.size w w'):fN ts w w':=⟨hb.size,fun g _ _ _ e _=>(hb.block g (aD e)).trans e⟩
theorem fN.trans {ts:List TypeId}{w2:World}(h:fN ts w w')(k:fN ts w' w2):fN ts w w2:=⟨Nat.le_trans h.size k.size,fun g cs t z e ht=>k.block g cs t z (h.block g cs t z e ht) ht⟩
theorem Own.off {ts:List TypeId}(h:Own E T B w v l)(ho:fN ts w w')(ht:T∈ts):Own E T B w' v l:=by
 refine⟨h.1,?_⟩;rcases h.2 with h0 | ⟨g,cap,cur,rfl,h1,h2,h3⟩
 ·exact .inl h0
 ·exact .inr ⟨g,cap,cur,rfl,h1,ho.block g _ _ _ h2 ht,h3⟩
theorem Own.kept {ts:List TypeId}(h:Own E T B w v l)(ho:bS ts w w')(ht:T∉ts):Own E T B w' v l:=by
 refine⟨h.1,?_⟩;rcases h.2 with h0 | ⟨g,cap,cur,rfl,h1,h2,h3⟩
 ·exact .inl h0
 ·exact .inr ⟨g,cap,cur,rfl,h1,ho.block g _ _ _ h2 ht,h3⟩
structure eu (P:Program)(E:iE α)(T ST:TypeId):Prop where
 sl:P.underlying ST=some (.slice T)
 info:∃zv Ma,(P.info? T).map (fun i=>(i.zero,i.size,i.bytes))=some (some zv,E.n,Ma)/\zv.cells.size=E.n/\Ma<=1000
theorem push {P:Program}{ST:TypeId}(L:eu P E T ST){u:World}{ops:Array Oper}{rest:List Oper}{o:Oper}{a:Act}{Q:Exit->Act->World->Prop}(hgd:o.guard=Option.none)(s y:Operand)
 (ho:o.op=.call { callee:=.builtin .append,args:= #[s,y],argTypes:= #[ST,ST] })
 (w0 wr:World) (v:Value) (hs:a.eval s=v) (l:List α) (n:Nat) (hn:l.length=n) (ax:Own E T w0.heap.size wr v l) (aW:Below w0.heap.size w0 wr) (hu:Below wr.heap.size wr u)
 (g:Nat) (x:α) {tg:TypeId} {fr:Nat×Nat} (hy:a.eval y=.slice (some ⟨g,0,Option.none⟩) 1 1) (hg:u.heap[g]? =some (.cells (E.cs x).toArray tg fr)) (aT:n<=100000)
 (h:∀p c w',Hid (Own E T w0.heap.size w' (.slice p (n+1) c) (l++[x]))->Below w0.heap.size w0 w'->wpList P ops Q rest (a.put o.dst (.slice p (n+1) c)) w'):wpList P ops Q (o :: rest) a u:=by
 subst hn;obtain⟨zv,Ma,Ps,S4,hby⟩:=L.info;obtain⟨i0,hi,hz0,hz1,hz2⟩:=info_parts Ps;have lU:(l.length+1)*Ma<=100001*1000:=Nat.mul_le_mul (by omega) hby
 refine wpList_append_own _ hgd s y ST ho w0.heap.size T i0 zv E.n Ma L.sl hi hz0 hz1 hz2 S4 E.pos v l.length (cells E l) hs (aI ax hu) ⟨g,0,Option.none⟩ 1 1 (E.cs x) hy (by rw[E.len,Nat.one_mul]) (fun j z hz=>World.news_of_block hg j z (by simpa using hz)) (E.one x) (by unfold maxLen;omega) (by omega) (Nat.le_trans aW.size hu.size) ?_
 intro v' w' ko hg2 _;have hb2:=(aW.trans (hu.mono aW.size)).grown hg2 (Nat.le_trans aW.size hu.size) (fun k hk=>(World.ownsRow.lt ax k hk).1)
 have R:Own E T w0.heap.size w' v' (l++[x]):=by
  unfold Own;rw[lT,List.length_append];exact ko
 obtain⟨p,c,rfl⟩:∃p c,v'=.slice p (l.length+1) c:=by
  rcases ko.2 with ⟨_,h0⟩ | ⟨g,cap,cur,rfl,_⟩
  ·omega
  ·exact ⟨_,cap,rfl⟩
 exact h p c w' R hb2
theorem rV {P:Program}{ST:TypeId}(L:eu P E T ST){u:World}{ops:Array Oper}{rest:List Oper}{o:Oper}{a:Act}{Q:Exit->Act->World->Prop}(hgd:o.guard=Option.none)(s y:Operand)
 (ho:o.op=.call { callee:=.builtin .append,args:= #[s,y],argTypes:= #[ST,ST] })
 (w0 wr:World) (v:Value) (hs:a.eval s=v) (l:List α) (n:Nat) (hn:l.length=n) (ax:Own E T w0.heap.size wr v l) (aW:Below w0.heap.size w0 wr) (hu:Below wr.heap.size wr u)
 (m:List α) (k c0:Nat) (p0:Option Addr) (hm:m.length=k) (hy:a.eval y=.slice p0 k c0) (hl:aL E u p0 m) (hnil:p0=Option.none->c0=0) (aT:n+k<=100000)
 (h:∀p c w',Hid (Own E T w0.heap.size w' (.slice p (n+k) c) (l++m))->Below w0.heap.size w0 w'->wpList P ops Q rest (a.put o.dst (.slice p (n+k) c)) w'):wpList P ops Q (o :: rest) a u:=by
 subst hn hm;obtain⟨zv,Ma,Ps,S4,hby⟩:=L.info;obtain⟨i0,hi,hz0,hz1,hz2⟩:=info_parts Ps;have lU:(l.length+m.length)*Ma<=100000*1000:=Nat.mul_le_mul (by omega) hby
 cases p0 with
 | none =>
   have Yj:m=[]:=by
    rcases hl with hl | ⟨b,o,e,-⟩
    ·exact hl
    ·cases e
   subst Yj;obtain rfl:=hnil rfl;have ho1:Own E T w0.heap.size u v l:=aI ax hu;refine wpList_append_own_none hgd s y ST ho w0.heap.size T i0 E.n L.sl hi v l.length (cells E l) hs ho1 hy ?_;obtain⟨p,c,rfl,-⟩:=ho1.gi;exact h p c u (by rw[List.append_nil];exact ho1) (aW.trans (hu.mono aW.size))
 | some ad =>
   refine wpList_append_own _ hgd s y ST ho w0.heap.size T i0 zv E.n Ma L.sl hi hz0 hz1 hz2 S4 E.pos v l.length (cells E l) hs (aI ax hu) ad m.length c0 (cells E m) hy (lq m) ?_ (xV m) (by unfold maxLen;omega) (by omega) (Nat.le_trans aW.size hu.size) ?_
   ·intro j z hz
    rcases hl with hl | ⟨b,o,e,hc⟩
    ·subst hl
     simp[cells] at hz
    ·simp only[Option.some.injEq] at e
     subst e;obtain⟨h1,h2⟩:=xW m j z hz;have h3:=hc _ h1 _ _ h2;rw[Zq.gM];rw[Nat.add_assoc,show j / E.n*E.n+j % E.n=j by rw[Nat.mul_comm];exact Nat.div_add_mod j E.n] at h3
     exact h3
   ·intro v' w' ko hg2 _
    have hb2:=(aW.trans (hu.mono aW.size)).grown hg2 (Nat.le_trans aW.size hu.size) (fun k hk=>(World.ownsRow.lt ax k hk).1)
    have R:Own E T w0.heap.size w' v' (l++m):=by
     unfold Own;rw[jD,List.length_append];exact ko
    obtain⟨p,c,e,-⟩:=R.gi;rw[List.length_append] at e;subst e;exact h p c w' R hb2
theorem qF (u:World)(B:Nat)(hB:B<=u.heap.size):Own E T B (u.alloc (.cells #[] T)) (.slice (some ⟨u.heap.size,0,Option.none⟩) 0 0) [] :=
 World.ownsRow_made u #[] 0 hB (Nat.zero_le _) (by simp)
end
def bX:iE Int:=⟨1,fun x=>[.int .i64 x],0,by decide,fun _=>rfl,fun x u hu=>by simp at hu;subst hu;rfl⟩
theorem bQ {w:World}{b:Nat}{v0 v1 v2 v3 v4:Value}{T:TypeId}(h:w.heap[b]? =some (.cells #[v0,v1,v2,v3,v4] T (0,0))):w.cell? ⟨b,0,none⟩=some v0/\w.cell? ⟨b,1,none⟩=some v1/\w.cell? ⟨b,2,none⟩=some v2/\w.cell? ⟨b,3,none⟩=some v3/\w.cell? ⟨b,4,none⟩=some v4 :=
 ⟨by rw[cell_of_row w b 0 _ _ (0,0) h];rfl,by rw[cell_of_row w b 1 _ _ (0,0) h];rfl,by rw[cell_of_row w b 2 _ _ (0,0) h];rfl,by rw[cell_of_row w b 3 _ _ (0,0) h];rfl,by rw[cell_of_row w b 4 _ _ (0,0) h];rfl⟩
theorem ag (w:World)(n:Nat):Below w.heap.size w (w.drewN n):=⟨rfl,rfl,rfl,Nat.le_refl _,fun _ _=>rfl⟩
theorem aA {α:Type}{l:List α}{j:Nat}(z:α)(h:j<l.length):l.take (j+1)=l.take j++[l.getD j z]:=by
 rw[List.take_add_one];simp[List.getD,h]
end Zp
namespace Zr
theorem jb {k:IntKind}{a b:Int}(h:a=b):Ending.returned (.int k a)=.returned (.int k b):=by rw[h]
theorem fQ (x:Int)(w:World) :
 Calls prog 70 #[.int .i64 x] w fun e w'=>e=.returned (.int .i64 (dh x))/\w=w':=by
 by_cases h1:x<0
 ·go_enter func70,ntmps70
  go_wp2;go_ret;exact⟨jb (by unfold dh;rw[if_pos h1]),rfl⟩
 ·by_cases h2:4611686018427387904<x
  ·go_enter func70,ntmps70
   go_wp2;go_ret;exact⟨jb (by unfold dh mX;rw[if_neg (by omega),if_pos h2]),rfl⟩
  ·go_enter func70,ntmps70
   go_wp2;go_ret;exact⟨jb (by unfold dh mX;rw[if_neg (by omega),if_neg (by omega)]),rfl⟩
theorem qG (a b:Int):add [a,b]=if 4611686018427387904-dh a<dh b then 4611686018427387904 else dh a+dh b:=by
 unfold add mX;rw[kC];by_cases h:4611686018427387904<dh a+dh b
 ·rw [if_pos h,if_pos (by omega)]
 ·rw [if_neg h,if_neg (by omega)]
theorem eP (a b:Int)(w:World) :
 Calls prog 50 #[.int .i64 a,.int .i64 b] w fun e w'=>e=.returned (.int .i64 (add [a,b]))/\w=w':=by
 have a0:=dD a;have a1:=dM a;have b0:=dD b;have b1:=dM b;have HE:=hid (qG a b);by_cases h:4611686018427387904-dh a<dh b
 ·go_enter func50,ntmps50
  go_wp2_with (go_at_call 70;refine(fQ _ _).mono ?_;rintro e w' ⟨rfl,rfl⟩)
  go_ret;exact⟨jb (by rw[HE.out,if_pos h]),rfl⟩
 ·go_enter func50,ntmps50
  go_wp2_with (go_at_call 70;refine(fQ _ _).mono ?_;rintro e w' ⟨rfl,rfl⟩)
  go_ret;exact⟨jb (by rw[HE.out,if_neg (by omega)]),rfl⟩
theorem S5 (a b:Int):sub a b=if dh a<dh b then 0 else dh a-dh b:=by
 have a1:=dM a;have b0:=dD b;have b1:=dM b;unfold sub;by_cases h:dh a<dh b
 ·rw [if_pos h];generalize dh a=x at *;generalize dh b=y at *;unfold dh;rw[if_pos (by omega)]
 ·rw [if_neg h,dN (by omega) (by omega)]
theorem lu (a b:Int)(w:World) :
 Calls prog 206 #[.int .i64 a,.int .i64 b] w fun e w'=>e=.returned (.int .i64 (sub a b))/\w=w':=by
 have a0:=dD a;have a1:=dM a;have b0:=dD b;have b1:=dM b;have HE:=hid (S5 a b);by_cases h:dh a<dh b
 ·go_enter func206,ntmps206
  go_wp2_with (go_at_call 70;refine(fQ _ _).mono ?_;rintro e w' ⟨rfl,rfl⟩)
  go_ret;exact⟨jb (by rw[HE.out,if_pos h]),rfl⟩
 ·have h':dh b<=dh a:=by omega
  go_enter func206,ntmps206
  go_wp2_with (go_at_call 70;refine(fQ _ _).mono ?_;rintro e w' ⟨rfl,rfl⟩)
  go_ret;exact⟨jb (by rw[HE.out,if_neg (by omega)]),rfl⟩
theorem I9 (l:List Int)(k:Nat)(h:k<l.length):add (l.take (k+1))=add [add (l.take k),l.getD k 0]:=by
 have e:l.take (k+1)=l.take k++[l.getD k 0]:=by
  rw[List.take_succ_eq_append_getElem h];simp[List.getD,h]
 have h1:sum (l.take (k+1))=sum (l.take k)+dh (l.getD k 0):=by rw[e,pF];simp[sum]
 have h2:=kC (add (l.take k)) (l.getD k 0);rw[PO] at h2;have h3:=dD (l.getD k 0);unfold add at h2 ⊢;rw[h1,h2];unfold mX
 repeat' split
 all_goals omega
theorem vu (l:List Int)(p:Option Addr)(c:Nat)(w:World)(hl:l.length<=100000)
 (hc:∀k:Nat,k<l.length->∃b o,p=some ⟨b,o,none⟩/\w.cell? ⟨b,o+k,none⟩=some (.int .i64 (l.getD k 0))) :
 Calls prog 72 #[.slice p l.length c] w fun e w'=>e=.returned (.int .i64 (add l))/\w=w':=by
 have HC:=hid hc;clear hc;go_enter func72,ntmps72
 go_wp2;go_loop [3,4] (fun s i=>∃k:Nat,k<=l.length/\i=.int .i64 (k:Int)/\s=.int .i64 (add (l.take k))) (fun _ i=>l.length-(intOf i).toNat)
 case atStart=>exact ⟨0,Nat.zero_le _,rfl,rfl⟩
 case round =>
  obtain⟨k,hk,rfl,rfl⟩:=hrel;by_cases aC:k<l.length
  ·have bE:(k:Int)<(l.length:Int):=by omega
   obtain⟨b,o,rfl,hcell⟩:=HC.out k aC;have HS:=hid (I9 l k aC);generalize l.getD k 0=x at *;go_wp2_with (go_at_call 50;refine(eP _ _ _).mono ?_;rintro e w' ⟨rfl,rfl⟩)
   go_round
   case rel=>exact ⟨k+1,by omega,by go_num,by rw[HS.out]⟩
   case measure=>simp only[intOf];omega
  ·have Bt:k=l.length:=by omega
   subst Bt;rw[List.take_length];go_wp2;go_ret;exact⟨rfl,rfl⟩
def cap (x:Int):Int:=if mX<x then mX else x
theorem PS (a b:Int):mul a b=cap (dh a*dh b):=rfl
theorem Hv {x y:Int}(hx:0<=x)(hy:0<=y):add [cap x,cap y]=cap (x+y):=by
 have h1:dh (cap x)=cap x:=by apply dN <;>(unfold cap mX;split <;>omega)
 have h2:dh (cap y)=cap y:=by apply dN <;>(unfold cap mX;split <;>omega)
 unfold add;rw[kC,h1,h2];unfold cap mX
 repeat' split
 all_goals omega
theorem PT {x y:Int}(hx:0<=x)(h0:0<=y)(h1:y<=4611686018427387904):add [cap x,y]=cap (x+y):=by
 have:cap y=y:=by unfold cap mX;rw[if_neg (by omega)]
 rw[<-Hv hx h0,this]
theorem uv (y:Int)(i:Nat):y / 2 ^ i=2*(y / 2 ^ (i+1))+y / 2 ^ i % 2:=by
 rw[Int.pow_succ,<-Int.ediv_ediv_of_nonneg (Int.le_of_lt (Int.pow_pos (by omega)))]
 generalize y / 2 ^ i=q;omega
theorem qH (a b:Int)(w:World) :
 Calls prog 207 #[.int .i64 a,.int .i64 b] w fun e w'=>e=.returned (.int .i64 (mul a b))/\w=w':=by
 have a0:=dD a;have a1:=dM a;have b0:=dD b;have b1:=dM b;have HM:=hid (PS a b);generalize mul a b=m at HM ⊢;have Yk:=fQ a;have Hw:=fQ b;generalize dh a=x at *;generalize dh b=y at *;go_enter func207,ntmps207
 go_wp2_with (first
  |(go_at_call 70;(with_reducible refine(Yk _).mono ?_);rintro e w' ⟨rfl,rfl⟩)
  |(go_at_call 70;(with_reducible refine(Hw _).mono ?_);rintro e w' ⟨rfl,rfl⟩))
 go_loop [7,8] (fun s i=>∃n:Nat,n<=63/\i=.int .i64 ((n:Int)-1)/\s=.int .i64 (cap (x*(y / 2 ^ n)))) (fun _ i=>(intOf i+1).toNat)
 case atStart =>
  refine⟨63,by omega,rfl,?_⟩
  rw[show y / 2 ^ 63=0 by apply Int.ediv_eq_zero_of_lt b0;omega]
  simp[cap,mX]
 case round =>
  obtain⟨n,hn,rfl,rfl⟩:=hrel;cases n with
  | zero =>
    go_wp2;go_ret;exact⟨jb HM.out.symm,rfl⟩
  | succ n =>
    rw[show ((n+1:Nat):Int)-1=(n:Int) by omega]
    have hq:=uv y n;have q0:0<=y / 2 ^ (n+1):=Int.ediv_nonneg b0 (Int.le_of_lt (Int.pow_pos (by omega)))
    have hs:add [cap (x*(y / 2 ^ (n+1))),cap (x*(y / 2 ^ (n+1)))]=cap (x*(2*(y / 2 ^ (n+1)))):=by
     rw[Hv (Int.mul_nonneg a0 q0) (Int.mul_nonneg a0 q0)]
     congr 1
     rw[Int.mul_left_comm,Int.two_mul]
    have ht:=PT (x:=x*(2*(y / 2 ^ (n+1)))) (y:=x) (Int.mul_nonneg a0 (by omega)) a0 a1
    have rW:=eP (cap (x*(y / 2 ^ (n+1)))) (cap (x*(y / 2 ^ (n+1))));have Bu:=eP (cap (x*(2*(y / 2 ^ (n+1))))) x;rw[hs] at rW;rw[ht] at Bu;have hb:y / 2 ^ n % 2=0∨y / 2 ^ n % 2=1:=by omega
    have y0:0<=y / 2 ^ n:=Int.ediv_nonneg b0 (Int.le_of_lt (Int.pow_pos (by omega)))
    rcases hb with hb | hb
    ·have HR:=hid (show x*(2*(y / 2 ^ (n+1)))=x*(y / 2 ^ n) by congr 1;omega)
     clear hs ht hq Bu;generalize y / 2 ^ (n+1)=q at *;go_wp2_with (go_at_call 50;(with_reducible refine(rW _).mono ?_);rintro e w' ⟨rfl,rfl⟩)
     go_round
     case rel=>exact ⟨n,by omega,by go_num,by rw[HR.out]⟩
     case measure=>simp only[intOf];omega
    ·have HR:=hid (show x*(2*(y / 2 ^ (n+1)))+x=x*(y / 2 ^ n) by rw[show y / 2 ^ n=2*(y / 2 ^ (n+1))+1 by omega,Int.mul_add,Int.mul_one])
     clear hs ht hq;generalize y / 2 ^ (n+1)=q at *;go_wp2_with (first
      |(go_at_call 50;(with_reducible refine(rW _).mono ?_);rintro e w' ⟨rfl,rfl⟩)
      |(go_at_call 50;(with_reducible refine(Bu _).mono ?_);rintro e w' ⟨rfl,rfl⟩))
     go_round
     case rel=>exact ⟨n,by omega,by go_num,by rw[HR.out]⟩
     case measure=>simp only[intOf];omega
end Zr
namespace Zu
open Zq (ae aj ai)
open Zp (iE aL Own At bS eu af aD)
def val (x:It):Value:=.agg #[.int .i64 x.id,.int .i64 x.key,.int .i64 x.cost,.int .i64 x.bU,.int .i64 x.cJ]
def aN:iE It:=⟨5,fun x=>[.int .i64 x.id,.int .i64 x.key,.int .i64 x.cost,.int .i64 x.bU,.int .i64 x.cJ],z,by decide,fun _=>rfl,fun x u hu=>by simp at hu;rcases hu with rfl | rfl | rfl | rfl | rfl <;>rfl⟩
theorem xu {w:World}{b o:Nat}{x:It}(h:At aN w b o x):w.cell? ⟨b,o,none⟩=some (.int .i64 x.id)/\w.cell? ⟨b,o+1,none⟩=some (.int .i64 x.key)/\w.cell? ⟨b,o+2,none⟩=some (.int .i64 x.cost)/\w.cell? ⟨b,o+3,none⟩=some (.int .i64 x.bU)/\w.cell? ⟨b,o+4,none⟩=some (.int .i64 x.cJ) :=
 ⟨h 0 _ rfl,h 1 _ rfl,h 2 _ rfl,h 3 _ rfl,h 4 _ rfl⟩
theorem bj {w:World}{p:Option Addr}{l:List It}(h:aL aN w p l){j:Nat}(hj:j<l.length):∃b o,p=some ⟨b,o,none⟩/\At aN w b (o+j*5) (l.getD j z):=Zp.bj h hj
theorem vv:eu prog aN 113 67:=⟨underlying67,.agg #[.int .i64 0,.int .i64 0,.int .i64 0,.int .i64 0,.int .i64 0],40,by kernel_rfl,rfl,by decide⟩
def Qu (B:Nat)(w:World)(v:Nat)(aw:Int)(l:List It):Prop:=B<=v/\∃y,w.heap[v]? =some (.cells #[.int .i64 aw,y] 90 (0,0))/\Own aN 113 B w y l
structure cS (B:Nat)(w:World)(v:Nat)(aw:Int)(l:List It)(w':World):Prop where
 qu:Qu B w' v aw l
 kept:bS [90] w w'
 below:Below B w w'
 only:∀g,g≠v->g<w.heap.size->w'.heap[g]? =w.heap[g]?
def lV (w:World)(b:Nat)(x:It):World:=((((w.setCell ⟨b,0,none⟩ (.int .i64 x.id)).setCell ⟨b,1,none⟩ (.int .i64 x.key)).setCell ⟨b,2,none⟩ (.int .i64 x.cost)).setCell ⟨b,3,none⟩ (.int .i64 x.bU)).setCell ⟨b,4,none⟩ (.int .i64 x.cJ)
theorem jU {w:World}{b:Nat}{c0 c1 c2 c3 c4:Value}{T:TypeId}(h:w.heap[b]? =some (.cells #[c0,c1,c2,c3,c4] T (0,0)))(x:It):(lV w b x).heap[b]? =some (.cells #[.int .i64 x.id,.int .i64 x.key,.int .i64 x.cost,.int .i64 x.bU,.int .i64 x.cJ] T (0,0)):=by
 unfold lV;rw[ai b 4 _ _ (ai b 3 _ _ (ai b 2 _ _ (ai b 1 _ _ (ai b 0 _ _ h))))];rfl
theorem iI {w w0:World}{b B:Nat}(h:Below B w0 w)(hb:B<=b)(x:It):Below B w0 (lV w b x) :=
 ((((h.setCell (p:=⟨b,0,none⟩) hb _).setCell (p:=⟨b,1,none⟩) hb _).setCell (p:=⟨b,2,none⟩) hb _).setCell (p:=⟨b,3,none⟩) hb _).setCell (p:=⟨b,4,none⟩) hb _
theorem jV {w:World}{b g:Nat}(x:It)(h:g≠b):(lV w b x).heap[g]? =w.heap[g]? :=
 (Below.heap_setCell _ _ _ _ (by simpa using h)).trans ((Below.heap_setCell _ _ _ _ (by simpa using h)).trans ((Below.heap_setCell _ _ _ _ (by simpa using h)).trans ((Below.heap_setCell _ _ _ _ (by simpa using h)).trans (Below.heap_setCell _ _ _ _ (by simpa using h)))))
theorem Mq {w:World}{B b:Nat}{y:Value}{l:List It}{T:TypeId}(h:Own aN T B w y l)(hb:b<B)(x:It):Own aN T B (lV w b x) y l :=
 Own.set (Own.set (Own.set (Own.set (Own.set h hb) hb) hb) hb) hb
end Zu
namespace Zz
open Zr (dh add dD dM)
open Zp (aA)
structure Nt where
 key:Int
 spent:Int
def z:Nt:=⟨0,0⟩
def bC (x:Int):Prop:= -9223372036854775808<=x/\x<=9223372036854775807
def jc (k e:Int)(x:Nt):Int:=if x.key=k then max (dh x.spent) (e / 2) else e
def of (l:List Nt)(k:Int):Int:=l.foldl (jc k) 0
def aF (e q m:Int):Int:=min (add [e,q]) (dh m)
def dA (k:Int)(s:List Int×Bool)(a:Int):List Int×Bool :=
 if s.2=false/\k<=a then (if a=k then s.1++[k] else s.1++[k]++[a],true) else (if a=k then s.1 else s.1++[a],s.2)
def dP (k:Int)(l:List Int):List Int×Bool:=l.foldl (dA k) ([],false)
def ja (k:Int)(l:List Int):List Int:=if (dP k l).2=true then (dP k l).1 else (dP k l).1++[k]
def Ja (L:List Nt)(s:List Int)(x:Nt):List Int:=if of L x.key=0 then s else ja x.key s
def lv (L l:List Nt):List Int:=l.foldl (Ja L) []
def aR (l:List Nt):List Int:=lv l l
def bh (k:Int):List Nt->Int×Nat
 | []=>(0,0)
 | x :: s=>if x.key=k then (max (bh k s).1 (dh x.spent / 2 ^ min (bh k s).2 63),(bh k s).2+1) else bh k s
theorem rT (k:Int)(s:List Int×Bool)(a:Int):(dA k s a).1.length+(if (dA k s a).2=true then 0 else 1)<=s.1.length+(if s.2=true then 0 else 1)+1:=by
 obtain⟨l,d⟩:=s;unfold dA;cases d <;>simp only <;>repeat' split <;>simp_all
theorem jS (k:Int)(l:List Int)(a:Int):dP k (l++[a])=dA k (dP k l) a:=by unfold dP;rw[List.foldl_append];rfl
theorem ln (k:Int)(l:List Int):(dP k l).1.length+(if (dP k l).2=true then 0 else 1)<=l.length+1:=by
 suffices h:∀(l:List Int) (s:List Int×Bool),(l.foldl (dA k) s).1.length+(if (l.foldl (dA k) s).2=true then 0 else 1)<=s.1.length+(if s.2=true then 0 else 1)+l.length by
  have:=h l ([],false);unfold dP;simp at this ⊢;omega
 intro l
 induction l with
 | nil=>intro s;exact Nat.le_refl _
 | cons a l ih =>
   intro s;have h1:=ih (dA k s a);have h2:=rT k s a;rw[List.foldl_cons,List.length_cons];omega
theorem vh (k:Int)(l:List Int):(ja k l).length<=l.length+1:=by
 have:=ln k l;unfold ja;split
 ·rename_i h
  rw[if_pos h] at this;omega
 ·rename_i h
  rw[if_neg h] at this;simp;omega
theorem Jb (k:Int){e:Int}(h:0<=e/\e<=4611686018427387904)(x:Nt):0<=jc k e x/\jc k e x<=4611686018427387904:=by
 have h1:=dD x.spent;have h2:=dM x.spent;unfold jc;split <;>omega
theorem Bv (k:Int):∀(l:List Nt){e:Int},0<=e/\e<=4611686018427387904->0<=l.foldl (jc k) e/\l.foldl (jc k) e<=4611686018427387904
 | [],_,h=>h
 | x :: l,_,h=>Bv k l (Jb k h x)
theorem S6 (l:List Nt)(k:Int):0<=of l k/\of l k<=4611686018427387904:=Bv k l (by omega)
theorem Hx (l:List Nt)(x:Nt)(k:Int):of (l++[x]) k=jc k (of l k) x:=by unfold of;rw[List.foldl_append];rfl
theorem PV (l:List Nt)(k s:Int):of (l++[⟨k,s⟩]) k=max (dh s) (of l k / 2):=by rw[Hx];unfold jc;rw[if_pos rfl]
theorem vw (l:List Nt){k k':Int}(s:Int)(h:k≠k'):of (l++[⟨k,s⟩]) k'=of l k':=by rw[Hx];unfold jc;rw[if_neg h]
theorem PX (e:Int)(n:Nat):e / 2 / 2 ^ n=e / 2 ^ (n+1):=by
 rw[Int.ediv_ediv_of_nonneg (by omega),<-Int.pow_succ']
theorem qI (n:Nat):(0:Int)<2 ^ n:=Int.pow_pos (by decide)
theorem PY (a b:Int)(n:Nat):max a b / 2 ^ n=max (a / 2 ^ n) (b / 2 ^ n):=by
 have hp:=qI n;rcases Int.le_total a b with h | h
 ·rw [Int.max_eq_right h,Int.max_eq_right (Int.ediv_le_ediv hp h)]
 ·rw [Int.max_eq_left h,Int.max_eq_left (Int.ediv_le_ediv hp h)]
theorem PZ {x:Int}(h0:0<=x)(h1:x<=4611686018427387904)(n:Nat):x / 2 ^ min n 63=x / 2 ^ n:=by
 by_cases h:n<=63
 ·rw [Nat.min_eq_left h]
 ·have e1:x / 2 ^ 63=0:=Int.ediv_eq_zero_of_lt h0 (by omega)
  have e2:x / 2 ^ n=0:=by
   rw[show n=63+(n-63) by omega,Int.pow_add,<-Int.ediv_ediv_of_nonneg (by omega),e1,Int.zero_ediv]
  rw[Nat.min_eq_right (by omega),e1,e2]
theorem zK (k:Int):∀(l:List Nt){e:Int},0<=e->l.foldl (jc k) e=max (bh k l).1 (e / 2 ^ (bh k l).2)
 | [],e,h=>by simp[bh];omega
 | x :: l,e,h=>by
   rw[List.foldl_cons];by_cases hk:x.key=k
   ·have h1:=dD x.spent
    have h2:=dM x.spent;have hs:jc k e x=max (dh x.spent) (e / 2):=by unfold jc;rw[if_pos hk]
    rw[hs,zK k l (by omega)]
    have hb:bh k (x :: l)=(max (bh k l).1 (dh x.spent / 2 ^ min (bh k l).2 63),(bh k l).2+1):=by
     show(if x.key=k then _ else _)=_
     rw[if_pos hk]
    rw[hb,PZ h1 h2,PY,PX];simp only;omega
   ·have hs:jc k e x=e:=by unfold jc;rw[if_neg hk]
    have hb:bh k (x :: l)=bh k l:=by
     show(if x.key=k then _ else _)=_
     rw[if_neg hk]
    rw[hs,hb,zK k l h]
theorem Ey (k:Int):∀l:List Nt,0<=(bh k l).1/\(bh k l).1<=4611686018427387904/\(bh k l).2<=l.length
 | []=>by simp[bh]
 | x :: l=>by
   obtain⟨h0,h1,h2⟩:=Ey k l;have f0:=dD x.spent;have f1:=dM x.spent;have hp:=qI (min (bh k l).2 63);have q0:0<=dh x.spent / 2 ^ min (bh k l).2 63:=Int.ediv_nonneg f0 (Int.le_of_lt hp);have q1:dh x.spent / 2 ^ min (bh k l).2 63<=dh x.spent:=Int.ediv_le_self _ f0;unfold bh;split
   ·simp only[List.length_cons]
    omega
   ·simp only[List.length_cons]
    omega
theorem VD (l:List Nt)(k:Int):(bh k l).1=of l k:=by
 have h:=zK k l (e:=0) (Int.le_refl _);have h0:=(Ey k l).1;rw[Int.zero_ediv] at h;unfold of;omega
theorem P2 {l:List Nt}{k:Int}(h:∀x∈l,x.key≠k):of l k=0:=by
 suffices hh:∀(l:List Nt) (e:Int),(∀x∈l,x.key≠k)->l.foldl (jc k) e=e from hh l 0 h
 intro l
 induction l with
 | nil=>intro e _;rfl
 | cons x l ih =>
   intro e hx;rw[List.foldl_cons,show jc k e x=e by unfold jc;rw[if_neg (hx x (by simp))]]
   exact ih e fun y hy=>hx y (by simp[hy])
theorem Jc (L l:List Nt)(x:Nt):lv L (l++[x])=Ja L (lv L l) x:=by unfold lv;rw[List.foldl_append];rfl
theorem P3 (L:List Nt){l:List Nt}{j:Nat}(h:j<l.length):lv L (l.take (j+1))=Ja L (lv L (l.take j)) (l.getD j z):=by
 rw[aA z h,Jc]
theorem P4 (L:List Nt)(s:List Int)(x:Nt):(Ja L s x).length<=s.length+1:=by
 unfold Ja;split
 ·omega
 ·exact vh _ _
theorem Bw (L:List Nt)(l:List Nt):(lv L l).length<=l.length:=by
 suffices h:∀(l:List Nt) (s:List Int),(l.foldl (Ja L) s).length<=s.length+l.length by
  have:=h l [];simp only[List.length_nil,Nat.zero_add] at this;exact this
 intro l
 induction l with
 | nil=>intro s;simp
 | cons a l ih =>
   intro s;have h1:=ih (Ja L s a);have h2:=P4 L s a;rw[List.foldl_cons,List.length_cons];omega
theorem fB (l:List Nt):(aR l).length<=l.length:=Bw l l
theorem jW (k:Int):∀(n:Nat)(l:List Int),l.length=n->l.Pairwise (·<·)->dP k l=if ∃a∈l,k<=a then (l.filter (fun x=>decide (x<k))++[k]++l.filter (fun x=>decide (k<x)),true) else (l,false)
 | 0,l,hn,_=>by
   obtain rfl:=List.eq_nil_of_length_eq_zero hn;simp[dP]
 | n+1,l,hn,h=>by
   obtain⟨m,a,rfl⟩:∃m a,l=m++[a]:=⟨l.dropLast,l.getLast (by intro e;subst e;simp at hn),(List.dropLast_concat_getLast _).symm⟩
   rw[List.pairwise_append] at h;obtain⟨h1,-,h3⟩:=h;have h3:∀x∈m,x<a:=fun x hx=>h3 x hx a (by simp)
   rw[jS,jW k n m (by simpa using hn) h1]
   by_cases hex:∃a∈m,k<=a
   ·obtain ⟨b,hb,hkb⟩:=hex
    have:=h3 b hb;rw[if_pos ⟨b,hb,hkb⟩,if_pos ⟨a,by simp,by omega⟩]
    unfold dA;simp only[Bool.true_eq_false,false_and,if_false];rw[if_neg (by omega)]
    simp[show ¬a<k by omega,show k<a by omega]
   ·rw [if_neg hex]
    have hall:∀x∈m,x<k:=fun x hx=>by
     by_cases hc:k<=x
     ·exact absurd ⟨x,hx,hc⟩ hex
     ·omega
    have f1:m.filter (fun x=>decide (x<k))=m:=List.filter_eq_self.2 fun x hx=>by simpa using hall x hx
    have f2:m.filter (fun x=>decide (k<x))=[]:=List.filter_eq_nil_iff.2 fun x hx=>by have:=hall x hx;simp;omega
    by_cases hka:k<=a
    ·rw [if_pos (show ∃x∈m++[a],k<=x from⟨a,by simp,hka⟩)]
     by_cases e:a=k
     ·subst e
      have e1:dA a (m,false) a=(m++[a],true):=by unfold dA;simp
      rw[e1];simp[f1,f2]
     ·have e1:dA k (m,false) a=(m++[k]++[a],true):=by unfold dA;simp[hka,e]
      rw[e1];simp[f1,f2,show ¬a<k by omega,show k<a by omega]
    ·have e1:dA k (m,false) a=(m++[a],false):=by unfold dA;simp[hka,show ¬a=k by omega]
     rw[e1,if_neg];rintro⟨x,hx,hc⟩;rcases List.mem_append.1 hx with hx | hx
     ·exact hex ⟨x,hx,hc⟩
     ·rw [List.mem_singleton.1 hx] at hc
      exact hka hc
theorem rX (k:Int){l:List Int}(h:l.Pairwise (·<·)):ja k l=l.filter (fun x=>decide (x<k))++[k]++l.filter (fun x=>decide (k<x)):=by
 unfold ja;rw[jW k _ l rfl h];by_cases hex:∃a∈l,k<=a
 ·rw [if_pos hex];rfl
 ·rw [if_neg hex]
  have hall:∀x∈l,x<k:=fun x hx=>by
   by_cases hc:k<=x
   ·exact absurd ⟨x,hx,hc⟩ hex
   ·omega
  have f1:l.filter (fun x=>decide (x<k))=l:=List.filter_eq_self.2 fun x hx=>by simpa using hall x hx
  have f2:l.filter (fun x=>decide (k<x))=[]:=List.filter_eq_nil_iff.2 fun x hx=>by have:=hall x hx;simp;omega
  rw[f1,f2,List.append_nil];rfl
theorem ot (k:Int){l:List Int}(h:l.Pairwise (·<·)):(ja k l).Pairwise (·<·)/\∀x,x∈ja k l↔x=k∨x∈l:=by
 rw[rX k h];refine⟨?_,fun x=> ?_⟩
 ·rw [List.append_assoc,List.pairwise_append]
  refine⟨h.filter _,?_,fun x hx y hy=> ?_⟩
  ·rw [List.singleton_append,List.pairwise_cons]
   exact⟨fun y hy=>by simpa using(List.mem_filter.1 hy).2,h.filter _⟩
  ·have h1:x<k:=by simpa using(List.mem_filter.1 hx).2
   rcases List.mem_append.1 hy with hy | hy
   ·rw [List.mem_singleton.1 hy];exact h1
   ·have h2:k<y:=by simpa using(List.mem_filter.1 hy).2
    omega
 ·simp only[List.mem_append,List.mem_filter,List.mem_singleton,decide_eq_true_eq]
  constructor
  ·rintro ((h | h) | h)
   ·exact .inr h.1
   ·exact .inl h
   ·exact .inr h.1
  ·rintro (h | h)
   ·exact .inl (.inr h)
   ·rcases Int.lt_trichotomy x k with e | e | e
    ·exact .inl (.inl ⟨h,e⟩)
    ·exact .inl (.inr e)
    ·exact .inr ⟨h,e⟩
theorem rY (L:List Nt)(l:List Nt):(lv L l).Pairwise (·<·)/\∀k,k∈lv L l↔of L k≠0/\∃x∈l,x.key=k:=by
 suffices h:∀(l:List Nt) (s:List Int),s.Pairwise (·<·)->(l.foldl (Ja L) s).Pairwise (·<·)/\∀k,k∈l.foldl (Ja L) s↔k∈s∨of L k≠0/\∃x∈l,x.key=k by
  have:=h l [] .nil;refine⟨this.1,fun k=>(this.2 k).trans (by simp)⟩
 intro l
 induction l with
 | nil=>intro s hs;exact⟨hs,fun k=>by simp⟩
 | cons a l ih =>
   intro s hs;rw[List.foldl_cons];by_cases h0:of L a.key=0
   ·have e:Ja L s a=s:=by unfold Ja;rw[if_pos h0]
    rw[e];obtain⟨i1,i2⟩:=ih s hs;refine⟨i1,fun k=>(i2 k).trans ⟨?_,?_⟩⟩
    ·rintro (h | ⟨h,x,hx,e⟩)
     ·exact .inl h
     ·exact .inr ⟨h,x,by simp[hx],e⟩
    ·rintro (h | ⟨h,x,hx,ex⟩)
     ·exact .inl h
     ·rcases List.mem_cons.1 hx with rfl | hx
      ·rw [ex] at h0;exact absurd h0 h
      ·exact .inr ⟨h,x,hx,ex⟩
   ·have e:Ja L s a=ja a.key s:=by unfold Ja;rw[if_neg h0]
    rw[e];obtain⟨k1,k2⟩:=ot a.key hs;obtain⟨i1,i2⟩:=ih _ k1;refine⟨i1,fun k=>(i2 k).trans ⟨?_,?_⟩⟩
    ·rintro (h | ⟨h,x,hx,e⟩)
     ·rcases (k2 k).1 h with rfl | h
      ·exact .inr ⟨h0,a,by simp,rfl⟩
      ·exact .inl h
     ·exact .inr ⟨h,x,by simp[hx],e⟩
    ·rintro (h | ⟨h,x,hx,ex⟩)
     ·exact .inl ((k2 k).2 (.inr h))
     ·rcases List.mem_cons.1 hx with rfl | hx
      ·exact .inl ((k2 k).2 (.inl ex.symm))
      ·exact .inr ⟨h,x,hx,ex⟩
theorem eX (l:List Nt):(aR l).Pairwise (·<·):=(rY l l).1
theorem iq (l:List Nt)(k:Int):k∈aR l↔of l k≠0:=by
 refine((rY l l).2 k).trans ⟨fun h=>h.1,fun h=>⟨h,?_⟩⟩
 by_cases hx:∃x∈l,x.key=k
 ·exact hx
 ·exact absurd (P2 fun x hm e=>hx ⟨x,hm,e⟩) h
theorem lW:∀{a b:List Int},a.Pairwise (·<·)->b.Pairwise (·<·)->(∀x,x∈a↔x∈b)->a=b
 | [],[],_,_,_=>rfl
 | [],y :: b,_,_,h=>by have:=(h y).2 (by simp);simp at this
 | x :: a,[],_,_,h=>by have:=(h x).1 (by simp);simp at this
 | x :: a,y :: b,ha,hb,h=>by
   obtain⟨a1,a2⟩:=List.pairwise_cons.1 ha;obtain⟨b1,b2⟩:=List.pairwise_cons.1 hb;have e:x=y:=by
    have h1:=(h x).1 (by simp)
    have h2:=(h y).2 (by simp)
    rcases List.mem_cons.1 h1 with h1 | h1
    ·exact h1
    ·rcases List.mem_cons.1 h2 with h2 | h2
     ·exact h2.symm
     ·have:=b1 x h1
      have:=a1 y h2;omega
   subst e;refine congrArg (x :: ·) (lW a2 b2 fun w=>⟨fun hw=> ?_,fun hw=> ?_⟩)
   ·rcases List.mem_cons.1 ((h w).1 (by simp[hw])) with e | e
    ·have:=a1 w hw;omega
    ·exact e
   ·rcases List.mem_cons.1 ((h w).2 (by simp[hw])) with e | e
    ·have:=b1 w hw;omega
    ·exact e
theorem xX (l:List Nt){k s:Int}(h:of (l++[⟨k,s⟩]) k=0):aR (l++[⟨k,s⟩])=(aR l).filter (fun x=> !(x==k)) :=
 lW (eX _) ((eX _).filter _) fun x=>by
  rw[iq,List.mem_filter,iq];by_cases e:x=k
  ·subst e;simp[h]
  ·rw [vw l s (Ne.symm e)];simp[e]
theorem Jd (l:List Nt){k s:Int}(h:of (l++[⟨k,s⟩]) k≠0):aR (l++[⟨k,s⟩])=ja k (aR l) :=
 lW (eX _) (ot k (eX l)).1 fun x=>by
  rw[iq,(ot k (eX l)).2,iq];by_cases e:x=k
  ·subst e;simp[h]
  ·rw [vw l s (Ne.symm e)];simp[e]
open Zq (ae aj ai)
open Zp (iE aL Own At bS eu af aD)
def val (x:Nt):Value:=.agg #[.int .i64 x.key,.int .i64 x.spent]
def vx:iE Nt:=⟨2,fun x=>[.int .i64 x.key,.int .i64 x.spent],z,by decide,fun _=>rfl,fun x u hu=>by simp at hu;rcases hu with rfl | rfl <;>rfl⟩
theorem at2 {w:World}{b o:Nat}{x:Nt}(h:At vx w b o x):w.cell? ⟨b,o,none⟩=some (.int .i64 x.key)/\w.cell? ⟨b,o+1,none⟩=some (.int .i64 x.spent):=⟨h 0 _ rfl,h 1 _ rfl⟩
theorem bj {w:World}{p:Option Addr}{l:List Nt}(h:aL vx w p l){j:Nat}(hj:j<l.length):∃b o,p=some ⟨b,o,none⟩/\At vx w b (o+j*2) (l.getD j z):=Zp.bj h hj
theorem xY:eu prog vx 244 93:=⟨underlying93,.agg #[.int .i64 0,.int .i64 0],16,by kernel_rfl,rfl,by decide⟩
def Dm (B:Nat)(w:World)(v:Nat)(l:List Nt):Prop:=B<=v/\∃y,w.heap[v]? =some (.cells #[y] 95 (0,0))/\Own vx 244 B w y l
structure cS (B:Nat)(w:World)(v:Nat)(l:List Nt)(w':World):Prop where
 dm:Dm B w' v l
 kept:bS [95] w w'
 below:Below B w w'
end Zz
namespace Zx
open Go.RowKit Zq
theorem S7 (x lo hi:Int)(w:World)(h:cy x lo hi=true):Calls prog 110 #[.int .i64 x,.int .i64 lo,.int .i64 hi] w fun e w'=>e=.returned (.bool true)/\w=w':=by
 obtain⟨h0,h1⟩:=mY h;clear h;go_enter func110,ntmps110
 go_wp2;go_ret;exact⟨rfl,rfl⟩
theorem VE (x lo hi:Int)(w:World)(h:cy x lo hi=false):Calls prog 110 #[.int .i64 x,.int .i64 lo,.int .i64 hi] w fun e w'=>e=.returned (.bool false)/\w=w':=by
 rcases zG h with h0 | ⟨h0,h1⟩
 ·clear h
  go_enter func110,ntmps110
  go_wp2;go_ret;exact⟨rfl,rfl⟩
 ·have h2:decide (x<=hi)=false:=by simp;omega
  clear h h1;go_enter func110,ntmps110
  go_wp2;go_ret;exact⟨rfl,rfl⟩
theorem jX (x lo hi:Int)(w:World):Calls prog 110 #[.int .i64 x,.int .i64 lo,.int .i64 hi] w fun e w'=>e=.returned (.bool (cy x lo hi))/\w=w':=by
 cases h:cy x lo hi with
 | true=>exact S7 x lo hi w h
 | false=>exact VE x lo hi w h
theorem Hy (x:Int)(w:World):Calls prog 43 #[.int .i64 x] w fun e w'=>e=.returned (.bool (fI x))/\w=w':=by
 by_cases h0:x<0
 ·have e:fI x=false:=by simp[fI];omega
  rw[e];clear e;go_enter func43,ntmps43
  go_wp2;go_ret;exact⟨rfl,rfl⟩
 ·have h1:0<=x:=by omega
  have e:fI x=decide (x<524288):=by simp[fI];omega
  rw[e];clear e h0;go_enter func43,ntmps43
  go_wp2;go_ret;exact⟨rfl,rfl⟩
theorem ag {B:Nat}{a w:World}(h:Below B a w)(n:Nat):Below B a (w.drewN n):=⟨h.os,h.tape,h.output,h.size,h.block⟩
def cG (w:World)(b:Bool)(e:Ending)(w':World):Prop:=e=.returned (.bool b)/\Below w.heap.size w w'
theorem S8 (k a m start:Int)(p:Option Addr)(n c:Nat)(w:World)(hn:(n:Int)<=9223372036854775807)(h:(fI k&&cy a 0 2147483648&&cy m start 4611686018427387904&&decide (n<=64))=false) :
 Calls prog 165 #[.agg #[.int .i64 k,.int .i64 a,.int .i64 m,.slice p n c],.int .i64 start] w (cG w false):=by
 have ck:=fun u=>Hy k u
 have ca:=fun u=>jX a 0 2147483648 u
 have cm:=fun u=>jX m start 4611686018427387904 u
 generalize fI k=bk at ck h;generalize cy a 0 2147483648=ba at ca h;generalize cy m start 4611686018427387904=bm at cm h;have h4:bk=false∨(bk=true/\ba=false)∨(bk=true/\ba=true/\bm=false)∨(bk=true/\ba=true/\bm=true/\64<(n:Int)):=by
  cases bk <;>cases ba <;>cases bm <;>simp at h ⊢
  omega
 clear h;rcases h4 with rfl | ⟨rfl,rfl⟩ | ⟨rfl,rfl,rfl⟩ | ⟨rfl,rfl,rfl,h5⟩
 ·go_enter func165,ntmps165
  go_wp2_with (first
   |(go_at_call 43;(with_reducible refine(ck _).mono ?_);rintro e w1 ⟨rfl,rfl⟩)
   |(go_at_call 110;(with_reducible refine(ca _).mono ?_);rintro e w1 ⟨rfl,rfl⟩)
   |(go_at_call 110;(with_reducible refine(cm _).mono ?_);rintro e w1 ⟨rfl,rfl⟩))
  go_ret;exact⟨rfl,(Below.refl _ _).alloc (Nat.le_refl _) _⟩
 ·go_enter func165,ntmps165
  go_wp2_with (first
   |(go_at_call 43;(with_reducible refine(ck _).mono ?_);rintro e w1 ⟨rfl,rfl⟩)
   |(go_at_call 110;(with_reducible refine(ca _).mono ?_);rintro e w1 ⟨rfl,rfl⟩)
   |(go_at_call 110;(with_reducible refine(cm _).mono ?_);rintro e w1 ⟨rfl,rfl⟩))
  go_ret;exact⟨rfl,(Below.refl _ _).alloc (Nat.le_refl _) _⟩
 ·go_enter func165,ntmps165
  go_wp2_with (first
   |(go_at_call 43;(with_reducible refine(ck _).mono ?_);rintro e w1 ⟨rfl,rfl⟩)
   |(go_at_call 110;(with_reducible refine(ca _).mono ?_);rintro e w1 ⟨rfl,rfl⟩)
   |(go_at_call 110;(with_reducible refine(cm _).mono ?_);rintro e w1 ⟨rfl,rfl⟩))
  go_ret;exact⟨rfl,(Below.refl _ _).alloc (Nat.le_refl _) _⟩
 ·go_enter func165,ntmps165
  go_wp2_with (first
   |(go_at_call 43;(with_reducible refine(ck _).mono ?_);rintro e w1 ⟨rfl,rfl⟩)
   |(go_at_call 110;(with_reducible refine(ca _).mono ?_);rintro e w1 ⟨rfl,rfl⟩)
   |(go_at_call 110;(with_reducible refine(cm _).mono ?_);rintro e w1 ⟨rfl,rfl⟩))
  go_ret;exact⟨rfl,(Below.refl _ _).alloc (Nat.le_refl _) _⟩
theorem jd {l:List (Int×Int)}{i:Nat}(h:cy (l.getD i (0,0)).1 0 63=false∨cy (l.getD i (0,0)).2 1 2147483648=false∨(0<i/\(l.getD i (0,0)).1<=(l.getD (i-1) (0,0)).1)):di l i=false:=by
 unfold di;rcases h with h | h | ⟨h0,h1⟩
 ·rw [h];simp
 ·rw [h];simp
 ·have:(i==0||decide ((l.getD (i-1) (0,0)).1<(l.getD i (0,0)).1))=false:=by
   rw[Bool.or_eq_false_iff];exact⟨by simp;omega,decide_eq_false (by omega)⟩
  rw[this];simp
theorem vy {l:List (Int×Int)}{i:Nat}(h0:cy (l.getD i (0,0)).1 0 63=true)(h1:cy (l.getD i (0,0)).2 1 2147483648=true)(h2:i=0∨(l.getD (i-1) (0,0)).1<(l.getD i (0,0)).1):di l i=true:=by
 unfold di;rw[h0,h1,Bool.and_true,Bool.true_and,Bool.or_eq_true];rcases h2 with h2 | h2
 ·exact .inl (by simp[h2])
 ·exact .inr (decide_eq_true h2)
theorem qJ (x lo hi:Int)(w:World)(b:Bool)(h:cy x lo hi=b):Calls prog 110 #[.int .i64 x,.int .i64 lo,.int .i64 hi] w fun e w'=>e=.returned (.bool b)/\w'=w:=by
 rw[<-h];exact(jX x lo hi w).mono fun _ _ ⟨a,c⟩=>⟨a,c.symm⟩
theorem P7 (k a m start:Int)(p:Option Addr)(l:List (Int×Int))(c:Nat)(w:World)(h:(fI k&&cy a 0 2147483648&&cy m start 4611686018427387904)=true)(hn:l.length<=64)(hl:ak w p l) :
 Calls prog 165 #[.agg #[.int .i64 k,.int .i64 a,.int .i64 m,.slice p l.length c],.int .i64 start] w (cG w (dC (di l) l.length)):=by
 have ck:=fun u=>Hy k u
 have ca:=fun u=>jX a 0 2147483648 u
 have cm:=fun u=>jX m start 4611686018427387904 u
 simp only[Bool.and_eq_true] at h;rw[h.1.1] at ck;rw[h.1.2] at ca;rw[h.2] at cm;have HL:=hid hl;clear h hl;generalize hB:dC (di l) l.length=R;have HB:=hid hB;clear hB;go_enter func165,ntmps165
 go_wp2_with (first
  |(go_at_call 43;(with_reducible refine(ck _).mono ?_);rintro e w1 ⟨rfl,rfl⟩)
  |(go_at_call 110;(with_reducible refine(ca _).mono ?_);rintro e w1 ⟨rfl,rfl⟩)
  |(go_at_call 110;(with_reducible refine(cm _).mono ?_);rintro e w1 ⟨rfl,rfl⟩))
 generalize hw0:w.alloc (.cells #[.int .i64 k,.int .i64 a,.int .i64 m,.slice p l.length c] 80)=w0;have b0:Below w.heap.size w w0:=by rw[<-hw0];exact(Below.refl _ _).alloc (Nat.le_refl _) _
 have z0:w0.heap.size=w.heap.size+1:=by rw[<-hw0];simp
 have k3:w0.cell? ⟨w.heap.size,3,none⟩=some (.slice p l.length c):=by
  rw[<-hw0,cell_of_row _ _ 3 _ _ (0,0) (heap_alloc_new w _)];rfl
 have HK:=hid k3;have HZ:=hid z0;clear hw0 k3 z0 ck ca cm;go_loopw [6] (fun i wr=>∃j:Nat,j<=l.length/\i=.int .i64 (j:Int)/\Hid (∀q,q<j->di l q=true)/\Below w0.heap.size w0 wr) (fun i _=>l.length-(intOf i).toNat)
 case atStart=>exact ⟨0,by omega,rfl,(by intro q hq;omega),Below.refl _ _⟩
 case round =>
  obtain⟨j,hj,rfl,o7,hb⟩:=hrel;have c3:wr.cell? ⟨w.heap.size,3,none⟩=some (.slice p l.length c):=af HK.out hb;have Ez:ak wr p l:=(HL.out.below b0).below hb;by_cases aC:j<l.length
  ·obtain ⟨g,o,rfl,hc⟩:∃g o,p=some ⟨g,o,none⟩/\∀j,j<l.length->wr.cell? ⟨g,o+j*2,none⟩=some (.int .i64 (l.getD j (0,0)).1)/\wr.cell? ⟨g,o+j*2+1,none⟩=some (.int .i64 (l.getD j (0,0)).2):=by
    rcases Ez with h | h
    ·rw [h] at aC;simp at aC
    ·exact h
   have hc0:=(hc j aC).1;have hc1:=(hc j aC).2;have Mr:0<j->wr.cell? ⟨g,o+(j-1)*2,none⟩=some (.int .i64 (l.getD (j-1) (0,0)).1):=fun _=>(hc (j-1) (by omega)).1
   have hwl:w.heap.size<wr.heap.size:=by have:=hb.size;have:=HZ.out;omega
   have Mb:g<wr.heap.size:=World.block_lt_of_cell? _ _ hc0;have rM:=hid (jd (l:=l) (i:=j));have ku:=hid (vy (l:=l) (i:=j));generalize(l.getD j (0,0)).1=x at hc0 rM ku;generalize(l.getD j (0,0)).2=y at hc1 rM ku;generalize(l.getD (j-1) (0,0)).1=z at Mr rM ku;clear Ez hc;have hb1:Below w0.heap.size w0 (wr.alloc (.cells #[.int .i64 x,.int .i64 y] 141)):=hb.alloc hb.size _;cases hx:cy x 0 63 with
   | false =>
     obtain rfl:R=false:=by rw[<-HB.out];exact cU aC (rM.out (.inl hx))
     have q1:=fun u=>qJ x 0 63 u false hx
     clear hx Mr rM ku;go_wp2;go_quiet ((go_at_call 110;exact Calls.quiet_of_same (q1 _)))
     go_wp2;go_ret;exact⟨rfl,b0.trans ((ag hb1 _).mono b0.size)⟩
   | true =>
     have q1:=fun u=>qJ x 0 63 u true hx
     cases hy:cy y 1 2147483648 with
     | false =>
       obtain rfl:R=false:=by rw[<-HB.out];exact cU aC (rM.out (.inr (.inl hy)))
       have q2:=fun u=>qJ y 1 2147483648 u false hy
       clear hx hy Mr rM ku;go_wp2;go_quiet ((first | (go_at_call 110;with_reducible exact Calls.quiet_of_same (q1 _)) | (go_at_call 110;with_reducible exact Calls.quiet_of_same (q2 _))))
       go_wp2;go_ret;exact⟨rfl,b0.trans ((ag hb1 _).mono b0.size)⟩
     | true =>
       have q2:=fun u=>qJ y 1 2147483648 u true hy
       by_cases h0:0<j
       ·have hp:=Mr h0
        have VF:(0:Int)<(j:Int):=by omega
        by_cases hz:x<=z
        ·obtain rfl:R=false:=by rw[<-HB.out];exact cU aC (rM.out (.inr (.inr ⟨h0,hz⟩)))
         have hd:decide (x<=z)=true:=decide_eq_true hz;clear hx hy Mr rM ku hz;go_wp2;have bE:(j:Int)<(l.length:Int):=by omega
         have e2:0<=(j:Int)-1:=by omega
         have e4:(j:Int)-1<(l.length:Int):=by omega
         have e3:((j:Int)-1).toNat=j-1:=by omega
         have e1:IntKind.i64.wrap ((j:Int)-1)=(j:Int)-1:=IntWalk.i64_in _ (by omega)
         go_quiet ((first | (go_at_call 110;with_reducible exact Calls.quiet_of_same (q1 _)) | (go_at_call 110;with_reducible exact Calls.quiet_of_same (q2 _))))
         clear e1 e3;go_wp2;go_ret;exact⟨rfl,b0.trans ((ag hb1 _).mono b0.size)⟩
        ·have HJ:=hid (ku.out hx hy (.inr (by omega)))
         have hd:decide (x<=z)=false:=decide_eq_false hz;clear hx hy Mr rM ku hz;go_wp2;have bE:(j:Int)<(l.length:Int):=by omega
         have e2:0<=(j:Int)-1:=by omega
         have e4:(j:Int)-1<(l.length:Int):=by omega
         have e3:((j:Int)-1).toNat=j-1:=by omega
         have e1:IntKind.i64.wrap ((j:Int)-1)=(j:Int)-1:=IntWalk.i64_in _ (by omega)
         go_quiet ((first | (go_at_call 110;with_reducible exact Calls.quiet_of_same (q1 _)) | (go_at_call 110;with_reducible exact Calls.quiet_of_same (q2 _))))
         clear e1 e3;go_wp2;go_roundw
         case rel=>exact ⟨j+1,by omega,by go_num,(by intro q hq;rcases Nat.lt_succ_iff_lt_or_eq.1 hq with h | h;exact o7.out q h;rw[h];exact HJ.out),ag hb1 _⟩
         case measure=>simp [intOf];omega
       ·have HJ:=hid (ku.out hx hy (.inl (by omega)))
        have VF:decide ((0:Int)<(j:Int))=false:=by simp;omega
        clear hx hy Mr rM ku;go_wp2;go_quiet ((first | (go_at_call 110;with_reducible exact Calls.quiet_of_same (q1 _)) | (go_at_call 110;with_reducible exact Calls.quiet_of_same (q2 _))))
        go_wp2;go_roundw
        case rel=>exact ⟨j+1,by omega,by go_num,(by intro q hq;rcases Nat.lt_succ_iff_lt_or_eq.1 hq with h | h;exact o7.out q h;rw[h];exact HJ.out),ag hb1 _⟩
        case measure=>simp [intOf];omega
  ·obtain rfl:j=l.length:=by omega
   obtain rfl:R=true:=by rw[<-HB.out];exact dO o7.out
   go_wp2;go_ret;exact⟨rfl,b0.trans (hb.mono b0.size)⟩
theorem P8 (r:Rw)(start:Int)(p:Option Addr)(c:Nat)(w:World)(hn:(r.out.length:Int)<=9223372036854775807)(hl:ak w p r.out) :
 Calls prog 165 #[.agg #[.int .i64 r.key,.int .i64 r.ay,.int .i64 r.mark,.slice p r.out.length c],.int .i64 start] w (cG w (iY r start)):=by
 unfold iY;cases h:(fI r.key&&cy r.ay 0 2147483648&&cy r.mark start 4611686018427387904&&decide (r.out.length<=64)) with
 | false =>
   rw[Bool.false_and];exact S8 _ _ _ _ _ _ _ _ hn h
 | true =>
   rw[Bool.true_and];rw[Bool.and_eq_true] at h;exact P7 _ _ _ _ _ _ _ _ h.1 (of_decide_eq_true h.2) hl
end Zx
namespace Zp
open Zq (aI cO ae aj ai cL)
section
variable {α:Type}{E:iE α}{T:TypeId}{B:Nat}{w w':World}{v1 v2:Value}{l1 l2:List α}
theorem dQ {v:Value}{l:List α}(h:Own E T B w v l)(hk:∀b,v.ownBlock=some b->w'.heap[b]? =w.heap[b]?):Own E T B w' v l:=by
 refine⟨h.1,?_⟩;rcases h.2 with h0 | ⟨g,cap,cur,rfl,h1,h2,h3⟩
 ·exact .inl h0
 ·exact .inr ⟨g,cap,cur,rfl,h1,(hk g rfl).trans h2,h3⟩
theorem jo {v:Value}{l:List α}(h:Own E T B w v l){b:Nat}(hb:v.ownBlock=some b):b<w.heap.size:=by
 rcases h.2 with ⟨rfl,-⟩ | ⟨g,cap,cur,rfl,h1,h2,-⟩
 ·simp [Value.ownBlock] at hb
 ·simp only[Value.ownBlock,Option.some.injEq] at hb
  subst hb;exact ae h2
end
theorem ou {w:World}{b:Nat}{cs:Array Value}{T:TypeId}(h:w.heap[b]? =some (.cells cs T (0,0))):w.frozen? ⟨b,0,none⟩=false/\w.frozen? ⟨b,1,none⟩=false/\w.frozen? ⟨b,2,none⟩=false/\w.frozen? ⟨b,3,none⟩=false/\w.frozen? ⟨b,4,none⟩=false :=
 ⟨aj h,aj h,aj h,aj h,aj h⟩
end Zp
namespace Zv
open Zx (Rw Tb aq ak af)
open Zq (aI cO ae aj ai cX)
def dK (w:World)(b o:Nat)(r:Rw):Prop :=
 w.cell? ⟨b,o,none⟩=some (.int .i64 r.key)/\w.cell? ⟨b,o+1,none⟩=some (.int .i64 r.ay)/\w.cell? ⟨b,o+2,none⟩=some (.int .i64 r.mark) /\
  ∃p c,w.cell? ⟨b,o+3,none⟩=some (.slice p r.out.length (c+r.out.length))/\ak w p r.out
def ar (w:World)(p:Option Addr)(l:List Rw):Prop :=
 l=[]∨∃b o,p=some ⟨b,o,none⟩/\∀j,j<l.length->dK w b (o+j*4) (l.getD j aq)
theorem dK.below {w w':World}{b o:Nat}{r:Rw}(h:dK w b o r)(hb:Below w.heap.size w w'):dK w' b o r:=by
 obtain⟨h0,h1,h2,p,c,h3,h4⟩:=h;exact⟨af h0 hb,af h1 hb,af h2 hb,p,c,af h3 hb,h4.below hb⟩
theorem ar.below {w w':World}{p:Option Addr}{l:List Rw}(h:ar w p l)(hb:Below w.heap.size w w'):ar w' p l:=by
 rcases h with h | ⟨b,o,e,hc⟩
 ·exact .inl h
 ·exact .inr ⟨b,o,e,fun j hj=>(hc j hj).below hb⟩
theorem ar.frame {w:World}{p:Option Addr}{l:List Rw}(h:ar w p l):Zx.ar w p l:=by
 rcases h with h | ⟨b,o,e,hc⟩
 ·exact .inl h
 ·refine .inr ⟨b,o,e,fun j hj=> ?_⟩
  obtain⟨h0,h1,h2,p,c,h3,h4⟩:=hc j hj;exact⟨h0,h1,h2,p,_,h3,h4⟩
def dE (r:Rw)(p:Option Addr)(c:Nat):Value:=.agg #[.int .i64 r.key,.int .i64 r.ay,.int .i64 r.mark,.slice p r.out.length (c+r.out.length)]
def bN (t:Tb)(p:Option Addr)(c:Nat):Value:=.agg #[.int .i64 t.start,.slice p t.rows.length (c+t.rows.length)]
def Bx (W w:World)(r:Rw)(mk:Value->Value)(e:Ending)(w':World):Prop:=∃p c,e=.returned (mk (dE r p c))/\ak W p r.out/\Below w.heap.size w w'
def ew (w:World)(t:Tb)(mk:Value->Value)(e:Ending)(w':World):Prop:=∃p c,e=.returned (mk (bN t p c))/\ar w' p t.rows/\Below w.heap.size w w'
theorem vz:(prog.info? 3).map (fun i=>(i.zero,i.size,i.bytes))=some (some (.int .i64 0),1,8):=by kernel_rfl
theorem Ms:(prog.info? 80).map (fun i=>(i.zero,i.size,i.bytes))=some (some (.agg #[.int .i64 0,.int .i64 0,.int .i64 0,.slice none 0 0]),4,48):=by kernel_rfl
theorem Hz:(prog.info? 141).map (fun i=>(i.zero,i.size,i.bytes))=some (some (.agg #[.int .i64 0,.int .i64 0]),2,16):=by kernel_rfl
def jq (l:List Int):List Value:=l.map (Value.int .i64)
def fj (B:Nat)(w:World)(v:Value)(l:List Int):Prop:=w.ownsRow B 3 1 v l.length (jq l)
theorem fj.S9 {B n:Nat}{w:World}{v:Value}{l xs:List Int}(h:w.ownsRow B 3 1 v (l.length+n) (jq l++jq xs))(hn:xs.length=n):fj B w v (l++xs):=by
 unfold fj;rw[List.length_append,hn];simpa[jq] using h
theorem fj.bX {B:Nat}{w:World}{v:Value}{l:List Int}(h:fj B w v l):∃p c,v=.slice p l.length c/\∀k:Nat,k<l.length->∃b o,p=some ⟨b,o,none⟩/\w.cell? ⟨b,o+k,none⟩=some (.int .i64 (l.getD k 0)):=by
 rcases h.2 with ⟨rfl,h0⟩ | ⟨g,cap,cur,rfl,h1,h2,h3,h4,h5,h6⟩
 ·exact ⟨none,0,by rw[h0],fun k hk=>by omega⟩
 ·refine ⟨_,cap,rfl,fun k hk=>⟨g,0,rfl,?_⟩⟩
  have:=World.ownsRow.cells (g:=g) h rfl k (.int .i64 (l.getD k 0)) (by simp[jq,List.getD,hk])
  rwa [Zq.gM] at this
def bp (l:List (Rw×(Option Addr×Nat))):List Value:=l.flatMap fun x=>[.int .i64 x.1.key,.int .i64 x.1.ay,.int .i64 x.1.mark,.slice x.2.1 x.1.out.length (x.2.2+x.1.out.length)]
theorem tE (l:List (Rw×(Option Addr×Nat)))(x:Rw×(Option Addr×Nat)):bp (l++[x])=bp l++[.int .i64 x.1.key,.int .i64 x.1.ay,.int .i64 x.1.mark,.slice x.2.1 x.1.out.length (x.2.2+x.1.out.length)]:=by simp[bp]
theorem vA (l:List (Rw×(Option Addr×Nat))):∀u∈bp l,u.oneCell'=true:=by
 intro u hu;simp only[bp,List.mem_flatMap] at hu;obtain⟨s,_,hs⟩:=hu;simp at hs;rcases hs with rfl | rfl | rfl | rfl <;>rfl
theorem ox:∀(l:List (Rw×(Option Addr×Nat)))(j:Nat)(hj:j<l.length),(bp l)[j*4]? =some (.int .i64 l[j].1.key)/\(bp l)[j*4+1]? =some (.int .i64 l[j].1.ay)/\(bp l)[j*4+2]? =some (.int .i64 l[j].1.mark)/\(bp l)[j*4+3]? =some (.slice l[j].2.1 l[j].1.out.length (l[j].2.2+l[j].1.out.length))
 | [],j,hj=>by simp at hj
 | x :: l,0,_=>by simp[bp]
 | x :: l,j+1,hj=>by
   have:=ox l j (by simpa using hj)
   have e:bp (x :: l)=[.int .i64 x.1.key,.int .i64 x.1.ay,.int .i64 x.1.mark,.slice x.2.1 x.1.out.length (x.2.2+x.1.out.length)]++bp l:=by simp[bp]
   rw[e];have s:∀n,([Value.int .i64 x.1.key,.int .i64 x.1.ay,.int .i64 x.1.mark,.slice x.2.1 x.1.out.length (x.2.2+x.1.out.length)]++bp l)[4+n]? =(bp l)[n]? :=fun n=>by
    rw[List.getElem?_append_right (by simp)];simp
   refine⟨?_,?_,?_,?_⟩
   ·rw [show (j+1)*4=4+j*4 by omega,s];exact this.1
   ·rw [show (j+1)*4+1=4+(j*4+1) by omega,s];exact this.2.1
   ·rw [show (j+1)*4+2=4+(j*4+2) by omega,s];exact this.2.2.1
   ·rw [show (j+1)*4+3=4+(j*4+3) by omega,s];exact this.2.2.2
def jY (W:World)(B:Nat)(w:World)(v:Value)(l:List Rw):Prop:=∃m:List (Rw×(Option Addr×Nat)),m.map (·.1)=l/\w.ownsRow B 80 4 v l.length (bp m)/\∀x∈m,ak W x.2.1 x.1.out
theorem jY.none (W:World)(B:Nat)(w:World):jY W B w (.slice Option.none 0 0) []:=⟨[],rfl,World.ownsRow_nil _ _ _ _,fun x hx=>by cases hx⟩
theorem jY.rows {W:World}{B:Nat}{w:World}{v:Value}{l:List Rw}(h:jY W B w v l)(hW:Below W.heap.size W w):∃p c,v=.slice p l.length (c+l.length)/\ar w p l:=by
 obtain⟨m,hm,ho,hl⟩:=h;subst hm;have xZ:=ho;rcases ho.2 with ⟨rfl,h0⟩ | ⟨g,cap,cur,rfl,h1,h2,h3⟩
 ·exact ⟨Option.none,0,by rw[h0],.inl (List.eq_nil_of_length_eq_zero h0)⟩
 ·refine ⟨_,cap-(m.map (·.1)).length,by rw[Nat.sub_add_cancel h3.1],.inr ⟨g,0,rfl,fun j hj=> ?_⟩⟩
  have mG:j<m.length:=by simpa using hj
  obtain⟨c0,c1,c2,c3⟩:=ox m j mG;have hc:=xZ.cells (g:=g) rfl;have k0:=hc _ _ c0;have k1:=hc _ _ c1;have k2:=hc _ _ c2;have k3:=hc _ _ c3;rw[Zq.gM] at k0 k1 k2 k3;have e:(m.map (·.1)).getD j aq=m[j].1:=by simp[List.getD,mG]
  rw[e];refine⟨k0,?_,?_,m[j].2.1,m[j].2.2,?_,(hl _ (List.getElem_mem mG)).below hW⟩
  ·rw [<-Nat.add_assoc] at k1;exact k1
  ·rw [<-Nat.add_assoc] at k2;exact k2
  ·rw [<-Nat.add_assoc] at k3;exact k3
theorem jY.jx {W:World}{B:Nat}{w:World}{v:Value}{l:List Rw}(h:jY W B w v l):∃p c,v=.slice p l.length c:=by
 obtain⟨m,hm,ho,hl⟩:=h;rcases ho.2 with ⟨rfl,h0⟩ | ⟨g,cap,cur,rfl,h1,h2,h3⟩
 ·exact ⟨Option.none,0,by rw[h0]⟩
 ·exact ⟨_,cap,rfl⟩
theorem jY.on {W:World}{B:Nat}{w w':World}{v:Value}{l:List Rw}(h:jY W B w v l)(hb:Below w.heap.size w w'):jY W B w' v l:=by
 obtain⟨m,hm,ho,hl⟩:=h;exact⟨m,hm,aI ho hb,hl⟩
theorem jY.set {W:World}{B:Nat}{w:World}{v:Value}{l:List Rw}{b o:Nat}{u:Value}(h:jY W B w v l)(hb:b<B):jY W B (w.setCell ⟨b,o,Option.none⟩ u) v l:=by
 obtain⟨m,hm,ho,hl⟩:=h;refine⟨m,hm,⟨ho.1,?_⟩,hl⟩;rcases ho.2 with h0 | ⟨g,cap,cur,rfl,h1,h2,h3⟩
 ·exact .inl h0
 ·exact .inr ⟨g,cap,cur,rfl,h1,(Below.heap_setCell _ _ _ _ (by simp;omega)).trans h2,h3⟩
theorem jY.S9 {W:World}{B n:Nat}{w w':World}{v v':Value}{l:List Rw}{m:List (Rw×(Option Addr×Nat))}{r:Rw}{p:Option Addr}{c:Nat}(hm:m.map (·.1)=l)(hl:∀x∈m,ak W x.2.1 x.1.out)(hr:ak W p r.out)(_:w.ownsRow B 80 4 v n (bp m))(hn:n=l.length)
 (ho:w'.ownsRow B 80 4 v' (n+1) (bp m++[.int .i64 r.key,.int .i64 r.ay,.int .i64 r.mark,.slice p r.out.length (c+r.out.length)])):jY W B w' v' (l++[r]):=by
 refine⟨m++[(r,p,c)],by rw[List.map_append,hm];rfl,?_,?_⟩
 ·rw [tE,List.length_append,<-hn]
  exact ho
 ·intro x hx
  rcases List.mem_append.1 hx with hx | hx
  ·exact hl x hx
  ·simp only[List.mem_singleton] at hx
   subst hx;exact hr
theorem dY {w:World}{b:Nat}{t:Tb}{p:Option Addr}{c:Nat}(h:w.heap[b]? =some (.cells #[.int .i64 t.start,.slice p t.rows.length (c+t.rows.length)] 28 (0,0))) :
 w.cell? ⟨b,0,Option.none⟩=some (.int .i64 t.start)/\w.cell? ⟨b,1,Option.none⟩=some (.slice p t.rows.length (c+t.rows.length))/\∀o,w.frozen? ⟨b,o,Option.none⟩=false :=
 ⟨by rw[cell_of_row w b 0 _ _ (0,0) h];rfl,by rw[cell_of_row w b 1 _ _ (0,0) h];rfl,fun _=>aj h⟩
theorem aV {w:World}{b:Nat}{v1 v2 v3 v4:Value}(h:w.heap[b]? =some (.cells #[v1,v2,v3,v4] 80 (0,0))) :
 w.cell? ⟨b,0,Option.none⟩=some v1/\w.cell? ⟨b,1,Option.none⟩=some v2/\w.cell? ⟨b,2,Option.none⟩=some v3/\w.cell? ⟨b,3,Option.none⟩=some v4/\∀o,w.frozen? ⟨b,o,Option.none⟩=false :=
 ⟨by rw[cell_of_row w b 0 _ _ (0,0) h];rfl,by rw[cell_of_row w b 1 _ _ (0,0) h];rfl,by rw[cell_of_row w b 2 _ _ (0,0) h];rfl,by rw[cell_of_row w b 3 _ _ (0,0) h];rfl,fun _=>aj h⟩
end Zv
namespace Zt
open Zq (aI cO ae aj ai cL)
open Zu
open Zp (iE aL Own At bS eu af aD)
def Qu (B:Nat)(w:World)(v ov:Nat)(aw:Int)(l:List It):Prop:=B<=v/\∃cs T y,w.heap[v]? =some (.cells cs T (0,0))/\cs[ov]? =some (.int .i64 aw)/\cs[ov+1]? =some y/\Own aN 113 B w y l
structure cS (B:Nat)(w:World)(v ov:Nat)(aw:Int)(l:List It)(w':World):Prop where
 qu:Qu B w' v ov aw l
 row:∀cs T,w.heap[v]? =some (.cells cs T (0,0))->∃cs',w'.heap[v]? =some (.cells cs' T (0,0))/\∀k,k≠ov+1->cs'[k]? =cs[k]?
 only:∀g,g≠v->g<w.heap.size->w'.heap[g]? =w.heap[g]?
 below:Below B w w'
 size:w.heap.size<=w'.heap.size
section
variable {w w':World}{B b ov:Nat}{aw:Int}{l:List It}
theorem Qu.lt (h:Qu B w b ov aw l):b<w.heap.size:=by
 obtain⟨_,cs,T,y,h,_⟩:=h;exact ae h
theorem Qu.below (h:Qu B w b ov aw l)(hb:Below w.heap.size w w'):Qu B w' b ov aw l:=by
 obtain⟨h0,cs,T,y,h1,h2,h3,h4⟩:=h;exact⟨h0,cs,T,y,(hb.block b (ae h1)).trans h1,h2,h3,h4.on hb⟩
theorem Qu.cell (h:Qu B w b ov aw l):∃p c,w.cell? ⟨b,ov+1,Option.none⟩=some (.slice p l.length c)/\aL aN w p l/\(p=none->c=0)/\w.cell? ⟨b,ov,Option.none⟩=some (.int .i64 aw):=by
 obtain⟨_,cs,T,y,h1,h2,h3,h4⟩:=h;obtain⟨p,c,rfl,hl⟩:=h4.gi;refine⟨p,c,by rw[cell_of_row w b (ov+1) _ _ (0,0) h1,h3],hl,?_,by rw[cell_of_row w b ov _ _ (0,0) h1,h2]⟩
 rintro rfl;rcases h4.2 with ⟨e,-⟩ | ⟨g,cap,cur,e,-⟩
 ·simp only[Value.slice.injEq] at e
  exact e.2.2
 ·simp at e
theorem cS.same (h:Qu B w b ov aw l)(hB:B<=w.heap.size)(hb:Below w.heap.size w w'):cS B w b ov aw l w' :=
 ⟨h.below hb,fun cs _ e=>⟨cs,(hb.block b (ae e)).trans e,fun _ _=>rfl⟩,fun g _ hg=>hb.block g hg,hb.mono hB,hb.size⟩
theorem cS.trans {w2:World}{l' l2:List It}(h:cS B w b ov aw l' w')(k:cS B w' b ov aw l2 w2):cS B w b ov aw l2 w2 :=
 ⟨k.qu,fun cs T e=>by
  obtain⟨c1,e1,h1⟩:=h.row cs T e;obtain⟨c2,e2,h2⟩:=k.row c1 T e1;exact⟨c2,e2,fun i hi=>(h2 i hi).trans (h1 i hi)⟩,fun g hn hg=>(k.only g hn (Nat.lt_of_lt_of_le hg h.size)).trans (h.only g hn hg),h.below.trans k.below,Nat.le_trans h.size k.size⟩
theorem Qu.store {l':List It}{y:Value}(h:Qu B w b ov aw l)(hB:B<=w.heap.size)(hb:Below w.heap.size w w')(ho:Own aN 113 w.heap.size w' y l') :
 w'.frozen? ⟨b,ov+1,Option.none⟩=false/\(∃u,w'.cell? ⟨b,ov+1,Option.none⟩=some u)/\Hid (cS B w b ov aw l' (w'.setCell ⟨b,ov+1,Option.none⟩ y)):=by
 obtain⟨h0,cs,T,y0,h1,h2,h3,h4⟩:=h;have hv:w'.heap[b]? =_:=(hb.block b (ae h1)).trans h1;have aC:ov+1<cs.size:=(Array.getElem?_eq_some_iff.1 h3).1;refine⟨aj hv,⟨_,by rw[cell_of_row w' b (ov+1) _ _ (0,0) hv,h3]⟩,⟨⟨h0,cs.setIfInBounds (ov+1) y,T,y,ai b (ov+1) _ _ hv,?_,by simp[aC],(Own.set ho (ae h1)).lower hB⟩,fun cs' T' e=> ?_,fun g hn hg=>(Below.heap_setCell _ _ _ _ hn).trans (hb.block g hg),(hb.mono hB).setCell (p:=⟨b,ov+1,Option.none⟩) h0 _,Nat.le_trans hb.size (by simp)⟩⟩
 ·rw [Array.getElem?_setIfInBounds,if_neg (by omega)]
  exact h2
 ·rw [h1] at e
  cases e;refine⟨_,ai b (ov+1) _ _ hv,fun k hk=> ?_⟩
  simp[Ne.symm hk]
theorem Qu.Ta {C g:Nat}{l':List It}{y:Value}(h:Qu B w b ov aw l)(hB:B<=w.heap.size)(hb:Below w.heap.size w w')(hg:w.heap.size<=g)(hC:g<C)(ho:Own aN 113 C w' y l')(x:It) :
 cS B w b ov aw l' (lV (w'.setCell ⟨b,ov+1,Option.none⟩ y) g x):=by
 obtain⟨h0,cs,T,y0,h1,h2,h3,h4⟩:=h;have aC:=ae h1;have hv:w'.heap[b]? =_:=(hb.block b aC).trans h1;have hsz:ov+1<cs.size:=(Array.getElem?_eq_some_iff.1 h3).1;have mQ:=ai b (ov+1) _ y hv;have hsize:w.heap.size<=(lV (w'.setCell ⟨b,ov+1,Option.none⟩ y) g x).heap.size :=
  (iI (B:=0) (w0:=w) (b:=g) ((hb.mono (Nat.zero_le _)).setCell (p:=⟨b,ov+1,Option.none⟩) (Nat.zero_le _) y) (Nat.zero_le _) x).size
 refine⟨⟨h0,cs.setIfInBounds (ov+1) y,T,y,(jV x (by omega)).trans mQ,?_,by simp[hsz],(Mq (Own.set ho (by omega)) hC x).lower (by omega)⟩,fun cs' T' e=> ?_,fun k hn hk=>(jV x (by omega)).trans ((Below.heap_setCell _ _ _ _ hn).trans (hb.block k hk)),iI ((hb.mono hB).setCell (p:=⟨b,ov+1,Option.none⟩) h0 _) (by omega) x,hsize⟩
 ·rw [Array.getElem?_setIfInBounds,if_neg (by omega)]
  exact h2
 ·rw [h1] at e
  cases e;refine⟨_,(jV x (by omega)).trans mQ,fun k hk=> ?_⟩
  simp[Ne.symm hk]
end
end Zt
namespace Zk
open Zq (aI cO ae aj ai cL)
open Zz
open Zp (iE aL Own At bS eu af aD)
def Dm (B:Nat)(w:World)(v ov:Nat)(l:List Nt):Prop:=B<=v/\∃cs T y,w.heap[v]? =some (.cells cs T (0,0))/\cs[ov]? =some y/\Own vx 244 B w y l
structure cS (B:Nat)(w:World)(v ov:Nat)(l:List Nt)(w':World):Prop where
 dm:Dm B w' v ov l
 row:∀cs T,w.heap[v]? =some (.cells cs T (0,0))->∃cs',w'.heap[v]? =some (.cells cs' T (0,0))/\∀k,k≠ov->cs'[k]? =cs[k]?
 only:∀g,g≠v->g<w.heap.size->w'.heap[g]? =w.heap[g]?
 below:Below B w w'
 size:w.heap.size<=w'.heap.size
section
variable {w w':World}{B b ov:Nat}{l:List Nt}
theorem Dm.lt (h:Dm B w b ov l):b<w.heap.size:=by
 obtain⟨_,cs,T,y,h,_⟩:=h;exact ae h
theorem Dm.below (h:Dm B w b ov l)(hb:Below w.heap.size w w'):Dm B w' b ov l:=by
 obtain⟨h0,cs,T,y,h1,h2,h3⟩:=h;exact⟨h0,cs,T,y,(hb.block b (ae h1)).trans h1,h2,h3.on hb⟩
theorem Dm.cell (h:Dm B w b ov l):∃p c,w.cell? ⟨b,ov,Option.none⟩=some (.slice p l.length c)/\aL vx w p l/\(p=none->c=0):=by
 obtain⟨_,cs,T,y,h1,h2,h3⟩:=h;obtain⟨p,c,rfl,hl⟩:=h3.gi;refine⟨p,c,by rw[cell_of_row w b ov _ _ (0,0) h1,h2],hl,?_⟩
 rintro rfl;rcases h3.2 with ⟨e,-⟩ | ⟨g,cap,cur,e,-⟩
 ·simp only[Value.slice.injEq] at e
  exact e.2.2
 ·simp at e
theorem cS.same (h:Dm B w b ov l)(hB:B<=w.heap.size)(hb:Below w.heap.size w w'):cS B w b ov l w' :=
 ⟨h.below hb,fun cs _ e=>⟨cs,(hb.block b (ae e)).trans e,fun _ _=>rfl⟩,fun g _ hg=>hb.block g hg,hb.mono hB,hb.size⟩
theorem cS.trans {w2:World}{l' l2:List Nt}(h:cS B w b ov l' w')(k:cS B w' b ov l2 w2):cS B w b ov l2 w2 :=
 ⟨k.dm,fun cs T e=>by
  obtain⟨c1,e1,h1⟩:=h.row cs T e;obtain⟨c2,e2,h2⟩:=k.row c1 T e1;exact⟨c2,e2,fun i hi=>(h2 i hi).trans (h1 i hi)⟩,fun g hn hg=>(k.only g hn (Nat.lt_of_lt_of_le hg h.size)).trans (h.only g hn hg),h.below.trans k.below,Nat.le_trans h.size k.size⟩
theorem Dm.store {l':List Nt}{y:Value}(h:Dm B w b ov l)(hB:B<=w.heap.size)(hb:Below w.heap.size w w')(ho:Own vx 244 w.heap.size w' y l') :
 w'.frozen? ⟨b,ov,Option.none⟩=false/\(∃u,w'.cell? ⟨b,ov,Option.none⟩=some u)/\Hid (cS B w b ov l' (w'.setCell ⟨b,ov,Option.none⟩ y)):=by
 obtain⟨h0,cs,T,y0,h1,h2,h3⟩:=h;have hv:w'.heap[b]? =_:=(hb.block b (ae h1)).trans h1;have aC:ov<cs.size:=(Array.getElem?_eq_some_iff.1 h2).1;refine⟨aj hv,⟨_,by rw[cell_of_row w' b ov _ _ (0,0) hv,h2]⟩,⟨⟨h0,cs.setIfInBounds ov y,T,y,ai b ov _ _ hv,by simp[aC],(Own.set ho (ae h1)).lower hB⟩,fun cs' T' e=> ?_,fun g hn hg=>(Below.heap_setCell _ _ _ _ hn).trans (hb.block g hg),(hb.mono hB).setCell (p:=⟨b,ov,Option.none⟩) h0 _,Nat.le_trans hb.size (by simp)⟩⟩
 rw[h1] at e;cases e;refine⟨_,ai b ov _ _ hv,fun k hk=> ?_⟩
 simp[Ne.symm hk]
theorem cS.on {u:World}(h:cS B w b ov l w')(hb:Below w'.heap.size w' u)(hB:B<=w'.heap.size):cS B w b ov l u :=
 h.trans (cS.same h.dm hB hb)
end
end Zk
namespace Zw
open Zq (ae aj ai)
theorem ag (w:World)(n:Nat):Below w.heap.size w (w.drewN n):=⟨rfl,rfl,rfl,Nat.le_refl _,fun _ _=>rfl⟩
end Zw
namespace Zu
open Zq (ae aj ai)
open Zv (spot eL cP)
open Zp (iE aL Own At bS eu af aD aA ag)
theorem jZ {f:It->Bool}{l:List It}{j:Nat}(h:j<l.length)(e:f (l.getD j z)=true):(l.take (j+1)).filter f=(l.take j).filter f++[l.getD j z]:=by
 rw[aA z h,List.filter_append];simp only[List.filter_cons,e,if_true,List.filter_nil]
theorem ly {f:It->Bool}{l:List It}{j:Nat}(h:j<l.length)(e:f (l.getD j z)=false):(l.take (j+1)).filter f=(l.take j).filter f:=by
 rw[aA z h,List.filter_append];simp only[List.filter_cons,e,Bool.false_eq_true,if_false,List.filter_nil,List.append_nil]
def ahead (l:List It)(k:Int):Nat->List It
 | 0=>[]
 | 1=>xq l k 0
 | 2=>xq l k 0++xq l k 1
 | _=>of l k
end Zu
namespace Zw
open Zq (ae aj ai)
def nk (x:Lz):List Lz->List Lz×Bool
 | l=>l.foldl (fun s y=>if s.2=false/\x.key<y.key then (s.1++[x]++[y],true) else (s.1++[y],s.2)) ([],false)
def kept (l:List Lz)(g:Int)(j:Nat):List Lz:=l.take j++(l.drop j).filter fun x=> !fg g x
def j4 (l:List Lz)(g:Int)(j:Nat):Nat:=(l.drop j).countP (fg g)
end Zw
end Go.Proofs.YtbgdlokegibkmaaGreat
