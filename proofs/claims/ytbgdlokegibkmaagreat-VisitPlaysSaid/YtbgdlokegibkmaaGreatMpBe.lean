/-
  A part of the proof of VisitPlays.
-/
import Derived.WalkSpells
import Derived.Test.YtbgdlokegibkmaaGreatMpAg
set_option maxRecDepth 100000
set_option maxHeartbeats 2000000
namespace Go.Proofs.YtbgdlokegibkmaaGreat
open Tryz
open Lib (hid)
namespace Zx
open Go.RowKit Zq
def AR (E:TypeId)(size:Nat)(w:World)(n:Nat)(xs:List Value)(e:Ending)(w':World):Prop :=
 ∃v,e=.returned v/\w'.ownsRow w.heap.size E size v n xs/\Below w.heap.size w w'
theorem Ln:(prog.info? 3).map (fun i=>(i.zero,i.size,i.bytes))=some (some (.int .i64 0),1,8):=by kernel_rfl
theorem um (w:World)(a:Option Addr)(n c n' c':Nat):(binOp .eql 25 (.slice a n c) (.slice none n' c')).run prog w=.ok (.bool a.isNone) w:=Lib.run_eql_slice_nil w _ _ a n c n' c' underlying25
theorem wO (n c:Nat)(w:World):Calls prog 97 #[.slice none n c] w fun e w'=>e=.returned (.slice none 0 0)/\w=w':=by
 have hq:=fun (w:World) a n c n' c'=>um w a n c n' c'
 go_enter func97,ntmps97
 go_wp2;go_ret;exact⟨rfl,rfl⟩
theorem mL (a:Addr)(n c:Nat)(xs:List Value)(w:World)(hn:n<=1000)(hx:xs.length=n*1)(hc:∀j u,xs[j]? =some u->w.cell? (a.add j)=some u)(h1:∀u∈xs,u.oneCell'=true) :
 Calls prog 97 #[.slice (some a) n c] w (AR 3 1 w n xs):=by
 obtain⟨i0,hi,hz0,hz1,hz2⟩:=info_parts Ln;have hb:Below w.heap.size w (w.alloc (.cells #[] 3)):=(Below.refl _ _).alloc (Nat.le_refl _) _;have HC:=hid (show ∀j u,xs[j]? =some u->(w.alloc (.cells #[] 3)).cell? (a.add j)=some u from fun j u h=>(hb.cell (World.block_lt_of_cell? _ _ (hc j u h))).trans (hc j u h))
 have H1:=hid h1;have HX:=hid hx;clear hc h1 hx;have ax:(w.alloc (.cells #[] 3)).ownsRow w.heap.size 3 1 (.slice (some ⟨w.heap.size,0,none⟩) 0 0) 0 []:=World.ownsRow_made w #[] 0 (Nat.le_refl _) (Nat.zero_le _) rfl;have hq:=fun (w:World) a n c n' c'=>um w a n c n' c'
 go_enter func97,ntmps97
 go_wp2_with (at_builtin;refine wpList_append_own _ rfl (.tmp 5) (.tmp 6) 25 rfl w.heap.size 3 i0 (.int .i64 0) 1 8 underlying25 hi hz0 hz1 hz2 rfl (by decide) _ _ _ rfl ax a n c xs rfl HX.out HC.out H1.out (by unfold maxLen;omega) (by omega) (by simp) ?_)
 intro v w1 ho hg _;have hb1:=hb.grown hg (by simp) (fun k hk=>by simp[Value.ownBlock] at hk;omega)
 have HO:=hid ho;clear hg ax HC ho;go_wp2;go_ret;exact⟨v,rfl,HO.out,hb1⟩
theorem Dw:(prog.info? 141).map (fun i=>(i.zero,i.size,i.bytes))=some (some (.agg #[.int .i64 0,.int .i64 0]),2,16):=by kernel_rfl
theorem pE (w:World)(a:Option Addr)(n c n' c':Nat):(binOp .eql 78 (.slice a n c) (.slice none n' c')).run prog w=.ok (.bool a.isNone) w:=Lib.run_eql_slice_nil w _ _ a n c n' c' underlying78
theorem tk (n c:Nat)(w:World):Calls prog 99 #[.slice none n c] w fun e w'=>e=.returned (.slice none 0 0)/\w=w':=by
 have hq:=fun (w:World) a n c n' c'=>pE w a n c n' c'
 go_enter func99,ntmps99
 go_wp2;go_ret;exact⟨rfl,rfl⟩
theorem kT (a:Addr)(n c:Nat)(xs:List Value)(w:World)(hn:n<=1000)(hx:xs.length=n*2)(hc:∀j u,xs[j]? =some u->w.cell? (a.add j)=some u)(h1:∀u∈xs,u.oneCell'=true) :
 Calls prog 99 #[.slice (some a) n c] w (AR 141 2 w n xs):=by
 obtain⟨i0,hi,hz0,hz1,hz2⟩:=info_parts Dw;have hb:Below w.heap.size w (w.alloc (.cells #[] 141)):=(Below.refl _ _).alloc (Nat.le_refl _) _;have HC:=hid (show ∀j u,xs[j]? =some u->(w.alloc (.cells #[] 141)).cell? (a.add j)=some u from fun j u h=>(hb.cell (World.block_lt_of_cell? _ _ (hc j u h))).trans (hc j u h))
 have H1:=hid h1;have HX:=hid hx;clear hc h1 hx;have ax:(w.alloc (.cells #[] 141)).ownsRow w.heap.size 141 2 (.slice (some ⟨w.heap.size,0,none⟩) 0 0) 0 []:=World.ownsRow_made w #[] 0 (Nat.le_refl _) (Nat.zero_le _) rfl;have hq:=fun (w:World) a n c n' c'=>pE w a n c n' c'
 go_enter func99,ntmps99
 go_wp2_with (at_builtin;refine wpList_append_own _ rfl (.tmp 5) (.tmp 6) 78 rfl w.heap.size 141 i0 (.agg #[.int .i64 0,.int .i64 0]) 2 16 underlying78 hi hz0 hz1 hz2 rfl (by decide) _ _ _ rfl ax a n c xs rfl HX.out HC.out H1.out (by unfold maxLen;omega) (by omega) (by simp) ?_)
 intro v w1 ho hg _;have hb1:=hb.grown hg (by simp) (fun k hk=>by simp[Value.ownBlock] at hk;omega)
 have HO:=hid ho;clear hg ax HC ho;go_wp2;go_ret;exact⟨v,rfl,HO.out,hb1⟩
theorem Lp:(prog.info? 80).map (fun i=>(i.zero,i.size,i.bytes))=some (some (.agg #[.int .i64 0,.int .i64 0,.int .i64 0,.slice none 0 0]),4,48):=by kernel_rfl
theorem uo (w:World)(a:Option Addr)(n c n' c':Nat):(binOp .eql 26 (.slice a n c) (.slice none n' c')).run prog w=.ok (.bool a.isNone) w:=Lib.run_eql_slice_nil w _ _ a n c n' c' underlying26
theorem wP (n c:Nat)(w:World):Calls prog 98 #[.slice none n c] w fun e w'=>e=.returned (.slice none 0 0)/\w=w':=by
 have hq:=fun (w:World) a n c n' c'=>uo w a n c n' c'
 go_enter func98,ntmps98
 go_wp2;go_ret;exact⟨rfl,rfl⟩
theorem mM (a:Addr)(n c:Nat)(xs:List Value)(w:World)(hn:n<=1000)(hx:xs.length=n*4)(hc:∀j u,xs[j]? =some u->w.cell? (a.add j)=some u)(h1:∀u∈xs,u.oneCell'=true) :
 Calls prog 98 #[.slice (some a) n c] w (AR 80 4 w n xs):=by
 obtain⟨i0,hi,hz0,hz1,hz2⟩:=info_parts Lp;have hb:Below w.heap.size w (w.alloc (.cells #[] 80)):=(Below.refl _ _).alloc (Nat.le_refl _) _;have HC:=hid (show ∀j u,xs[j]? =some u->(w.alloc (.cells #[] 80)).cell? (a.add j)=some u from fun j u h=>(hb.cell (World.block_lt_of_cell? _ _ (hc j u h))).trans (hc j u h))
 have H1:=hid h1;have HX:=hid hx;clear hc h1 hx;have ax:(w.alloc (.cells #[] 80)).ownsRow w.heap.size 80 4 (.slice (some ⟨w.heap.size,0,none⟩) 0 0) 0 []:=World.ownsRow_made w #[] 0 (Nat.le_refl _) (Nat.zero_le _) rfl;have hq:=fun (w:World) a n c n' c'=>uo w a n c n' c'
 go_enter func98,ntmps98
 go_wp2_with (at_builtin;refine wpList_append_own _ rfl (.tmp 5) (.tmp 6) 26 rfl w.heap.size 80 i0 (.agg #[.int .i64 0,.int .i64 0,.int .i64 0,.slice none 0 0]) 4 48 underlying26 hi hz0 hz1 hz2 rfl (by decide) _ _ _ rfl ax a n c xs rfl HX.out HC.out H1.out (by unfold maxLen;omega) (by omega) (by simp) ?_)
 intro v w1 ho hg _;have hb1:=hb.grown hg (by simp) (fun k hk=>by simp[Value.ownBlock] at hk;omega)
 have HO:=hid ho;clear hg ax HC ho;go_wp2;go_ret;exact⟨v,rfl,HO.out,hb1⟩
theorem OE {w:World}{B n size:Nat}{E:TypeId}{v:Value}{xs:List Value}(h:w.ownsRow B E size v n xs)(hn:0<n) :
 ∃g c,v=.slice (some ⟨g,0,none⟩) n c/\B<=g/\(∃cs z,w.heap[g]? =some (.cells cs E z))/\(∀o,w.frozen? ⟨g,o,none⟩=false)/\∀j u,xs[j]? =some u->w.cell? ⟨g,j,none⟩=some u:=by
 rcases h.2 with ⟨_,h0⟩ | ⟨g,cap,cur,rfl,h1,h2,h3,h4,h5,h6⟩
 ·omega
 ·refine ⟨g,cap,rfl,h1,⟨cur,_,h2⟩,fun o=>aj h2,fun j u hu=> ?_⟩
  have:=h.cells (g:=g) rfl j u hu;rwa [gM,Nat.zero_add] at this
theorem fG {w:World}{B n size:Nat}{E:TypeId}{v:Value}{xs:List Value}(h:w.ownsRow B E size v n xs):∃p c,v=.slice p n c:=by
 rcases h.2 with ⟨rfl,rfl⟩ | ⟨g,cap,cur,rfl,_⟩
 ·exact ⟨none,0,rfl⟩
 ·exact ⟨_,cap,rfl⟩
theorem uW {w:World}{B n size:Nat}{E:TypeId}{v:Value}{xs:List Value}(h:w.ownsRow B E size v n xs):∃p c,v=.slice p n (c+n):=by
 rcases h.2 with ⟨rfl,rfl⟩ | ⟨g,cap,cur,rfl,_,_,h3,_⟩
 ·exact ⟨none,0,rfl⟩
 ·exact ⟨_,cap-n,by rw[Nat.sub_add_cancel h3]⟩
theorem Rh {w:World}{B n size:Nat}{E:TypeId}{v:Value}{xs:List Value}(h:w.ownsRow B E size v n xs)(hn:0<n) :
 ∃g c,v=.slice (some ⟨g,0,none⟩) n c/\B<=g/\(∃cs,w.heap[g]? =some (.cells cs E (0,0)))/\∀j u,xs[j]? =some u->w.cell? ⟨g,j,none⟩=some u:=by
 rcases h.2 with ⟨_,h0⟩ | ⟨g,cap,cur,rfl,h1,h2,h3,h4,h5,h6⟩
 ·omega
 ·refine ⟨g,cap,rfl,h1,⟨cur,h2⟩,fun j u hu=> ?_⟩
  have:=h.cells (g:=g) rfl j u hu;rwa [gM,Nat.zero_add] at this
def lg (B:Nat)(w:World)(p:Option Addr)(l:List Int):Prop:=l=[]∨∃g cs,p=some ⟨g,0,none⟩/\B<=g/\w.heap[g]? =some (.cells cs 3 (0,0))/\∀j,j<l.length->w.cell? ⟨g,j,none⟩=some (.int .i64 (l.getD j 0))
theorem lg.lower {B B':Nat}{w:World}{p:Option Addr}{l:List Int}(h:lg B w p l)(hB:B'<=B):lg B' w p l:=by
 rcases h with h | ⟨g,cs,h,hg,h2,hc⟩
 ·exact .inl h
 ·exact .inr ⟨g,cs,h,Nat.le_trans hB hg,h2,hc⟩
theorem lg.bM {B B':Nat}{w w':World}{p:Option Addr}{l:List Int}(h:lg B w p l)(k:Kp B' 3 w w'):lg B w' p l:=by
 rcases h with h | ⟨g,cs,h,hg,h2,hc⟩
 ·exact .inl h
 ·exact .inr ⟨g,cs,h,hg,k.2.2 g cs _ h2,fun j hj=>((show kG B' 3 w g from .inr ⟨cs,_,h2⟩).cell k).trans (hc j hj)⟩
def Ri (w:World)(l:List Int)(e:Ending)(w':World):Prop:=∃p c,e=.returned (.slice p l.length c)/\lg w.heap.size w' p l/\Below w.heap.size w w'
theorem GF (p:Option Addr)(l:List Int)(c:Nat)(w:World)(hn:l.length<=1000)(h:cX w p l)(hp:p=none->l=[]) :
 Calls prog 97 #[.slice p l.length c] w (Ri w l):=by
 cases p with
 | none =>
   obtain rfl:=hp rfl;refine(wO 0 c w).mono ?_;rintro e w' ⟨rfl,rfl⟩;exact⟨none,0,rfl,.inl rfl,Below.refl _ _⟩
 | some a =>
   rcases h with rfl | ⟨b,o,e,hc⟩
   ·refine (mL a 0 c [] w (by omega) rfl (by simp) (by simp)).mono ?_
    rintro e w' ⟨v,rfl,ho,hb⟩;obtain⟨q,d,rfl⟩:=fG ho;exact⟨q,d,rfl,.inl rfl,hb⟩
   ·simp only[Option.some.injEq] at e
    subst e;refine(mL _ l.length c (l.map (Value.int .i64)) w hn (by simp) (fun j u hu=> ?_) (by simp;intro x _;rfl)).mono ?_
    ·rw [gM]
     simp only[List.getElem?_map] at hu;have hj:j<l.length:=by
      by_cases hj:j<l.length
      ·exact hj
      ·rw [List.getElem?_eq_none (by omega)] at hu;simp at hu
     rw[List.getElem?_eq_getElem hj] at hu;simp only[Option.map_some,Option.some.injEq] at hu;rw[hc j hj,<-hu];simp[List.getD,hj]
    ·rintro e w' ⟨v,rfl,ho,hb⟩
     obtain⟨q,d,hv⟩:=fG ho;subst hv;refine⟨q,d,rfl,?_,hb⟩;by_cases h0:l=[]
     ·exact .inl h0
     ·obtain ⟨g,c',hv,hg,⟨cs,hcs⟩,hat⟩:=Rh ho (List.length_pos_iff.2 h0)
      simp only[Value.slice.injEq] at hv;refine .inr ⟨g,cs,hv.1,hg,hcs,fun j hj=> ?_⟩
      exact hat j _ (by simp[List.getD,hj])
def Lq (w:World)(l:List (Int×Int))(e:Ending)(w':World):Prop:=∃p c,e=.returned (.slice p l.length (c+l.length))/\fc 0 w' p l/\Below w.heap.size w w'
theorem OG {w:World}{p:Option Addr}{l:List (Int×Int)}(h:ak w p l)(hp:p=none):l=[]:=by
 rcases h with h | ⟨b,o,h,_⟩
 ·exact h
 ·rw [hp] at h;cases h
theorem AU (p:Option Addr)(l:List (Int×Int))(c:Nat)(w:World)(hn:l.length<=1000)(h:ak w p l) :
 Calls prog 99 #[.slice p l.length c] w (Lq w l):=by
 cases p with
 | none =>
   obtain rfl:=OG h rfl;refine(tk 0 c w).mono ?_;rintro e w' ⟨rfl,rfl⟩;exact⟨none,0,rfl,.inl rfl,Below.refl _ _⟩
 | some a =>
   rcases h with rfl | ⟨b,o,e,hc⟩
   ·refine (kT a 0 c [] w (by omega) rfl (by simp) (by simp)).mono ?_
    rintro e w' ⟨v,rfl,ho,hb⟩;obtain⟨q,d,rfl⟩:=uW ho;exact⟨q,d,rfl,.inl rfl,hb⟩
   ·simp only[Option.some.injEq] at e
    subst e;obtain⟨xs,x1,x2,x3,x4⟩:=BZ w b o (l.length*2) (fun j hj=>by
     have h1:=hc (j / 2) (by omega)
     by_cases hm:j % 2=0
     ·exact ⟨_,by rw[show o+j=o+j / 2*2 by omega];exact h1.1,rfl⟩
     ·exact ⟨_,by rw[show o+j=o+j / 2*2+1 by omega];exact h1.2,rfl⟩)
    refine(kT _ l.length c xs w hn x1 x2 x4).mono ?_;rintro e w' ⟨v,rfl,ho,hb⟩;obtain⟨q,d,hv⟩:=uW ho;subst hv;refine⟨q,d,rfl,?_,hb⟩;by_cases h0:l=[]
    ·exact .inl h0
    ·obtain ⟨g,c',hv,hg,hcs,_,hat⟩:=OE ho (List.length_pos_iff.2 h0)
     simp only[Value.slice.injEq] at hv;refine .inr ⟨g,0,hv.1,.inr hcs,fun j hj=> ?_⟩
     have h1:=hc j hj;obtain⟨u,hu,hcu⟩:=x3 (j*2) (by omega)
     obtain⟨u',hu',ab3⟩:=x3 (j*2+1) (by omega)
     rw[Nat.zero_add,hat _ _ hu,hat _ _ hu',<-h1.1,<-h1.2,<-hcu,Nat.add_assoc,<-ab3];exact⟨rfl,rfl⟩
def Rj (B:Nat)(w:World)(l:List Rw)(e:Ending)(w':World):Prop :=
 ∃p c,e=.returned (.slice p l.length (c+l.length))/\Below w.heap.size w w'/\(l=[]∨∃g,p=some ⟨g,0,none⟩/\w.heap.size<=g/\(∃cs,w'.heap[g]? =some (.cells cs 80 (0,0)))/\∀j,j<l.length->o5 B w' g (j*4) (l.getD j aq))
theorem OH {w:World}{B n size:Nat}{E:TypeId}{g c:Nat}{xs:List Value}(h:w.ownsRow B E size (.slice (some ⟨g,0,none⟩) n c) n xs):∃cs,w.heap[g]? =some (.cells cs E (0,0)):=by
 rcases h.2 with ⟨h0,_⟩ | ⟨g',cap,cur,h0,h1,h2,_⟩
 ·cases h0
 ·simp only[Value.slice.injEq,Option.some.injEq,Addr.mk.injEq] at h0
  rw[h0.1.1];exact⟨cur,h2⟩
theorem GG (B:Nat)(p:Option Addr)(l:List Rw)(c:Nat)(w:World)(hB:B<=w.heap.size)(hn:l.length<=1000)(h:jB B w p l) :
 Calls prog 98 #[.slice p l.length c] w (Rj B w l):=by
 cases p with
 | none =>
   obtain rfl:l=[]:=by
    rcases h with h | ⟨b,o,h,_⟩
    ·exact h
    ·cases h
   refine(wP 0 c w).mono ?_;rintro e w' ⟨rfl,rfl⟩;exact⟨none,0,rfl,Below.refl _ _,.inl rfl⟩
 | some a =>
   rcases h with rfl | ⟨b,o,e,_,hc⟩
   ·refine (mM a 0 c [] w (by omega) rfl (by simp) (by simp)).mono ?_
    rintro e w' ⟨v,rfl,ho,hb⟩;obtain⟨q,d,rfl⟩:=uW ho;exact⟨q,d,rfl,hb,.inl rfl⟩
   ·simp only[Option.some.injEq] at e
    subst e;obtain⟨xs,x1,x2,x3,x4⟩:=BZ w b o (l.length*4) (fun j hj=>by
     obtain⟨h0,h1,h2,p,c,h3,_⟩:=hc (j / 4) (by omega)
     have hm:j % 4=0∨j % 4=1∨j % 4=2∨j % 4=3:=by omega
     rcases hm with hm | hm | hm | hm
     ·exact ⟨_,by rw[show o+j=o+j / 4*4 by omega];exact h0,rfl⟩
     ·exact ⟨_,by rw[show o+j=o+j / 4*4+1 by omega];exact h1,rfl⟩
     ·exact ⟨_,by rw[show o+j=o+j / 4*4+2 by omega];exact h2,rfl⟩
     ·exact ⟨_,by rw[show o+j=o+j / 4*4+3 by omega];exact h3,rfl⟩)
    refine(mM _ l.length c xs w hn x1 x2 x4).mono ?_;rintro e w' ⟨v,rfl,ho,hb⟩;obtain⟨q,d,hv⟩:=uW ho;subst hv;refine⟨q,d,rfl,hb,?_⟩;by_cases h0:l=[]
    ·exact .inl h0
    ·obtain ⟨g,c',hv,hg,hcs,_,hat⟩:=OE ho (List.length_pos_iff.2 h0)
     rw[hv] at ho;simp only[Value.slice.injEq] at hv;refine .inr ⟨g,hv.1,hg,OH ho,fun j hj=> ?_⟩
     obtain⟨k0,k1,k2,p,c,k3,k4⟩:=hc j hj;obtain⟨u0,y0,z0⟩:=x3 (j*4) (by omega)
     obtain⟨u1,y1,z1⟩:=x3 (j*4+1) (by omega)
     obtain⟨u2,y2,z2⟩:=x3 (j*4+2) (by omega)
     obtain⟨u3,y3,z3⟩:=x3 (j*4+3) (by omega)
     refine⟨?_,?_,?_,p,c,?_,k4.bM (.below hb hB)⟩
     ·rw [hat _ _ y0,<-z0];exact k0
     ·rw [hat _ _ y1,<-z1,<-Nat.add_assoc];exact k1
     ·rw [hat _ _ y2,<-z2,<-Nat.add_assoc];exact k2
     ·rw [hat _ _ y3,<-z3,<-Nat.add_assoc];exact k3
theorem jB.of {w:World}{p:Option Addr}{l:List Rw}(h:ar w p l):jB w.heap.size w p l:=by
 by_cases h0:l=[]
 ·exact .inl h0
 ·rcases h with h | ⟨b,o,h,hc⟩
  ·exact .inl h
  ·exact .inr ⟨b,o,h,.inl (World.block_lt_of_cell? _ _ (hc 0 (List.length_pos_iff.2 h0)).1),fun j hj=>.of (hc j hj)⟩
def my (w:World)(p:Option Addr)(l:List Rw):Prop:=∀g o,p=some ⟨g,o,none⟩->∀j,j<l.length->∃q c,w.cell? ⟨g,o+j*4+3,none⟩=some (.slice q (l.getD j aq).out.length (c+(l.getD j aq).out.length))
structure AW (w:World)(t:Tk)(p1 p3:Option Addr)(c1 c3 j:Nat)(wr:World):Prop where
 below:Below w.heap.size w wr
 box:wr.heap[w.heap.size]? =some (.cells #[.int .i64 t.gen,.int .i64 t.bP,.slice p1 t.stamps.length c1,.int .i64 t.table.start,.slice p3 t.table.rows.length c3] 30 (0,0))
 out:wr.heap[w.heap.size+1]? =some (.cells #[.int .i64 0,.int .i64 0,.slice none 0 0,.int .i64 0,.slice none 0 0] 30 (0,0))
 stamps:lg w.heap.size wr p1 t.stamps
 rows:t.table.rows=[]∨∃g,p3=some ⟨g,0,none⟩/\w.heap.size<=g/\(∃cs,wr.heap[g]? =some (.cells cs 80 (0,0)))/\∀j,j<t.table.rows.length->o5 w.heap.size wr g (j*4) (t.table.rows.getD j aq)
 done:∀i,i<j->i<t.table.rows.length->∀g,p3=some ⟨g,0,none⟩->o5 0 wr g (i*4) (t.table.rows.getD i aq)
 XD:∀i,i<j->i<t.table.rows.length->∀g,p3=some ⟨g,0,none⟩->∃q c,wr.cell? ⟨g,i*4+3,none⟩=some (.slice q (t.table.rows.getD i aq).out.length (c+(t.table.rows.getD i aq).out.length))
theorem Kp.lower {B B':Nat}{T:TypeId}{w w':World}(h:Kp B T w w')(hB:B'<=B):Kp B' T w w':=⟨Nat.le_trans hB h.1,fun g hg=>h.2.1 g (by omega),h.2.2⟩
theorem fc.XE {B:Nat}{w:World}{p:Option Addr}{l:List (Int×Int)}(h:fc 0 w p l):fc B w p l:=h.lower (Nat.zero_le _)
theorem AW.step {w wr u:World}{t:Tk}{p1 p3 q:Option Addr}{c1 c3 d g j:Nat}(S:AW w t p1 p3 c1 c3 j wr)(hp:p3=some ⟨g,0,none⟩)(hj:j<t.table.rows.length)(hb:Below wr.heap.size wr u)(hl:fc 0 u q (t.table.rows.getD j aq).out)(hd:∃d',d'+(t.table.rows.getD j aq).out.length=d) :
 AW w t p1 p3 c1 c3 (j+1) (u.setCell ⟨g,j*4+3,none⟩ (.slice q (t.table.rows.getD j aq).out.length d)):=by
 have aW:w.heap.size<=wr.heap.size:=S.below.size;rcases S.rows with h0 | ⟨g',e,hg,⟨cs,hcs⟩,hr⟩
 ·rw [h0] at hj;simp at hj
 ·rw [hp] at e
  simp only[Option.some.injEq,Addr.mk.injEq,and_true] at e;subst e;have hgr:=ae hcs;have Rk:u.heap[g]? =some (.cells cs 80 (0,0)):=(hb.block g hgr).trans hcs;have wM:=(hb.block _ (ae S.box)).trans S.box;have hout:=(hb.block _ (ae S.out)).trans S.out;have n1:w.heap.size≠g:=by
   intro e;rw[e,Rk] at wM;simp at wM
  have n2:w.heap.size+1≠g:=by
   intro e;rw[e,Rk] at hout;simp at hout
  have kp:∀T,T≠80->Kp w.heap.size T u (u.setCell ⟨g,j*4+3,none⟩ (.slice q (t.table.rows.getD j aq).out.length d)):=fun T hT=>.grown Rk (Ne.symm hT) hg (cL g _ _)
  have kb:∀T,Kp w.heap.size T wr u:=fun T=>.below hb aW
  have JE:∀o v,o≠j*4+3->u.cell? ⟨g,o,none⟩=some v->(u.setCell ⟨g,j*4+3,none⟩ (.slice q (t.table.rows.getD j aq).out.length d)).cell? ⟨g,o,none⟩=some v:=fun o v ho h=>by
   rw[World.cell?_setCell_other]
   ·exact h
   ·intro e
    simp only[Addr.mk.injEq] at e;omega
  have key:∀B0,B0<=w.heap.size->∀i B1,(i=j∨B1=B0)->B1<=w.heap.size->o5 B1 wr g (i*4) (t.table.rows.getD i aq)->o5 B0 (u.setCell ⟨g,j*4+3,none⟩ (.slice q (t.table.rows.getD j aq).out.length d)) g (i*4) (t.table.rows.getD i aq):=fun B0 h0 i B1 hi h1 hR=>by
   obtain⟨k0,k1,k2,p,c,k3,k4⟩:=hR.bM (.inr ⟨cs,_,hcs⟩) ((kb _).lower h1) ((kb _).lower h1);refine⟨JE _ _ (by omega) k0,JE _ _ (by omega) k1,JE _ _ (by omega) k2,?_⟩
   by_cases og:i=j
   ·subst og
    exact⟨q,d,World.cell?_setCell_same _ _ _ k3,hl.XE.bM ((kp _ (by decide)).lower h0)⟩
   ·obtain rfl:B1=B0:=hi.resolve_left og
    exact⟨p,c,JE _ _ (by omega) k3,k4.bM ((kp _ (by decide)).lower h0)⟩
  refine⟨(S.below.trans (hb.mono aW)).setCell (p:=⟨g,j*4+3,none⟩) hg _,?_,?_,(S.stamps.bM (kb _)).bM (kp _ (by decide)),?_,?_,?_⟩
  ·rw [heap_setCell_other _ _ _ _ (by exact n1)];exact wM
  ·rw [heap_setCell_other _ _ _ _ (by exact n2)];exact hout
  ·exact .inr ⟨g,hp,hg,⟨_,ai g _ _ _ Rk⟩,fun i hi=>key _ (Nat.le_refl _) i _ (.inr rfl) (Nat.le_refl _) (hr i hi)⟩
  ·intro i hi TP g2 Lr
   rw[hp] at Lr;simp only[Option.some.injEq,Addr.mk.injEq,and_true] at Lr;subst Lr;by_cases og:i=j
   ·exact key 0 (Nat.zero_le _) i _ (.inl og) (Nat.le_refl _) (hr i TP)
   ·exact key 0 (Nat.zero_le _) i 0 (.inr rfl) (Nat.zero_le _) (S.done i (by omega) TP g hp)
  ·intro i hi TP g2 Lr
   rw[hp] at Lr;simp only[Option.some.injEq,Addr.mk.injEq,and_true] at Lr;subst Lr;by_cases og:i=j
   ·subst og
    obtain⟨d',rfl⟩:=hd;obtain⟨-,-,-,p,c,k3,-⟩:=(hr i TP).bM (.inr ⟨cs,_,hcs⟩) (kb _) (kb _);exact⟨q,d',World.cell?_setCell_same _ _ _ k3⟩
   ·obtain ⟨q2,c2,hc2⟩:=S.XD i (by omega) TP g hp
    exact⟨q2,c2,JE _ _ (by omega) ((hb.cell (p:=⟨g,i*4+3,none⟩) hgr).trans hc2)⟩
theorem AW.start {w w2 w3:World}{t:Tk}{p1 p3 p:Option Addr}{c1 c3 c:Nat}(hb2:Below w.heap.size w w2)
 (hs:w2.heap[w.heap.size]? =some (.cells #[.int .i64 t.gen,.int .i64 t.bP,.slice p1 t.stamps.length c1,.int .i64 t.table.start,.slice p t.table.rows.length c] 30 (0,0)))
 (hr:w2.heap[w.heap.size+1]? =some (.cells #[.int .i64 0,.int .i64 0,.slice none 0 0,.int .i64 0,.slice none 0 0] 30 (0,0)))
 (hi:lg w.heap.size w2 p1 t.stamps) (hb3:Below w2.heap.size w2 w3)
 (xN:t.table.rows=[]∨∃g,p3=some ⟨g,0,none⟩/\w2.heap.size<=g/\(∃cs,w3.heap[g]? =some (.cells cs 80 (0,0)))/\∀j,j<t.table.rows.length->o5 w.heap.size w3 g (j*4) (t.table.rows.getD j aq)) :
 AW w t p1 p3 c1 c3 0 (w3.setCell ⟨w.heap.size,4,none⟩ (.slice p3 t.table.rows.length c3)):=by
 have hs3:=(hb3.block _ (ae hs)).trans hs;have hr3:=(hb3.block _ (ae hr)).trans hr;have kp:∀T,T≠30->Kp w.heap.size T w3 (w3.setCell ⟨w.heap.size,4,none⟩ (.slice p3 t.table.rows.length c3)):=fun T hT=>.grown hs3 (Ne.symm hT) (Nat.le_refl _) (cL _ _ _)
 refine⟨(hb2.trans (hb3.mono hb2.size)).setCell (p:=⟨w.heap.size,4,none⟩) (Nat.le_refl _) _,ai _ _ _ _ hs3,?_,(hi.bM (.below hb3 hb2.size)).bM (kp _ (by decide)),?_,fun i Ps=>by omega,fun i Ps=>by omega⟩
 ·rw [heap_setCell_other _ _ _ _ (by simp)];exact hr3
 ·rcases xN with h0 | ⟨g,hp,hg,⟨cs,hcs⟩,tK⟩
  ·exact .inl h0
  ·have:=ae hs
   refine .inr ⟨g,hp,by omega,⟨cs,?_⟩,fun j hj=>(tK j hj).bM (.inr ⟨cs,_,hcs⟩) (kp _ (by decide)) (kp _ (by decide))⟩
   rw[heap_setCell_other _ _ _ _ (by simp;omega)];exact hcs
structure Dx (w w2:World)(t:Tk)(p1 p:Option Addr)(c1 c:Nat):Prop where
 below:Below w.heap.size w w2
 box:w2.heap[w.heap.size]? =some (.cells #[.int .i64 t.gen,.int .i64 t.bP,.slice p1 t.stamps.length c1,.int .i64 t.table.start,.slice p t.table.rows.length c] 30 (0,0))
 out:w2.heap[w.heap.size+1]? =some (.cells #[.int .i64 0,.int .i64 0,.slice none 0 0,.int .i64 0,.slice none 0 0] 30 (0,0))
 stamps:lg w.heap.size w2 p1 t.stamps
theorem Dx.mk' {w w0 w1:World}{t:Tk}{ps p1 p:Option Addr}{cs c1 c:Nat}(b0:Below w.heap.size w w0)(hb1:Below w0.heap.size w0 w1)
 (hB:w0.heap[w.heap.size]? =some (.cells #[.int .i64 t.gen,.int .i64 t.bP,.slice ps t.stamps.length cs,.int .i64 t.table.start,.slice p t.table.rows.length c] 30 (0,0)))
 (hR:w0.heap[w.heap.size+1]? =some (.cells #[.int .i64 0,.int .i64 0,.slice none 0 0,.int .i64 0,.slice none 0 0] 30 (0,0)))
 (hi:lg w0.heap.size w1 p1 t.stamps):Dx w (w1.setCell ⟨w.heap.size,2,none⟩ (.slice p1 t.stamps.length c1)) t p1 p c1 c/\w1.cell? ⟨w.heap.size,2,none⟩=some (.slice ps t.stamps.length cs)/\w1.cell? ⟨w.heap.size,4,none⟩=some (.slice p t.table.rows.length c)/\w1.frozen? ⟨w.heap.size,2,none⟩=false:=by
 have Sw:=(hb1.block _ (ae hB)).trans hB;have Y9:=(hb1.block _ (ae hR)).trans hR;refine⟨⟨(b0.trans (hb1.mono b0.size)).setCell (p:=⟨w.heap.size,2,none⟩) (Nat.le_refl _) _,ai _ _ _ _ Sw,?_,(hi.lower b0.size).bM (.grown Sw (by decide) (Nat.le_refl _) (cL _ _ _))⟩,?_,?_,aj Sw⟩
 ·rw [heap_setCell_other _ _ _ _ (by simp)];exact Y9
 ·rw [cell_of_row _ _ 2 _ _ _ Sw];rfl
 ·rw [cell_of_row _ _ 4 _ _ _ Sw];rfl
theorem Dx.start {w w2 w3:World}{t:Tk}{p1 p3 p:Option Addr}{c1 c3 c:Nat}(M:Dx w w2 t p1 p c1 c)(hb3:Below w2.heap.size w2 w3)
 (xN:t.table.rows=[]∨∃g,p3=some ⟨g,0,none⟩/\w2.heap.size<=g/\(∃cs,w3.heap[g]? =some (.cells cs 80 (0,0)))/\∀j,j<t.table.rows.length->o5 w.heap.size w3 g (j*4) (t.table.rows.getD j aq)) :
 AW w t p1 p3 c1 c3 0 (w3.setCell ⟨w.heap.size,4,none⟩ (.slice p3 t.table.rows.length c3))/\w3.cell? ⟨w.heap.size,4,none⟩=some (.slice p t.table.rows.length c)/\w3.frozen? ⟨w.heap.size,4,none⟩=false:=by
 have Tx:=(hb3.block _ (ae M.box)).trans M.box;refine⟨.start M.below M.box M.out M.stamps hb3 xN,?_,aj Tx⟩;rw[cell_of_row _ _ 4 _ _ _ Tx];rfl
theorem AW.ic {w wr u:World}{t:Tk}{p1 p3:Option Addr}{c1 c3:Nat}(S:AW w t p1 p3 c1 c3 t.table.rows.length wr)(hg:wr.grownBy u (some (w.heap.size+1))):lg w.heap.size u p1 t.stamps/\(jB 0 u p3 t.table.rows/\my u p3 t.table.rows)/\Below w.heap.size w u:=by
 have kp:∀T,T≠30->Kp w.heap.size T wr u:=fun T hT=>.grown S.out (Ne.symm hT) (by omega) hg
 refine⟨S.stamps.bM (kp _ (by decide)),?_,S.below.grown hg S.below.size (fun k hk=>by simp at hk;omega)⟩
 rcases S.rows with h | ⟨g,hp,hg',⟨cs,hcs⟩,hr⟩
 ·exact ⟨.inl h,fun g o _ j hj=>by rw[h] at hj;simp at hj⟩
 ·refine ⟨?_,fun g2 o Lr j hj=> ?_⟩
  rotate_left
  ·rw [hp] at Lr
   simp only[Option.some.injEq,Addr.mk.injEq,and_true] at Lr;obtain⟨rfl,rfl⟩:=Lr;obtain⟨q2,c2,hc2⟩:=S.XD j hj hj g hp;refine⟨q2,c2,?_⟩;rw[Nat.zero_add];exact(World.cell?_of_block (a:=⟨g,j*4+3,none⟩) (((kp 80 (by decide)).2.2 g cs _ hcs).trans hcs.symm)).trans hc2
  exact .inr ⟨g,0,hp,.inr ⟨cs,_,(kp _ (by decide)).2.2 g cs _ hcs⟩,fun j hj=>by rw[Nat.zero_add];exact(S.done j hj hj g hp).bM (.inr ⟨cs,_,hcs⟩) ((kp _ (by decide)).lower (Nat.zero_le _)) ((kp _ (by decide)).lower (Nat.zero_le _))⟩
def IW (w:World)(t:Tk)(e:Ending)(w':World):Prop :=
 ∃ps cs p c,e=.returned (.agg #[.int .i64 t.gen,.int .i64 t.bP,.slice ps t.stamps.length cs,.int .i64 t.table.start,.slice p t.table.rows.length c])/\lg w.heap.size w' ps t.stamps/\(jB 0 w' p t.table.rows/\my w' p t.table.rows/\∃c',c'+t.table.rows.length=c)/\Below w.heap.size w w'
theorem kU (t:Tk)(ps p:Option Addr)(cs c:Nat)(w:World)(hn:t.stamps.length<=1000)(hm:t.table.rows.length<=1000)(hr:∀r∈t.table.rows,r.out.length<=1000)(hst:cX w ps t.stamps)(hnil:ps=none->t.stamps=[])(hl:ar w p t.table.rows) :
 Calls prog 53 #[.agg #[.int .i64 t.gen,.int .i64 t.bP,.slice ps t.stamps.length cs,.int .i64 t.table.start,.slice p t.table.rows.length c]] w (IW w t):=by
 obtain⟨b0,-,-⟩:=yl w #[.int .i64 t.gen,.int .i64 t.bP,.slice ps t.stamps.length cs,.int .i64 t.table.start,.slice p t.table.rows.length c] #[.int .i64 0,.int .i64 0,.slice none 0 0,.int .i64 0,.slice none 0 0] 30;have hB:((w.alloc (.cells #[.int .i64 t.gen,.int .i64 t.bP,.slice ps t.stamps.length cs,.int .i64 t.table.start,.slice p t.table.rows.length c] 30)).alloc (.cells #[.int .i64 0,.int .i64 0,.slice none 0 0,.int .i64 0,.slice none 0 0] 30)).heap[w.heap.size]? =some (.cells #[.int .i64 t.gen,.int .i64 t.bP,.slice ps t.stamps.length cs,.int .i64 t.table.start,.slice p t.table.rows.length c] 30 (0,0)):=(Below.heap_alloc _ _ _ (by simp)).trans (heap_alloc_new w _)
 have hR:((w.alloc (.cells #[.int .i64 t.gen,.int .i64 t.bP,.slice ps t.stamps.length cs,.int .i64 t.table.start,.slice p t.table.rows.length c] 30)).alloc (.cells #[.int .i64 0,.int .i64 0,.slice none 0 0,.int .i64 0,.slice none 0 0] 30)).heap[w.heap.size+1]? =some (.cells #[.int .i64 0,.int .i64 0,.slice none 0 0,.int .i64 0,.slice none 0 0] 30 (0,0)):=by
  have:=heap_alloc_new (w.alloc (.cells #[.int .i64 t.gen,.int .i64 t.bP,.slice ps t.stamps.length cs,.int .i64 t.table.start,.slice p t.table.rows.length c] 30)) (.cells #[.int .i64 0,.int .i64 0,.slice none 0 0,.int .i64 0,.slice none 0 0] 30);rwa [show (w.alloc (.cells #[.int .i64 t.gen,.int .i64 t.bP,.slice ps t.stamps.length cs,.int .i64 t.table.start,.slice p t.table.rows.length c] 30)).heap.size=w.heap.size+1 by simp] at this
 have HR:=hid hR;have HB:=hid hB;have HST:=hid (show ∀u,Below w.heap.size w u->cX u ps t.stamps from fun u hu=>hst.below hu)
 have HL:=hid (show ∀u,Below w.heap.size w u->jB w.heap.size u p t.table.rows from fun u hu=>(jB.of hl).bM (.below hu (Nat.le_refl _)) (.below hu (Nat.le_refl _)))
 have WD:=hid hr;clear hB hR hst hl hr;have c44:=fun (u:World) (hu:Below w.heap.size w u)=>GF ps t.stamps cs u hn (HST.out u hu) hnil
 clear hnil;go_enter func53,ntmps53
 go_wp2_with (first
  |(go_at_call 97;(with_reducible refine(c44 _ b0).mono ?_);rintro e w1 ⟨p1,c1,rfl,UD,hb1⟩;clear c44;obtain⟨mid,d2,d4,f2⟩:=Dx.mk' (c1:=c1) b0 hb1 HB.out HR.out UD;have M:=hid mid;clear mid hb1 UD)
  |(go_at_call 98;(with_reducible refine(GG w.heap.size p t.table.rows c _ M.out.below.size hm (HL.out _ M.out.below)).mono ?_);rintro e w3 ⟨p3,c3',rfl,hb3,xN⟩;generalize hc3:c3'+t.table.rows.length=c3;have HC3:=hid (show ∃c',c'+t.table.rows.length=c3 from⟨c3',hc3⟩);clear hc3;obtain⟨s0,k4,f4⟩:=M.out.start (c3:=c3) hb3 xN;have S0:=hid s0;clear s0 hb3 xN))
 clear d2 d4 f2 k4 f4 M b0 HB HR HST HL;generalize w3.setCell ⟨w.heap.size,4,none⟩ (.slice p3 t.table.rows.length c3)=w4 at S0;go_loopw [19] (fun i wr=>∃j:Nat,j<=t.table.rows.length/\i=.int .i64 (j:Int)/\Hid (AW w t p1 p3 c1 c3 j wr)) (fun i _=>t.table.rows.length-(intOf i).toNat)
 case atStart=>exact ⟨0,by omega,rfl,S0⟩
 case round =>
  obtain⟨j,hj,rfl,S⟩:=hrel;have k4:wr.cell? ⟨w.heap.size,4,none⟩=some (.slice p3 t.table.rows.length c3):=by rw[cell_of_row _ _ 4 _ _ _ S.out.box];rfl
  by_cases aC:j<t.table.rows.length
  ·obtain ⟨g,rfl,hg,⟨cs,hcs⟩,hrow⟩:∃g,p3=some ⟨g,0,none⟩/\w.heap.size<=g/\(∃cs,wr.heap[g]? =some (.cells cs 80 (0,0)))/\∀j,j<t.table.rows.length->o5 w.heap.size wr g (j*4) (t.table.rows.getD j aq):=by
    rcases S.out.rows with h | h
    ·rw [h] at aC;simp at aC
    ·exact h
   obtain⟨d0,d1,d2,p5,c5,d3,hle⟩:=hrow j aC;have fz:wr.frozen? ⟨g,j*4+3,none⟩=false:=aj hcs;have hout:=WD.out (t.table.rows.getD j aq) (by simp[List.getD,aC])
   have cle:=fun (u:World) (hu:Below wr.heap.size wr u)=>AU p5 (t.table.rows.getD j aq).out c5 u hout (hle.dS.below hu)
   have hst:=fun (u:World) (hu:Below wr.heap.size wr u) (q:Option Addr) (d:Nat) hq hd=>S.out.step (q:=q) (d:=d) rfl aC hu hq hd
   have IX:=hid hst;have HCS:=hid hcs;have Mb:g<wr.heap.size:=ae hcs;have hwl:w.heap.size<wr.heap.size:=ae S.out.box;clear hrow hle hst hcs;generalize t.table.rows.getD j aq=r at d0 d1 d2 d3 cle IX hout;obtain⟨x,av,mk,out⟩:=r;simp only at d0 d1 d2 d3 cle IX hout;have bE:(j:Int)<(t.table.rows.length:Int):=by omega
   go_wp2;generalize hwa:wr.alloc (.cells #[.int .i64 x,.int .i64 av,.int .i64 mk,.slice p5 out.length c5] 80)=wa;have ba:Below wr.heap.size wr wa:=by rw[<-hwa];exact(Below.refl _ _).alloc (Nat.le_refl _) _
   have n3:wa.cell? ⟨wr.heap.size,3,none⟩=some (.slice p5 out.length c5):=by
    rw[<-hwa,cell_of_row _ _ 3 _ _ (0,0) (heap_alloc_new wr _)];rfl
   have m4:=af k4 ba;have m3:=af d3 ba;have mz:wa.frozen? ⟨g,j*4+3,none⟩=false:=(ba.frozen (p:=⟨g,j*4+3,none⟩) Mb).trans fz;have hne:w.heap.size≠g:=by
    intro e;have h1:=S.out.box;rw[e] at h1;have h2:=HCS.out;rw[h1] at h2;simp at h2
   have Ic:wr.heap.size≠g:=by omega
   clear hwa d0 d1 d2 d3 fz k4 Mb;have B0:=hid ba;clear ba;go_region_held3 (fun u=>u.cell? ⟨w.heap.size,4,none⟩=some (.slice (some ⟨g,0,none⟩) t.table.rows.length c3)/\u.cell? ⟨wr.heap.size,3,none⟩=some (.slice p5 out.length c5)) (first | assumption | exact⟨m4,n3⟩ | exact Sx _) (first
    |(go_at_call 99;(with_reducible refine(cle _ (B0.out.drew)).mono ?_);rintro e u1 ⟨q,d',rfl,hq,hb1⟩;generalize hd:d'+out.length=d;have hb2:=EL hb1;have o3:=af m3 hb2;have oz:u1.frozen? ⟨g,j*4+3,none⟩=false:=((hb2.frozen (p:=⟨g,j*4+3,none⟩) (World.block_lt_of_cell? _ _ m3)).trans mz);have o4:=af m4 hb2;have l3:=af n3 hb2;have hb3:=B0.out.trans (hb2.mono B0.out.size);have S1:=hid (IX.out u1 hb3 q d hq ⟨d',hd⟩);clear hb1 hb2 hb3 hq m3 mz;have Sx:∀v,(u1.setCell ⟨g,j*4+3,none⟩ v).cell? ⟨w.heap.size,4,none⟩=some (.slice (some ⟨g,0,none⟩) t.table.rows.length c3)/\(u1.setCell ⟨g,j*4+3,none⟩ v).cell? ⟨wr.heap.size,3,none⟩=some (.slice p5 out.length c5):=(fun v=>⟨(World.cell?_setCell_far _ ⟨g,j*4+3,none⟩ ⟨w.heap.size,4,none⟩ v (Ne.symm hne)).trans o4,(World.cell?_setCell_far _ ⟨g,j*4+3,none⟩ ⟨wr.heap.size,3,none⟩ v (Ne.symm Ic)).trans l3⟩);have xj:=And.intro o4 l3))
   clear Sx xj o3 oz o4 l3 IX cle;go_wp2;go_roundw
   case rel=>exact ⟨j+1,by omega,by go_num,S1⟩
   case measure=>simp [intOf];omega
  ·obtain rfl:j=t.table.rows.length:=by omega
   have wM:=S.out.box;have hout:=S.out.out;have b0:wr.cell? ⟨w.heap.size,0,none⟩=some (.int .i64 t.gen):=by rw[cell_of_row _ _ 0 _ _ _ wM];rfl
   have b1:wr.cell? ⟨w.heap.size,1,none⟩=some (.int .i64 t.bP):=by rw[cell_of_row _ _ 1 _ _ _ wM];rfl
   have b2:wr.cell? ⟨w.heap.size,2,none⟩=some (.slice p1 t.stamps.length c1):=by rw[cell_of_row _ _ 2 _ _ _ wM];rfl
   have b3:wr.cell? ⟨w.heap.size,3,none⟩=some (.int .i64 t.table.start):=by rw[cell_of_row _ _ 3 _ _ _ wM];rfl
   have r0:wr.cell? ⟨w.heap.size+1,0,none⟩=some (.int .i64 0):=by rw[cell_of_row _ _ 0 _ _ _ hout];rfl
   have r1:wr.cell? ⟨w.heap.size+1,1,none⟩=some (.int .i64 0):=by rw[cell_of_row _ _ 1 _ _ _ hout];rfl
   have r2:wr.cell? ⟨w.heap.size+1,2,none⟩=some (.slice none 0 0):=by rw[cell_of_row _ _ 2 _ _ _ hout];rfl
   have r3:wr.cell? ⟨w.heap.size+1,3,none⟩=some (.int .i64 0):=by rw[cell_of_row _ _ 3 _ _ _ hout];rfl
   have r4:wr.cell? ⟨w.heap.size+1,4,none⟩=some (.slice none 0 0):=by rw[cell_of_row _ _ 4 _ _ _ hout];rfl
   have y0:wr.frozen? ⟨w.heap.size+1,0,none⟩=false:=aj hout;have y1:wr.frozen? ⟨w.heap.size+1,1,none⟩=false:=aj hout;have y2:wr.frozen? ⟨w.heap.size+1,2,none⟩=false:=aj hout;have y3:wr.frozen? ⟨w.heap.size+1,3,none⟩=false:=aj hout;have y4:wr.frozen? ⟨w.heap.size+1,4,none⟩=false:=aj hout;clear wM hout;go_wp2;refine bodyPost_ret (v:=.agg #[.int .i64 t.gen,.int .i64 t.bP,.slice p1 t.stamps.length c1,.int .i64 t.table.start,.slice p3 t.table.rows.length c3]) (by simp[results,results53,go_sem, *]) rfl ?_
   obtain⟨e1,e2,e3⟩:=S.out.ic (((((cL (w:=wr) (w.heap.size+1) 0 (.int .i64 t.gen)).trans (cL (w.heap.size+1) 1 (.int .i64 t.bP))).trans (cL (w.heap.size+1) 2 (.slice p1 t.stamps.length c1))).trans (cL (w.heap.size+1) 3 (.int .i64 t.table.start))).trans (cL (w.heap.size+1) 4 (.slice p3 t.table.rows.length c3)));exact⟨p1,c1,p3,c3,rfl,e1,⟨e2.1,e2.2,HC3.out⟩,e3⟩
end Zx
end Go.Proofs.YtbgdlokegibkmaaGreat
