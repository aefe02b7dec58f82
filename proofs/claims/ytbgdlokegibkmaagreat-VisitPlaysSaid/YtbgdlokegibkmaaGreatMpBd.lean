/-
  A part of the proof of VisitPlays.
-/
import Derived.Test.YtbgdlokegibkmaaGreatMpBc
import Derived.Test.YtbgdlokegibkmaaGreatMpAt
set_option maxRecDepth 100000
namespace Go.Proofs.YtbgdlokegibkmaaGreat
open Tryz
namespace Zn
open Go.ChangeShapes Go.WideShapes Go.RowKit Zq
open Zx (ak Rw Tb Tk kh Du zo oO IV aq fA Ds wN Dt zq)
open Zv (dK ar)
open Zw (bC)
section
variable {H:Type}{enc:TypeId×Value->H}{w:World}{dJ:Nat}{spare:Nat->Bool}{held:Bool}
theorem OB:prog.cellsOf 30=5:=by kernel_rfl
theorem AQ:prog.cellsOf 42=5:=by kernel_rfl
theorem Dv:prog.cellsOf 4=1:=by kernel_rfl
theorem Lk:prog.cellsOf 44=8:=by kernel_rfl
theorem UB {t e:TypeId}{v:Value}{fuel:Nat}{x:DataW H×List MemPlace}(ht:prog.underlying t=some (.slice e))(hf:DataW.trod enc prog w dJ spare held fuel t [v]=some x){p:Option Addr}{n c:Nat}(hv:v=.slice p n c):n<=c:=by
 rcases Deep.open_slice ht hf with ⟨h0,_⟩ | ⟨a,mS,Dr,m,n,D,Pl,h0,_,hlc,hcm,hm,_,hx⟩
 ·simp only[List.cons.injEq,and_true] at h0
  rw[h0] at hv;simp only[Value.slice.injEq] at hv;omega
 ·simp only[List.cons.injEq,and_true] at h0
  rw[h0] at hv;simp only[Value.slice.injEq] at hv;omega
theorem OC {v:Value}{fuel:Nat}{x:DataW H×List MemPlace}(hf:DataW.trod enc prog w dJ spare held fuel 26 [v]=some x) :
 ∃(p:Option Addr) (c:Nat) (l:List Rw),v=.slice p l.length (c+l.length)/\(l.length:Int)<=9223372036854775807/\ar w p l:=by
 rcases Deep.open_slice underlying26 hf with ⟨h0,_⟩ | ⟨a,mS,Dr,m,n,D,Pl,h0,_,hlc,hcm,hm,_,hx⟩
 ·simp only[List.cons.injEq,and_true] at h0
  subst h0;exact⟨none,0,[],rfl,by simp,.inl rfl⟩
 ·simp only[List.cons.injEq,and_true] at h0
  subst h0;rw[Du] at hx;have MN:mS<=m:=by rw[hm];split <;>omega
  have key:∀i,i<mS->∃r:Rw,w.cell? (a.add (i*4))=some (.int .i64 r.key)/\w.cell? (a.add (i*4+1))=some (.int .i64 r.ay)/\w.cell? (a.add (i*4+2))=some (.int .i64 r.mark) /\
   ∃p c,w.cell? (a.add (i*4+3))=some (.slice p r.out.length (c+r.out.length))/\ak w p r.out:=by
   intro i hi;obtain⟨cs,hcs,ht⟩:=hx i (by omega)
   obtain⟨_,Sv,hat⟩:=World.cells?_some hcs
   match cs,Sv with
   | [a0,a1,a2,a3],_ =>
     obtain⟨_,k,hk⟩:=kh underlying80 ht;obtain⟨y0,g0⟩:=hk 0 _ [a0] rfl (by simp[fA])
     obtain⟨y1,g1⟩:=hk 1 _ [a1] rfl (by simp[fA])
     obtain⟨y2,g2⟩:=hk 2 _ [a2] rfl (by simp[fA])
     obtain⟨y3,g3⟩:=hk 3 _ [a3] rfl (by simp[wN])
     obtain⟨x0,e0,_,_⟩:=DataW.trod_int underlying3 g0;obtain⟨x1,e1,_,_⟩:=DataW.trod_int underlying3 g1;obtain⟨x2,e2,_,_⟩:=DataW.trod_int underlying3 g2;simp only[List.cons.injEq,and_true] at e0 e1 e2;obtain⟨p,c,l,e3,-,hle⟩:=zo underlying78 underlying141 (by kernel_rfl) rfl rfl fA fA underlying3 underlying3 g3
     have Xe:=UB underlying78 g3 e3;subst e0 e1 e2 e3;have q0:=hat 0 (by decide)
     have q1:=hat 1 (by decide)
     have q2:=hat 2 (by decide)
     have q3:=hat 3 (by decide)
     rw[Deep.add_add] at q0 q1 q2 q3;exact⟨⟨x0,x1,x2,l⟩,q0,q1,q2,p,c-l.length,by rw[Nat.sub_add_cancel Xe];exact q3,hle⟩
  by_cases hl:mS=0
  ·subst hl
   exact⟨some a,Dr,[],rfl,by simp,.inl rfl⟩
  ·obtain ⟨b,o,sp⟩:=a
   obtain⟨r0,hs,_⟩:=key 0 (by omega)
   have hsp:sp=none:=by simpa[Addr.add] using World.cell?_spot hs
   subst hsp;obtain⟨l,XC,hq⟩:=oO mS key;refine⟨some ⟨b,o,none⟩,Dr-l.length,l,by rw[XC,Nat.sub_add_cancel hlc],(by rw[XC];unfold maxLen at hcm;omega),.inr ⟨b,o,rfl,fun j hj=> ?_⟩⟩
   obtain⟨q0,q1,q2,p,c,q3,hle⟩:=hq j (by omega)
   rw[add_plain] at q0 q1 q2 q3;exact⟨q0,q1,q2,p,c,q3,hle⟩
theorem GD {fuel:Nat}{c0 c1 c2 c3 c4:Value}{x:DataW H×List MemPlace}(ht:DataW.trod enc prog w dJ spare held fuel 42 [c0,c1,c2,c3,c4]=some x) :
 ∃y:Zy.Rq,Zy.kN y/\c0=.int .i64 y.id/\c1=.int .i64 y.key/\c2=.int .i64 y.cost/\c3=.int .i64 y.bU/\c4=.int .i64 y.bR:=by
 obtain⟨_,k,hk⟩:=Zs.kh underlying42 ht;obtain⟨y0,g0⟩:=hk 0 _ [c0] rfl (by simp[fA])
 obtain⟨y1,g1⟩:=hk 1 _ [c1] rfl (by simp[fA])
 obtain⟨y2,g2⟩:=hk 2 _ [c2] rfl (by simp[fA])
 obtain⟨y3,g3⟩:=hk 3 _ [c3] rfl (by simp[fA])
 obtain⟨y4,g4⟩:=hk 4 _ [c4] rfl (by simp[fA])
 obtain⟨x0,e0,w0⟩:=Zs.iA underlying3 g0;obtain⟨x1,e1,w1⟩:=Zs.iA underlying3 g1;obtain⟨x2,e2,w2⟩:=Zs.iA underlying3 g2;obtain⟨x3,e3,w3⟩:=Zs.iA underlying3 g3;obtain⟨x4,e4,w4⟩:=Zs.iA underlying3 g4;exact⟨⟨x0,x1,x2,x3,x4⟩,⟨w0,w1,w2,w3,w4⟩,e0,e1,e2,e3,e4⟩
def Ep (a:Av):Nat->Value
 | 0=>.bool a.visit
 | 1=>.bool a.eI
 | 2=>.int .i64 a.r.id
 | 3=>.int .i64 a.r.key
 | 4=>.int .i64 a.r.cost
 | 5=>.int .i64 a.r.bU
 | 6=>.int .i64 a.r.bR
 | _=>.int .i64 a.now
theorem UC {fuel:Nat}{cs:List Value}{x:DataW H×List MemPlace}(hc:cs.length=8)(ht:DataW.trod enc prog w dJ spare held fuel 44 cs=some x) :
 ∃a:Av,tS a/\∀k,k<8->cs[k]? =some (Ep a k):=by
 match cs,hc with
 | [c0,c1,c2,c3,c4,c5,c6,c7],_ =>
   obtain⟨_,k,hk⟩:=Zs.kh underlying44 ht;obtain⟨y0,g0⟩:=hk 0 _ [c0] rfl (by simp[Dv])
   obtain⟨y1,g1⟩:=hk 1 _ [c1] rfl (by simp[Dv])
   obtain⟨y2,g2⟩:=hk 2 _ [c2,c3,c4,c5,c6] rfl (by simp[AQ])
   obtain⟨y3,g3⟩:=hk 3 _ [c7] rfl (by simp[fA])
   obtain⟨x0,e0,_⟩:=DataW.trod_bool underlying4 g0;obtain⟨x1,e1,_⟩:=DataW.trod_bool underlying4 g1;obtain⟨x3,e3,w3⟩:=Zs.iA underlying3 g3;obtain⟨r,hr,rfl,rfl,rfl,rfl,rfl⟩:=GD g2;simp only[List.cons.injEq,and_true] at e0 e1;subst e0 e1 e3;refine⟨⟨x0,x1,r,x3⟩,⟨hr,w3⟩,fun k hk=> ?_⟩
   match k,hk with
   | 0,_ | 1,_ | 2,_ | 3,_ | 4,_ | 5,_ | 6,_ | 7,_=>rfl
theorem Ll {r:Reach}{b0:Nat}{v:Value}{d:DataW H}{ps:List MemPlace}(hval:Value.okWide prog w r b0 31 v)(h:DataW.Trod enc prog w dJ spare held 31 v d ps) :
 ∃(p:Option Addr) (c:Nat) (l:List Av),v=.slice p l.length c/\(l.length:Int)<=9223372036854775807/\IB w p l/\∀a∈l,tS a:=by
 obtain⟨p,c,l,e,hl,ha,hn⟩:=Zs.Lj zv tS Ep underlying31 Lk (by decide) (fun fuel cs x hc ht=>UC hc ht) hval h
 refine⟨p,c,l,e,hl,?_,hn⟩;rcases ha with ha | ⟨g,o,e2,ha⟩
 ·exact .inl ha
 ·exact .inr ⟨g,o,e2,fun j hj=>⟨ha j hj 0 (by decide),ha j hj 1 (by decide),ha j hj 2 (by decide),ha j hj 3 (by decide),ha j hj 4 (by decide),ha j hj 5 (by decide),ha j hj 6 (by decide),ha j hj 7 (by decide)⟩⟩
theorem Lm {r:Reach}{b0:Nat}{v:Value}{d:DataW H}{ps:List MemPlace}(hval:Value.okWide prog w r b0 24 v)(h:DataW.Trod enc prog w dJ spare held 24 v d ps) :
 ∃(c:Zy.Cf) (p:Option Addr) (k:Nat),v=c.val p k/\Zy.bD w.heap.size w p c.zs/\Zy.fh c:=by
 obtain⟨V,Y,m,rfl,hf⟩:=Zs.Dq underlying24 (Deep.hone_of (by kernel_rfl)) (by kernel_rfl) hval h
 have h0:=hf 0 _ rfl;have h1:=hf 1 _ rfl;have h2:=hf 2 _ rfl;have h3:=hf 3 _ rfl;have h4:=hf 4 _ rfl;have h5:=hf 5 _ rfl;have h6:=hf 6 _ rfl;have h7:=hf 7 _ rfl;have h8:=hf 8 _ rfl;clear hf;obtain⟨x0,e0,w0⟩:=Zs.iA underlying3 h0;obtain⟨x1,e1,w1⟩:=Zs.iA underlying3 h1;obtain⟨x2,e2,w2⟩:=Zs.iA underlying3 h2;obtain⟨x3,e3,w3⟩:=Zs.iA underlying3 h3;obtain⟨x4,e4,w4⟩:=Zs.iA underlying3 h4;obtain⟨x5,e5,w5⟩:=Zs.iA underlying3 h5;obtain⟨x6,e6,w6⟩:=Zs.iA underlying3 h6;obtain⟨x7,e7,w7⟩:=Zs.iA underlying3 h7;obtain⟨p,k,zs,e8,hr⟩:=Zs.GC underlying22 underlying77 (by kernel_rfl) rfl rfl (by kernel_rfl) (by kernel_rfl) underlying3 underlying3 h8
 refine⟨⟨x0,x1,x2,x3,x4,x5,x6,x7,zs⟩,p,k,?_,?_,w0,w1,w2,w3,w4,w5,w6,w7⟩
 ·show Value.agg #[V 0,V 1,V 2,V 3,V 4,V 5,V 6,V 7,V 8]=_
  rw[e0,e1,e2,e3,e4,e5,e6,e7,e8];rfl
 ·rcases hr with hr | ⟨b,o,e,hc⟩
  ·exact .inl hr
  ·by_cases hz:zs=[]
   ·exact .inl hz
   ·exact .inr ⟨b,o,e,World.block_lt_of_cell? _ _ (hc 0 (List.length_pos_iff.2 hz)).1,hc⟩
theorem Rg {w:World}{t:Tk}{ps p:Option Addr}(h1:cX w ps t.stamps)(h2:ar w p t.table.rows):dZ (fun g=>g<w.heap.size) w t ps p:=by
 constructor
 ·rcases h1 with h | ⟨b,o,e,hc⟩
  ·exact .inl h
  ·by_cases h0:t.stamps=[]
   ·exact .inl h0
   ·exact .inr ⟨b,o,e,World.block_lt_of_cell? _ _ (hc 0 (List.length_pos_iff.2 h0)),hc⟩
 ·rcases h2 with h | ⟨b,o,e,hc⟩
  ·exact .inl h
  ·by_cases h0:t.table.rows=[]
   ·exact .inl h0
   ·refine .inr ⟨b,o,e,World.block_lt_of_cell? _ _ (hc 0 (List.length_pos_iff.2 h0)).1,fun j hj=> ?_⟩
    obtain⟨k0,k1,k2,q,c,k3,k4⟩:=hc j hj;refine⟨k0,k1,k2,q,c,k3,?_⟩;rcases k4 with k4 | ⟨b2,o2,e2,h2⟩
    ·exact .inl k4
    ·by_cases h3:(t.table.rows.getD j aq).out=[]
     ·exact .inl h3
     ·exact .inr ⟨b2,o2,e2,World.block_lt_of_cell? _ _ (h2 0 (List.length_pos_iff.2 h3)).1,h2⟩
theorem OD {r:Reach}{b0:Nat}{v:Value}{d:DataW H}{ps:List MemPlace}(hval:Value.okWide prog w r b0 30 v)(h:DataW.Trod enc prog w dJ spare held 30 v d ps) :
 ∃(t:Tk) (sp p:Option Addr) (cs c:Nat),v=Zo.aS t sp cs p (c+t.table.rows.length)/\(t.stamps.length:Int)<=9223372036854775807/\(t.table.rows.length:Int)<=9223372036854775807/\dZ (fun g=>g<w.heap.size) w t sp p:=by
 obtain⟨cs,rfl,hsz⟩:=okWide_struct underlying30 hval;obtain⟨fuel,hf⟩:=h;obtain⟨l⟩:=cs
 match l,hsz.trans OB with
 | [c0,c1,c2,c3,c4],_ =>
   have zu:DataW.trod enc prog w dJ spare held fuel 30 [c0,c1,c2,c3,c4]=some _:=hf;obtain⟨_,k2,hk2⟩:=kh underlying30 zu;obtain⟨z0,j0⟩:=hk2 0 _ [c0] rfl (by simp[fA])
   obtain⟨z1,j1⟩:=hk2 1 _ [c1] rfl (by simp[fA])
   obtain⟨z2,j2⟩:=hk2 2 _ [c2] rfl (by simp[Ds])
   obtain⟨z3,j3⟩:=hk2 3 _ [c3,c4] rfl (by simp[zq])
   obtain⟨_,k3,hk3⟩:=kh underlying28 j3;obtain⟨t0,m0⟩:=hk3 0 _ [c3] rfl (by simp[fA])
   obtain⟨t1,m1⟩:=hk3 1 _ [c4] rfl (by simp[Dt])
   clear hk2 hk3 hf zu;obtain⟨x6,e6,_,_⟩:=DataW.trod_int underlying3 j0;obtain⟨x7,e7,_,_⟩:=DataW.trod_int underlying3 j1;obtain⟨x9,e9,_,_⟩:=DataW.trod_int underlying3 m0;simp only[List.cons.injEq,and_true] at e6 e7 e9;obtain⟨sp,cs,st,e8,-,hs,hst⟩:=IV underlying25 underlying3 fA j2;obtain⟨p,c,rows,e10,hr,Ky⟩:=OC m1;subst e6 e7 e8 e9 e10;exact⟨⟨x6,x7,st,⟨x9,rows⟩⟩,sp,p,cs,c,rfl,hs,hr,Rg hst Ky⟩
end
end Zn
end Go.Proofs.YtbgdlokegibkmaaGreat
