/-
  A part of the proof of VisitPlays.
-/
import Derived.Deep.DeepCutAuto
import Derived.Test.YtbgdlokegibkmaaGreatMpAz
set_option maxRecDepth 100000
set_option maxHeartbeats 16000000
namespace Go.Proofs.YtbgdlokegibkmaaGreat
open Go.RowKit
open Tryz
open Lib (hid)
namespace Zy
open Zq (ae aj ai)
open Zp (iE aL At bS eu fN af aD aA ag dQ bQ)
open Zw (Lz bC bH)
open Zu (It take)
open Zz (Nt)
theorem vv:eu prog ib 77 22:=⟨underlying22,.agg #[.int .i64 0,.int .i64 0],16,by kernel_rfl,rfl,by decide⟩
theorem Q4 (w:World)(a:Option Addr)(n c n' c':Nat):(binOp .eql 22 (.slice a n c) (.slice none n' c')).run prog w=.ok (.bool a.isNone) w:=Lib.run_eql_slice_nil w _ _ a n c n' c' underlying22
theorem Dj {l:List (Int×Int)}{p:Option Addr}{d:Nat}{w:World}(h:aL ib w p l)(hl:l.length<=1000) :
 Calls prog 32 #[.slice p l.length d] w fun e w'=>∃y,e=.returned y/\Zp.Own ib 77 w.heap.size w' y l/\Below w.heap.size w w':=by
 have HL:=hid h;have hq:=fun (w:World) a n c n' c'=>Q4 w a n c n' c'
 clear h;cases p with
 | none =>
   have hl0:=HL.out.resolve_right (fun⟨b,o,e,_⟩=>by cases e)
   subst hl0;go_enter func32,ntmps32
   go_wp2;go_ret;exact⟨_,rfl,Zp.Own.none _ _ _ _,Below.refl _ _⟩
 | some a =>
   have OM:=hid (Zp.qF (E:=ib) (T:=77) w w.heap.size (Nat.le_refl _));have HB:=hid (cQ w (.cells #[] 77));have LX:=hid (HL.out.below HB.out);go_enter func32,ntmps32
   go_wp2_with (at_builtin;refine Zp.rV vv rfl _ _ rfl w _ _ rfl [] 0 rfl OM.out HB.out (Below.refl _ _) l l.length d (some a) rfl rfl LX.out (fun e=>nomatch e) (by omega) ?_;intro p4 c4 w4 R4 B4;have R5:=hid (show Zp.Own ib 77 w.heap.size w4 (.slice p4 l.length c4) l from by(have:=R4.out;rw[Nat.zero_add] at this;exact this));have B5:=hid B4;clear R4 B4)
   go_ret;exact⟨_,rfl,R5.out,B5.out⟩
section
variable {R:Nat->Prop}{B B' q qw qq qd:Nat}{w w' u u':World}{y:Value}{c:Cf}{e e' e2:Eg}
theorem Oj {L:List Lz}(h:Zw.Pm B' w qw L)(hB:B<=B'):Zw.Pm B w qw L:=by
 obtain⟨h0,m,h1,h2⟩:=h;refine⟨Nat.le_trans hB h0,m,h1,?_⟩;rcases h2 with h2 | ⟨b,D,e,hb,ho,hi⟩
 ·exact .inl h2
 ·exact .inr ⟨b,D,e,Nat.le_trans hB hb,ho,hi⟩
theorem Ol {D:List Nt}(h:Zz.Pm B' w qd D)(hB:B<=B'):Zz.Pm B w qd D:=by
 obtain⟨h0,m,h1,h2⟩:=h;refine⟨Nat.le_trans hB h0,m,h1,?_⟩;rcases h2 with h2 | ⟨b,D,e,hb,ho,hi⟩
 ·exact .inl h2
 ·exact .inr ⟨b,D,e,Nat.le_trans hB hb,ho,hi⟩
theorem Om {F:Nat->Prop}{aw:Int}{l:List It}(h:Zu.Pq F B' w qq aw l)(hB:B<=B'):Zu.Pq F B w qq aw l:=by
 obtain⟨y,hy⟩:=h;exact⟨y,Nat.le_trans hB hy.ge,hy.nf,hy.mW,Zp.Own.lower hy.ic hB,hy.Mj,hy.fl⟩
theorem Q5 {L:List Lz}{b:Nat}(h:Zw.Pm B w qw L)(hb:holds w qw b):B<=b/\b<w.heap.size:=by
 obtain⟨m,hc,-,hm⟩:=h.cell;unfold holds at hb;rw[hc] at hb;simp only[Option.some.injEq,Value.map.injEq] at hb;subst hb;obtain⟨es,cl,hx⟩:=hm.sY;rcases hm with ⟨e,-⟩ | ⟨b',D,e,hB,-⟩
 ·cases e
 ·cases e
  exact⟨hB,ae hx⟩
theorem Q6 {D:List Nt}{b:Nat}(h:Zz.Pm B w qd D)(hb:holds w qd b):B<=b/\b<w.heap.size:=by
 obtain⟨m,hc,-,hm⟩:=h.cell;unfold holds at hb;rw[hc] at hb;simp only[Option.some.injEq,Value.map.injEq] at hb;subst hb;obtain⟨es,cl,hx⟩:=hm.sY;rcases hm with ⟨e,-⟩ | ⟨b',D,e,hB,-⟩
 ·cases e
 ·cases e
  exact⟨hB,ae hx⟩
structure kg (q:Nat)(w w':World):Prop where
 size:w.heap.size<=w'.heap.size
 rest:∀g,g≠q->g<w.heap.size->w'.heap[g]? =w.heap[g]?
theorem kg.trans (h:kg q w w')(k:kg q w' u):kg q w u:=⟨Nat.le_trans h.size k.size,fun g hn hg=>(k.rest g hn (Nat.lt_of_lt_of_le hg h.size)).trans (h.rest g hn hg)⟩
theorem kg.below (hb:Below w.heap.size w w'):kg q w w':=⟨hb.size,fun g _ hg=>hb.block g hg⟩
theorem kg.set (i:Nat)(v:Value):kg q w (w.setCell ⟨q,i,none⟩ v):=⟨by simp,fun g hn _=>Below.heap_setCell _ _ _ _ hn⟩
def Ml (a0:Value)(c:Cf)(y On PL:Value):Array Value:= #[a0,.int .i64 c.n,.int .i64 c.sk,.int .i64 c.tl,.int .i64 c.va,.int .i64 c.lo,.int .i64 c.he,.int .i64 c.ke,.int .i64 c.qu,y,On,PL]
theorem kg.bM {cs:Array Value}(h:kg q w w')(hq:w.heap[q]? =some (.cells cs 88 (0,0))){T:TypeId}(hT:T≠88):gX T w w':=fun g cs' z hg=>by
 refine(h.rest g ?_ (ae hg)).trans hg;rintro rfl;rw[hq] at hg;simp only[Option.some.injEq,Obj.cells.injEq] at hg;exact hT hg.2.1.symm
theorem rv {a0 On PL:Value}{i:Nat}{v:Value}(hk:w.heap[q]? =some (.cells (Ml a0 c y On PL) 88 (0,0)))(hv:(Ml a0 c y On PL)[i]? =some v):w.cell? ⟨q,i,none⟩=some v/\w.frozen? ⟨q,i,none⟩=false :=
 ⟨by rw[cell_of_row w q i _ _ (0,0) hk,hv],aj hk⟩
theorem wJ (P:Zu.jz Zu.Pq){a0 On PL:Value}(hk:w.heap[q]? =some (.cells (Ml a0 c y On PL) 88 (0,0)))(Y8:B<=q)(hB:B<=w.heap.size)(hr:Zp.Own ib 77 B w y c.zs)(h0:0<=c.qu)(h1:c.qu<=16)(hR:∀g,R g->g<w.heap.size) :
 Calls prog 33 #[.pointer (some ⟨q,0,none⟩)] w fun x w'=>x=.returned (.tuple #[])/\(∃qw qq qd,In R B w' q y qw qq qd c e0)/\kg q w w'/\Below B w w':=by
 have RM:=hid hR;clear hR;have c1:=Zw.AF w;have HD:=hid (fun u=>Zz.AF u)
 have HQ:=hid (fun u=>P.new c.qu u h0 h1)
 have HK:=hid hk;have HQL:=hid (ae hk);clear hk;go_enter func33,ntmps33
 go_wp2_with (first
  |(go_at_call 77;(with_reducible refine c1.mono ?_);rintro e1 w1 ⟨qw,rfl,hw,hb⟩;have HW1:=hid hw;have aO:=hid hb;have kq:=hid ((hb.block q HQL.out).trans HK.out);obtain⟨x0,f0⟩:=rv kq.out (i:=0) (v:=a0) rfl;clear hw hb c1)
  |(go_at_call 78;(with_reducible refine(HD.out _).mono ?_);rintro e1 w2 ⟨qd,rfl,hd,hb⟩;have HD2:=hid hd;have bJ:=hid hb;have lX:=hid (show w2.heap[q]? =some (.cells (Ml (.pointer (some ⟨qw,0,none⟩)) c y On PL) 88 (0,0)) from(hb.block q (aD (ai q 0 _ (.pointer (some ⟨qw,0,none⟩)) kq.out))).trans (ai q 0 _ (.pointer (some ⟨qw,0,none⟩)) kq.out));obtain⟨x11,f11⟩:=rv lX.out (i:=11) (v:=PL) rfl;obtain⟨x8,-⟩:=rv lX.out (i:=8) (v:=.int .i64 c.qu) rfl;clear hd hb HD)
  |(go_at_call 79;(with_reducible refine(HQ.out _).mono ?_);rintro e1 w3 ⟨qq,rfl,PK,hb⟩;have HQ3:=hid PK;have cH:=hid hb;have rN:=hid (show w3.heap[q]? =some (.cells (Ml (.pointer (some ⟨qw,0,none⟩)) c y On (.pointer (some ⟨qd,0,none⟩))) 88 (0,0)) from(hb.block q (aD (ai q 11 _ (.pointer (some ⟨qd,0,none⟩)) lX.out))).trans (ai q 11 _ (.pointer (some ⟨qd,0,none⟩)) lX.out));obtain⟨Vr,f10⟩:=rv rN.out (i:=10) (v:=On) rfl;clear PK hb HQ))
 go_end0
 have KF:(w3.setCell ⟨q,10,none⟩ (.pointer (some ⟨qq,0,none⟩))).heap[q]? =some (.cells (Gm qw c y qq qd) 88 (0,0)):=ai q 10 _ _ rN.out;have O3:kg q w3 (w3.setCell ⟨q,10,none⟩ (.pointer (some ⟨qq,0,none⟩))):=kg.set _ _;have O2:kg q w2 (w3.setCell ⟨q,10,none⟩ (.pointer (some ⟨qq,0,none⟩))):=((kg.set 11 (.pointer (some ⟨qd,0,none⟩))).trans (kg.below cH.out)).trans O3;have O1:kg q w1 (w3.setCell ⟨q,10,none⟩ (.pointer (some ⟨qq,0,none⟩))):=((kg.set 0 (.pointer (some ⟨qw,0,none⟩))).trans (kg.below bJ.out)).trans O2;have O0:kg q w (w3.setCell ⟨q,10,none⟩ (.pointer (some ⟨qq,0,none⟩))):=(kg.below aO.out).trans O1;have z1:w.heap.size<=w1.heap.size:=aO.out.size;have z2:w1.heap.size<=w2.heap.size:=by have:=bJ.out.size;simpa using this
 have z3:w2.heap.size<=w3.heap.size:=by have:=cH.out.size;simpa using this
 have hBW:Below B w (w3.setCell ⟨q,10,none⟩ (.pointer (some ⟨qq,0,none⟩))):=by
  have b1:Below B w w1:=aO.out.mono hB;have b2:Below B w w2:=(b1.setCell (p:=⟨q,0,none⟩) Y8 (.pointer (some ⟨qw,0,none⟩))).trans (bJ.out.mono (by simp;omega))
  have b3:Below B w w3:=(b2.setCell (p:=⟨q,11,none⟩) Y8 (.pointer (some ⟨qd,0,none⟩))).trans (cH.out.mono (by simp;omega))
  exact b3.setCell (p:=⟨q,10,none⟩) Y8 _
 generalize w3.setCell ⟨q,10,none⟩ (.pointer (some ⟨qq,0,none⟩))=wF at *;have nm:∀{W:World} {cs:Array Value} {b:Nat} {es:_} {cl:_},W.heap[q]? =some (.cells cs 88 (0,0))->W.heap[b]? =some (.map es cl)->b≠q:=by
  rintro W cs b es cl h1 h2 rfl;rw[h1] at h2;cases h2
 have Mc:=HW1.out;have Y7:=HD2.out;refine⟨rfl,⟨qw,qq,qd,⟨Y8,KF,lI hr (O0.bM HK.out (by decide)),nP (Oj Mc hB) (O1.bM kq.out (by decide)) (fun b es cl _ hm=>(O1.rest b (nm kq.out hm) (ae hm)).trans hm),
  nQ (Om (P.sub HQ3.out (fun g hg=>by have:=RM.out g hg;simp;omega)) (by simp;omega)) O3.size (O3.bM rN.out (by decide)) (O3.bM rN.out (by decide)),nR (Ol Y7 (by simp;omega)) (O2.bM lX.out (by decide)) (fun b es cl _ hm=>(O2.rest b (nm lX.out hm) (ae hm)).trans hm),fun b ha hb=> ?_⟩⟩,O0,hBW⟩
 have a1:holds w1 qw b:=by
  obtain⟨_,m,g1,_⟩:=Mc;unfold holds at ha ⊢;rwa [World.cell?_of_block (a:=⟨qw,0,none⟩) ((O1.bM kq.out (by decide) _ _ _ g1).trans g1.symm)] at ha
 have a2:holds w2 qd b:=by
  obtain⟨_,m,g1,_⟩:=Y7;unfold holds at hb ⊢;rwa [World.cell?_of_block (a:=⟨qd,0,none⟩) ((O2.bM lX.out (by decide) _ _ _ g1).trans g1.symm)] at hb
 have:=(Q5 Mc a1).2;have:=(Q6 Y7 a2).1;simp at this;omega
theorem kg.off {cs:Array Value}(h:kg q w w')(hq:w.heap[q]? =some (.cells cs 88 (0,0))):fN eV w w' :=
 ⟨h.size,fun g cs' T z hg ht=>h.bM hq (by rintro rfl;simp[eV] at ht) g cs' z hg⟩
theorem La (P:Zu.jz Zu.Pq)(h:In R B w q y qw qq qd c e)(hB:B<=w.heap.size)(hf:iL e)(hc:0<=c.qu/\c.qu<=16) :
 Calls prog 10 #[.pointer (some ⟨q,0,none⟩)] w fun x w'=>∃v,x=.returned v/\eo w' v (eI e).2/\(∃qw' qq' qd',In R B w' q y qw' qq' qd' c e0)/\fN eV w w'/\Below B w w'/\∀g,g≠q->g<w.heap.size->w'.heap[g]? =w.heap[g]? :=by
 have c1:=Zu.iz h.qu hf.2.1;have HA:=hid (fun u p k (hl:aL Zu.aN u p e.Q)=>ru (d:=k) hl (by have:=hf.2.1;omega) 8)
 have HF:=hid (fun u (hu:Below w.heap.size w u)=>wJ P (h.below hu).mW h.ge (Nat.le_trans hB hu.size) (h.below hu).rt hc.1 hc.2 (h.below hu).low)
 have HI:=hid (fun u (hu:Below w.heap.size w u)=>bZ.same h hB hu)
 have zV:=h.jh.uj;have eF:=hid hB;rw[show eI e=(e0,all e.Q 8) from rfl]
 generalize all e.Q 8=A at *;clear h hf P;go_enter func10,ntmps10
 go_wp2_with (first
  |(go_at_call 36;(with_reducible refine c1.mono ?_);rintro e1 w1 ⟨y1,rfl,ho,hb⟩;obtain⟨p1,d1,rfl,iG⟩:=Zp.Own.gi ho;have pz:=hid iG;have aO:=hid hb;clear ho hb iG c1)
  |(go_at_call 35;(with_reducible refine(HA.out _ _ _ pz.out).mono ?_);rintro e1 w2 ⟨v,rfl,ht,hb⟩;have HT:=hid ht;have bJ:=hid (aO.out.trans (hb.mono aO.out.size));clear ht hb HA)
  |(go_at_call 33;(with_reducible refine(HF.out _ bJ.out).mono ?_);rintro e1 w3 ⟨rfl,Bp,hon,hb⟩;have HN:=hid Bp;have HO:=hid (hon.off (HI.out _ bJ.out).kr.mW);have HON:=hid hon;have cH:=hid hb;clear Bp hon hb HF))
 go_ret;exact⟨v,rfl,HT.out.off HO.out,HN.out,(HI.out _ bJ.out).off.trans HO.out,(HI.out _ bJ.out).below.trans cH.out,fun g hn hl=>(HON.out.rest g hn (Nat.lt_of_lt_of_le hl bJ.out.size)).trans (bJ.out.block g hl)⟩
end
def tD (c:Cf)(e:Eg)(r:Rq)(now:Int):Int :=
 if E2 e.Q r then 7 else if now<0∨4611686018427387904<=now then 1 else if c.fT r.key<0 then 6 else if c.b r.key<r.cost then 5 else 0
theorem Lb (c:Cf)(e:Eg)(r:Rq)(now:Int) :
 (¬mb r/\tD c e r now=7)∨mb r/\((0<=Zu.au e.Q r.id/\tD c e r now=7)∨¬0<=Zu.au e.Q r.id/\((now<0/\tD c e r now=1)∨¬now<0/\((4611686018427387904<=now/\tD c e r now=1)∨¬4611686018427387904<=now/\((c.fT r.key<0/\tD c e r now=6)∨¬c.fT r.key<0/\((rb c r.key<r.cost/\tD c e r now=5)∨¬rb c r.key<r.cost/\tD c e r now=0))))):=by
 unfold tD rb;by_cases h1:mb r
 ·refine .inr ⟨h1,?_⟩
  by_cases h2:0<=Zu.au e.Q r.id
  ·exact .inl ⟨h2,if_pos ((AM _ _).2 (.inr h2))⟩
  ·refine .inr ⟨h2,?_⟩
   rw[if_neg (fun h=>((AM _ _).1 h).elim (fun h=>h h1) h2)]
   by_cases h3:now<0
   ·exact .inl ⟨h3,if_pos (.inl h3)⟩
   ·refine .inr ⟨h3,?_⟩
    by_cases h4:4611686018427387904<=now
    ·exact .inl ⟨h4,if_pos (.inr h4)⟩
    ·refine .inr ⟨h4,?_⟩
     rw[if_neg (by omega)]
     by_cases h5:c.fT r.key<0
     ·exact .inl ⟨h5,if_pos h5⟩
     ·refine .inr ⟨h5,?_⟩
      rw[if_neg h5,if_pos (by omega)]
      by_cases h6:c.b r.key<r.cost
      ·exact .inl ⟨h6,if_pos h6⟩
      ·exact .inr ⟨h6,if_neg h6⟩
 ·exact .inl ⟨h1,if_pos ((AM _ _).2 (.inl h1))⟩
section
variable {R:Nat->Prop}{B q qw qq qd:Nat}{w w' u u':World}{y:Value}{c:Cf}{e e' e2:Eg}
structure IL (w:World)(q g:Nat)(y:Value)(qw qq qd:Nat)(c:Cf)(r:Rq):Prop where
 r0:w.cell? ⟨g,0,none⟩=some (.int .i64 r.id)
 r1:w.cell? ⟨g,1,none⟩=some (.int .i64 r.key)
 r2:w.cell? ⟨g,2,none⟩=some (.int .i64 r.cost)
 r3:w.cell? ⟨g,3,none⟩=some (.int .i64 r.bU)
 r4:w.cell? ⟨g,4,none⟩=some (.int .i64 r.bR)
 s:wI w q y qw qq qd c
theorem wI.on (h:wI w q y qw qq qd c)(hb:Below w.heap.size w w'):wI w' q y qw qq qd c :=
 ⟨af h.k0 hb,af h.k1 hb,af h.k2 hb,af h.k3 hb,af h.k4 hb,af h.k5 hb,af h.k6 hb,af h.k7 hb,af h.k8 hb,af h.k9 hb,af h.uj hb,af h.Sq hb⟩
theorem IL.on {g:Nat}{r:Rq}(h:IL w q g y qw qq qd c r)(hb:Below w.heap.size w w'):IL w' q g y qw qq qd c r :=
 ⟨af h.r0 hb,af h.r1 hb,af h.r2 hb,af h.r3 hb,af h.r4 hb,h.s.on hb⟩
theorem th (h:In R B w q y qw qq qd c e)(r:Rq):IL (w.alloc (.cells #[.int .i64 r.id,.int .i64 r.key,.int .i64 r.cost,.int .i64 r.bU,.int .i64 r.bR] 42)) q w.heap.size y qw qq qd c r:=by
 obtain⟨b0,b1,b2,b3,b4⟩:=bQ (heap_alloc_new w (.cells #[.int .i64 r.id,.int .i64 r.key,.int .i64 r.cost,.int .i64 r.bU,.int .i64 r.bR] 42));exact⟨b0,b1,b2,b3,b4,(h.below (cQ w _)).jh⟩
theorem Q7 {X w3:World}{a b:Value}{T:TypeId}(hb:Below (X.alloc (.cells #[a,b] T)).drew.heap.size (X.alloc (.cells #[a,b] T)).drew w3):w3.cell? ⟨X.heap.size,0,none⟩=some a/\w3.cell? ⟨X.heap.size,1,none⟩=some b/\w3.frozen? ⟨X.heap.size,0,none⟩=false/\w3.frozen? ⟨X.heap.size,1,none⟩=false/\w3.heap[X.heap.size]? =some (.cells #[a,b] T (0,0)):=by
 have k:w3.heap[X.heap.size]? =some (.cells #[a,b] T (0,0)):=(hb.block X.heap.size (by show X.heap.size<(X.alloc (.cells #[a,b] T)).heap.size;simp)).trans (heap_alloc_new X (.cells #[a,b] T))
 exact⟨by rw[cell_of_row w3 _ 0 _ _ (0,0) k];rfl,by rw[cell_of_row w3 _ 1 _ _ (0,0) k];rfl,aj k,aj k,k⟩
def Ux (w0 wx:World)(a:Value)(x y:Int):Prop:=∃g,a=.pointer (some ⟨g,0,none⟩)/\wx.cell? ⟨g,0,none⟩=some (.int .i64 x)/\wx.cell? ⟨g,1,none⟩=some (.int .i64 y)/\Below w0.heap.size w0 wx
theorem Oo {S:Prop}{w0 w3:World}{x y:Int}{T:TypeId}(h:Below w0.heap.size w0 w3/\S):Ux w0 (w3.alloc (.cells #[.int .i64 x,.int .i64 y] T)) (.pointer (some ⟨w3.heap.size,0,none⟩)) x y:=by
 have k:=heap_alloc_new w3 (.cells #[.int .i64 x,.int .i64 y] T);exact⟨_,rfl,by rw[cell_of_row _ _ 0 _ _ (0,0) k];rfl,by rw[cell_of_row _ _ 1 _ _ (0,0) k];rfl,h.1.alloc h.1.size _⟩
theorem Oq {S:Prop}{w0 w3:World}{a b:Value}{x y:Int}{T:TypeId}{g:Nat}(k:w3.heap[g]? =some (.cells #[a,b] T (0,0)))(h:Below w0.heap.size w0 w3/\S)(hg:w0.heap.size<=g):Ux w0 ((w3.setCell ⟨g,0,none⟩ (.int .i64 x)).setCell ⟨g,1,none⟩ (.int .i64 y)) (.pointer (some ⟨g,0,none⟩)) x y:=by
 have k2:=ai g 1 _ (.int .i64 y) (ai g 0 _ (.int .i64 x) k);exact⟨_,rfl,by rw[cell_of_row _ _ 0 _ _ (0,0) k2];rfl,by rw[cell_of_row _ _ 1 _ _ (0,0) k2];rfl,(h.1.setCell (p:=⟨g,0,none⟩) hg _).setCell (p:=⟨g,1,none⟩) hg _⟩
theorem qg {S:Prop}{w0 X:World}(h:Below w0.heap.size w0 X/\S)(hb:Below X.heap.size X w'):Below w0.heap.size w0 w':=h.1.trans (hb.mono h.1.size)
theorem Xv {S:Prop}{w0 X:World}{g:Nat}{a b:Value}(h:Below w0.heap.size w0 X/\S)(hg:w0.heap.size<=g):Below w0.heap.size w0 ((X.setCell ⟨g,0,none⟩ a).setCell ⟨g,1,none⟩ b):=(h.1.setCell (p:=⟨g,0,none⟩) hg _).setCell (p:=⟨g,1,none⟩) hg _
theorem IM {S:Prop}{w0 X:World}(h:Below w0.heap.size w0 X/\S)(hb:Below w.heap.size w w0):Below w.heap.size w X:=hb.trans (h.1.mono hb.size)
theorem ry {S:Prop}{w0 X:World}(h:Below w0.heap.size w0 X/\S)(o:Obj):Below w0.heap.size w0 (X.alloc o):=h.1.alloc h.1.size _
theorem xM (h:In R B w q y qw qq qd c e)(hf:iL e)(r:Rq)(now:Int) :
 Calls prog 38 #[.pointer (some ⟨q,0,none⟩),kY r,.int .i64 now] w fun x w'=>x=.returned (.int .i64 (tD c e r now))/\Below w.heap.size w w':=by
 have b9:=Lb c e r now;have hx:=th h r;have fD:=hid (cQ w (.cells #[.int .i64 r.id,.int .i64 r.key,.int .i64 r.cost,.int .i64 r.bU,.int .i64 r.bR] 42));obtain⟨p,k,rfl,hl⟩:=h.aH;have HX:=hid (fun u (hu:Below (w.alloc (.cells #[.int .i64 r.id,.int .i64 r.key,.int .i64 r.cost,.int .i64 r.bU,.int .i64 r.bR] 42)).heap.size (w.alloc (.cells #[.int .i64 r.id,.int .i64 r.key,.int .i64 r.cost,.int .i64 r.bU,.int .i64 r.bR] 42)) u)=>hx.on hu)
 have HK:=hid (fun u (hu:Below w.heap.size w u)=>lJ k (hl.below hu) r.key)
 have HM:=hid (fun u=>K8 r u)
 have HW:=hid (fun u (hu:Below w.heap.size w u)=>Gp (h.below hu) hf.2.1 r.id)
 generalize tD c e r now=O at *;generalize Zu.au e.Q r.id=pl at *;generalize ra c r.key=Vt at *;generalize rb c r.key=Q8 at *;generalize c.fT r.key=kk at *;have Pz:decide (0<=kk)= !decide (kk<0):=by
  by_cases h0:kk<0
  ·simp [h0,show ¬0<=kk by omega]
  ·simp [h0,show 0<=kk by omega]
 rw[Pz] at HK;clear Pz;generalize Y3:decide (mb r)=mm at *;have YN:mb r↔mm=true:=by rw[<-Y3];simp
 simp only[YN] at b9;obtain⟨ri,fU,rc,rs,sB⟩:=r;simp only[kY,Cf.val] at *;obtain⟨r0,r1,r2,r3,r4,s⟩:=hx;obtain⟨k0,k1,k2,k3,k4,k5,k6,k7,k8,k9,uj,Sq⟩:=s;simp only at *;clear h hl Y3 YN k0 uj Sq r0 r2 r3 r4;go_enter func38,ntmps38
 go_wp2;generalize w.alloc (.cells #[.int .i64 ri,.int .i64 fU,.int .i64 rc,.int .i64 rs,.int .i64 sB] 42)=w0 at *;have HS:=hid (fun u (hu:Below w0.heap.size w0 u)=>show Below w0.heap.size w0 u/\u.cell? ⟨q,1,none⟩=some (.int .i64 c.n)/\u.cell? ⟨q,2,none⟩=some (.int .i64 c.sk)/\u.cell? ⟨q,3,none⟩=some (.int .i64 c.tl)/\u.cell? ⟨q,4,none⟩=some (.int .i64 c.va)/\u.cell? ⟨q,5,none⟩=some (.int .i64 c.lo)/\u.cell? ⟨q,6,none⟩=some (.int .i64 c.he)/\u.cell? ⟨q,7,none⟩=some (.int .i64 c.ke)/\u.cell? ⟨q,8,none⟩=some (.int .i64 c.qu)/\u.cell? ⟨q,9,none⟩=some (.slice p c.zs.length k)/\u.cell? ⟨w.heap.size,1,none⟩=some (.int .i64 fU) from
  ⟨hu,(HX.out u hu).s.k1,(HX.out u hu).s.k2,(HX.out u hu).s.k3,(HX.out u hu).s.k4,(HX.out u hu).s.k5,(HX.out u hu).s.k6,(HX.out u hu).s.k7,(HX.out u hu).s.k8,(HX.out u hu).s.k9,(HX.out u hu).r1⟩)
 have y0:=HS.out _ (Below.refl w0.heap.size w0).drew;clear k1 k2 k3 k4 k5 k6 k7 k8 k9 r1;go_cut [7,8] (fun a b wx=>b=.bool (!decide (kk<0))/\Ux w0 wx a Vt Q8)
 case first =>
  go_region_held3 (fun u=>Below w0.heap.size w0 u/\u.cell? ⟨q,1,none⟩=some (.int .i64 c.n)/\u.cell? ⟨q,2,none⟩=some (.int .i64 c.sk)/\u.cell? ⟨q,3,none⟩=some (.int .i64 c.tl)/\u.cell? ⟨q,4,none⟩=some (.int .i64 c.va)/\u.cell? ⟨q,5,none⟩=some (.int .i64 c.lo)/\u.cell? ⟨q,6,none⟩=some (.int .i64 c.he)/\u.cell? ⟨q,7,none⟩=some (.int .i64 c.ke)/\u.cell? ⟨q,8,none⟩=some (.int .i64 c.qu)/\u.cell? ⟨q,9,none⟩=some (.slice p c.zs.length k)/\u.cell? ⟨w.heap.size,1,none⟩=some (.int .i64 fU)) (first | assumption | exact HS.out _ (ry (by assumption) _) | exact HS.out _ (Xv (by assumption) (Nat.le_refl _))) (first
   |(go_at_call 83;(with_reducible refine(HK.out _ (IM (by assumption) fD.out)).mono ?_);rintro e1 w3 ⟨rfl,hb⟩;have y3:=HS.out _ (qg (by assumption) hb);(try (have zz:=Q7 hb;obtain⟨z0,z1,z2,z3,zk⟩:=zz))))
  all_goals (go_wp2_with fail;go_meet;first | exact⟨rfl,Oo (by assumption)⟩ | exact⟨rfl,Oq zk (by assumption) (Nat.le_refl _)⟩)
 case rest =>
  obtain⟨rfl,gr,rfl,-,hy,lQ⟩:=hcut;have HY:=hid (fun u (hu:Below wc.heap.size wc u)=>af hy hu)
  have HXC:=hid (fun u (hu:Below wc.heap.size wc u)=>HX.out u (lQ.trans (hu.mono lQ.size)))
  have En:=hid (fD.out.trans (lQ.mono fD.out.size));obtain⟨r0,r1,r2,r3,r4,-⟩:=HXC.out _ (Below.refl _ _);simp only at r0 r1 r2 r3 r4;clear HK HS HX lQ;rcases b9 with ⟨h1,rfl⟩ | ⟨rfl,⟨h2,rfl⟩ | ⟨h2,⟨h3,rfl⟩ | ⟨h3,⟨h4,rfl⟩ | ⟨h4,⟨h5,rfl⟩ | ⟨h5,⟨h6,rfl⟩ | ⟨h6,rfl⟩⟩⟩⟩⟩⟩
  ·obtain rfl:mm=false:=by simpa using h1
   go_wp2_with (go_at_call 84;(with_reducible refine(HM.out _).mono ?_);rintro e1 w4 ⟨rfl,hb⟩;have fp:=hid hb;clear hb)
   go_ret;exact⟨rfl,En.out.trans (fp.out.mono En.out.size)⟩
  all_goals
   go_wp2_with (first
    |(go_at_call 84;(with_reducible refine(HM.out _).mono ?_);rintro e1 w4 ⟨rfl,hb⟩;have fp:=hid hb;have t0:=af r0 hb;clear hb)
    |(go_at_call 85;(with_reducible refine(HW.out _ (En.out.trans (fp.out.mono En.out.size))).mono ?_);rintro e1 w5 ⟨rfl,hb⟩;have jy:=hid (fp.out.trans (hb.mono fp.out.size));have t2:=af r2 jy.out;have ty:=HY.out _ jy.out;clear hb))
   go_ret;exact⟨rfl,En.out.trans (jy.out.mono En.out.size)⟩
end
def sa (e:Eg)(r:Rq)(now:Int):List Lz×Int×Bool:=if Zu.of e.Q r.key=[] then bH e.L r.key r.cost now else (e.L,0,false)
theorem Lc (l:List It):(l=[]/\(Zu.head l).2=false)∨(l≠[]/\(Zu.head l).2=true):=by
 cases l with
 | nil=>exact .inl ⟨rfl,rfl⟩
 | cons x l=>exact .inr ⟨List.cons_ne_nil _ _,rfl⟩
section
variable {R:Nat->Prop}{B q qw qq qd:Nat}{w w' u u':World}{y:Value}{c:Cf}{e e' e2:Eg}
theorem Ot {X w3:World}{a b c d e:Value}{T:TypeId}(hb:Below (X.alloc (.cells #[a,b,c,d,e] T)).drew.heap.size (X.alloc (.cells #[a,b,c,d,e] T)).drew w3) :
 (w3.cell? ⟨X.heap.size,0,none⟩=some a/\w3.cell? ⟨X.heap.size,1,none⟩=some b/\w3.cell? ⟨X.heap.size,2,none⟩=some c/\w3.cell? ⟨X.heap.size,3,none⟩=some d/\w3.cell? ⟨X.heap.size,4,none⟩=some e) /\
 (w3.frozen? ⟨X.heap.size,0,none⟩=false/\w3.frozen? ⟨X.heap.size,1,none⟩=false/\w3.frozen? ⟨X.heap.size,2,none⟩=false/\w3.frozen? ⟨X.heap.size,3,none⟩=false/\w3.frozen? ⟨X.heap.size,4,none⟩=false):=by
 have k:w3.heap[X.heap.size]? =some (.cells #[a,b,c,d,e] T (0,0)):=(hb.block X.heap.size (by show X.heap.size<(X.alloc (.cells #[a,b,c,d,e] T)).heap.size;simp)).trans (heap_alloc_new X (.cells #[a,b,c,d,e] T))
 exact⟨bQ k,Zp.ou k⟩
theorem Ou {S:Prop}{w0 X:World}{g:Nat}{a b c d e:Value}(h:Below w0.heap.size w0 X/\S)(hg:w0.heap.size<=g):Below w0.heap.size w0 (((((X.setCell ⟨g,0,none⟩ a).setCell ⟨g,1,none⟩ b).setCell ⟨g,2,none⟩ c).setCell ⟨g,3,none⟩ d).setCell ⟨g,4,none⟩ e) :=
 ((((h.1.setCell (p:=⟨g,0,none⟩) hg _).setCell (p:=⟨g,1,none⟩) hg _).setCell (p:=⟨g,2,none⟩) hg _).setCell (p:=⟨g,3,none⟩) hg _).setCell (p:=⟨g,4,none⟩) hg _
theorem uC (P:Zu.jz Zu.Pq)(h:In R B w q y qw qq qd c e)(hB:B<=w.heap.size)(hg:bu c e)(hf:iL e)(r:Rq)(hr:kN r)(now:Int) :
 Calls prog 40 #[.pointer (some ⟨q,0,none⟩),kY r,.int .i64 now] w fun x w'=>x=.returned (.tuple #[.int .i64 (sa e r now).2.1,.bool (sa e r now).2.2])/\bZ R B w q y qw qq qd c ⟨(sa e r now).1,e.Q,e.D⟩ w':=by
 have fD:=hid (cQ w (.cells #[.int .i64 r.id,.int .i64 r.key,.int .i64 r.cost,.int .i64 r.bU,.int .i64 r.bR] 42));have hx:=th h r;have HX:=hid (fun u (hu:Below (w.alloc (.cells #[.int .i64 r.id,.int .i64 r.key,.int .i64 r.cost,.int .i64 r.bU,.int .i64 r.bR] 42)).heap.size (w.alloc (.cells #[.int .i64 r.id,.int .i64 r.key,.int .i64 r.cost,.int .i64 r.bU,.int .i64 r.bR] 42)) u)=>hx.on hu)
 have HK:=hid (fun u (hu:Below (w.alloc (.cells #[.int .i64 r.id,.int .i64 r.key,.int .i64 r.cost,.int .i64 r.bU,.int .i64 r.bR] 42)).heap.size (w.alloc (.cells #[.int .i64 r.id,.int .i64 r.key,.int .i64 r.cost,.int .i64 r.bU,.int .i64 r.bR] 42)) u)=>(hu.block w.heap.size (by simp)).trans (heap_alloc_new w (.cells #[.int .i64 r.id,.int .i64 r.key,.int .i64 r.cost,.int .i64 r.bU,.int .i64 r.bR] 42)))
 have HF:=hid (fun u (hu:Below w.heap.size w u)=>P.first (h.below hu).qu hg.q hf.2.1 r.key hr.2.1)
 have HS:=hid (fun u (hu:Below w.heap.size w u)=>Og (h.below hu) (Nat.le_trans hB hu.size) hg.l (by have:=hf.1;omega) (cost:=r.cost) (now:=now) hr.2.1)
 have HM:=hid (fun u (hu:Below w.heap.size w u)=>bZ.same h hB hu)
 have eF:=hid hB;have hh:=Lc (Zu.of e.Q r.key);have TK:sa e r now=if Zu.of e.Q r.key=[] then bH e.L r.key r.cost now else (e.L,0,false):=rfl
 generalize sa e r now=S at *;generalize Zu.head (Zu.of e.Q r.key)=hd at *;generalize Zu.of e.Q r.key=OF at *;generalize bH e.L r.key r.cost now=SP at *;obtain⟨L',gen,so⟩:=SP;obtain⟨⟨zi,zk,zc,zs,zt⟩,ok⟩:=hd;obtain⟨ri,fU,rc,rs,sB⟩:=r;simp only[kY,Zu.val] at *;obtain⟨r0,r1,r2,r3,r4,s⟩:=hx;have zV:=s.uj;simp only at *;clear h hg hf hB s r0 r3 r4 P;go_enter func40,ntmps40
 go_wp2;generalize w.alloc (.cells #[.int .i64 ri,.int .i64 fU,.int .i64 rc,.int .i64 rs,.int .i64 sB] 42)=w0 at *;have HY:=hid (fun u (hu:Below w0.heap.size w0 u)=>show Below w0.heap.size w0 u/\u.cell? ⟨q,10,none⟩=some (.pointer (some ⟨qq,0,none⟩))/\u.cell? ⟨w.heap.size,1,none⟩=some (.int .i64 fU) from
  ⟨hu,(HX.out u hu).s.uj,(HX.out u hu).r1⟩)
 have y0:=HY.out _ (Below.refl w0.heap.size w0).drew;clear zV r1 r2;go_cut [9] (fun a wx=>a=.bool ok/\Below w0.heap.size w0 wx)
 case first =>
  go_region_held3 (fun u=>Below w0.heap.size w0 u/\u.cell? ⟨q,10,none⟩=some (.pointer (some ⟨qq,0,none⟩))/\u.cell? ⟨w.heap.size,1,none⟩=some (.int .i64 fU)) (first | with_reducible assumption | ((with_reducible refine HY.out _ ?_);first | with_reducible exact Ou (by with_reducible assumption) (Nat.le_refl _) | with_reducible exact ry (by with_reducible assumption) _ | exact ry (by with_reducible assumption) _)) (first
   |(go_at_call 86;(with_reducible refine(HF.out _ (IM (by with_reducible assumption) fD.out)).mono ?_);rintro e1 w3 ⟨rfl,hb⟩;have y3:=HY.out _ (qg (by with_reducible assumption) hb);(try (have zz:=Ot hb;obtain⟨⟨z0,z1,z2,z3,z4⟩,⟨x0,x1,x2,x3,x4⟩⟩:=zz))))
  all_goals (go_wp2_with fail;go_meet;(refine⟨rfl,?_⟩;first | with_reducible exact ry (by with_reducible assumption) _ | with_reducible exact Ou (by with_reducible assumption) (Nat.le_refl _)))
 case rest =>
  obtain⟨rfl,lQ⟩:=hcut;have En:=hid (fD.out.trans (lQ.mono fD.out.size));have hs0:=(HX.out _ lQ).s.k0;obtain⟨r0,r1,r2,r3,r4,-⟩:=HX.out _ lQ;simp only at r0 r1 r2 r3 r4;have HKC:=hid (HK.out _ lQ);clear HF HY HX HK lQ r0 r3 r4;rcases hh with ⟨rfl,rfl⟩ | ⟨hne,rfl⟩
  ·rw [if_pos rfl] at TK
   subst TK;have Xw:=hid (En.out.trans ((Below.refl wc.heap.size wc).drew.mono En.out.size));have c1:=HS.out _ Xw.out;have HMD:=hid (HM.out _ Xw.out);clear HS HM;go_wp2;go_region_held3 (fun u=>u.cell? ⟨q,0,none⟩=some (.pointer (some ⟨qw,0,none⟩))/\u.cell? ⟨w.heap.size,1,none⟩=some (.int .i64 fU)/\u.cell? ⟨w.heap.size,2,none⟩=some (.int .i64 rc)) (first | assumption | exact⟨hs0,r1,r2⟩) (first
    |(go_at_call 87;(with_reducible refine c1.mono ?_);rintro e1 w3 ⟨rfl,h3⟩;have H3:=hid h3;have y3:_/\_/\_:=⟨h3.kr.jh.k0,(bQ (h3.lf.block _ _ _ _ HKC.out (by simp[fV]))).2.1,(bQ (h3.lf.block _ _ _ _ HKC.out (by simp[fV]))).2.2.1⟩;clear h3 c1))
   go_wp2;refine bodyPost_ret (v:=.tuple #[.int .i64 gen,.bool so]) (by simp[results,results40,go_sem]) rfl ⟨rfl,HMD.out.trans H3.out⟩
  ·rw [if_neg hne] at TK
   subst TK;go_wp2;refine bodyPost_ret (v:=.tuple #[.int .i64 0,.bool false]) (by simp[results,results40,go_sem]) rfl ⟨rfl,HM.out _ En.out⟩
def Dk (u:World)(b:Nat)(x z:Int):Prop:=u.cell? ⟨b,0,none⟩=some (.int .i64 x)/\u.cell? ⟨b,1,none⟩=some (.int .i64 z)
theorem uk {X:World}{b:Nat}{x z:Int}{T:TypeId}(hb:b=X.heap.size):Dk (X.alloc (.cells #[.int .i64 x,.int .i64 z] T)).drew b x z:=by
 subst hb;have k:(X.alloc (.cells #[.int .i64 x,.int .i64 z] T)).drew.heap[X.heap.size]? =some (.cells #[.int .i64 x,.int .i64 z] T (0,0)):=heap_alloc_new X (.cells #[.int .i64 x,.int .i64 z] T);exact⟨by rw[cell_of_row _ _ 0 _ _ (0,0) k];rfl,by rw[cell_of_row _ _ 1 _ _ (0,0) k];rfl⟩
theorem IP {X:World}{b:Nat}{x z:Int}{T:TypeId}{o:Obj}(hb:b=X.heap.size):Dk ((X.alloc (.cells #[.int .i64 x,.int .i64 z] T)).alloc o).drew b x z:=by
 obtain⟨h0,h1⟩:=uk (X:=X) (x:=x) (z:=z) (T:=T) hb;have hb2:Below (X.alloc (.cells #[.int .i64 x,.int .i64 z] T)).drew.heap.size (X.alloc (.cells #[.int .i64 x,.int .i64 z] T)).drew ((X.alloc (.cells #[.int .i64 x,.int .i64 z] T)).alloc o).drew:=cQ (X.alloc (.cells #[.int .i64 x,.int .i64 z] T)).drew o;exact⟨af h0 hb2,af h1 hb2⟩
theorem qG {u:World}{b:Nat}{x z:Int}(h:Dk u b x z):Calls prog 88 #[.slice (some ⟨b,0,none⟩) 2 2] u fun e w'=>e=.returned (.int .i64 (Zr.add [x,z]))/\u=w' :=
 Zr.Ia [x,z] b 2 u (by simp) fun k hk=>by
  match k,hk with
  | 0,_=>exact h.1
  | 1,_=>exact h.2
theorem iy (w0:World)(o:Obj):Below w0.heap.size w0 (w0.alloc o).drew:=(cQ w0 o).drew
theorem Q9 (w0:World)(o o':Obj):Below w0.heap.size w0 ((w0.alloc o).alloc o').drew:=((cQ w0 o).trans ((cQ (w0.alloc o) o').mono (cQ w0 o).size)).drew
def Ra (w0 wx:World)(a:Value)(x:It):Prop:=∃g,a=.pointer (some ⟨g,0,none⟩)/\wx.heap[g]? =some (.cells #[.int .i64 x.id,.int .i64 x.key,.int .i64 x.cost,.int .i64 x.bU,.int .i64 x.cJ] 136 (0,0))/\w0.heap.size<=g/\Below w0.heap.size w0 wx
theorem IQ (w0:World)(o:Obj)(x:It):Ra w0 ((w0.alloc o).alloc (.cells #[.int .i64 x.id,.int .i64 x.key,.int .i64 x.cost,.int .i64 x.bU,.int .i64 x.cJ] 136)).drew (.pointer (some ⟨w0.heap.size+1,0,none⟩)) x:=by
 have k:((w0.alloc o).alloc (.cells #[.int .i64 x.id,.int .i64 x.key,.int .i64 x.cost,.int .i64 x.bU,.int .i64 x.cJ] 136)).drew.heap[(w0.alloc o).heap.size]? =some (.cells #[.int .i64 x.id,.int .i64 x.key,.int .i64 x.cost,.int .i64 x.bU,.int .i64 x.cJ] 136 (0,0)):=heap_alloc_new (w0.alloc o) _;rw[show (w0.alloc o).heap.size=w0.heap.size+1 by simp] at k
 exact⟨_,rfl,k,by omega,Q9 _ _ _⟩
theorem Ov (w0:World)(o:Obj)(x:It):Ra w0 ((w0.alloc (.cells #[.int .i64 x.id,.int .i64 x.key,.int .i64 x.cost,.int .i64 x.bU,.int .i64 x.cJ] 136)).alloc o).drew (.pointer (some ⟨w0.heap.size,0,none⟩)) x:=by
 have k:((w0.alloc (.cells #[.int .i64 x.id,.int .i64 x.key,.int .i64 x.cost,.int .i64 x.bU,.int .i64 x.cJ] 136)).alloc o).drew.heap[w0.heap.size]? =some (.cells #[.int .i64 x.id,.int .i64 x.key,.int .i64 x.cost,.int .i64 x.bU,.int .i64 x.cJ] 136 (0,0)) :=
  ((cQ (w0.alloc (.cells #[.int .i64 x.id,.int .i64 x.key,.int .i64 x.cost,.int .i64 x.bU,.int .i64 x.cJ] 136)) o).block w0.heap.size (by simp)).trans (heap_alloc_new w0 _)
 exact⟨_,rfl,k,Nat.le_refl _,Q9 _ _ _⟩
theorem Ld (P:Zu.jz Zu.Pq)(h:In R B w q y qw qq qd c e)(hB:B<=w.heap.size)(hg:bu c e)(hf:iL e)(r:Rq)(hr:kN r)(now:Int) :
 Calls prog 42 #[.pointer (some ⟨q,0,none⟩),kY r,.int .i64 now] w fun x w'=>∃v,x=.returned v/\eo w' v (bR c e r now).2/\bZ R B w q y qw qq qd c (bR c e r now).1 w':=by
 have fD:=hid (cQ w (.cells #[.int .i64 r.id,.int .i64 r.key,.int .i64 r.cost,.int .i64 r.bU,.int .i64 r.bR] 42));have hx:=th h r;have HX:=hid (fun u (hu:Below (w.alloc (.cells #[.int .i64 r.id,.int .i64 r.key,.int .i64 r.cost,.int .i64 r.bU,.int .i64 r.bR] 42)).heap.size (w.alloc (.cells #[.int .i64 r.id,.int .i64 r.key,.int .i64 r.cost,.int .i64 r.bU,.int .i64 r.bR] 42)) u)=>hx.on hu)
 have yA:=vS c e r now;have HKQ:=hid (fun u (hu:Below (w.alloc (.cells #[.int .i64 r.id,.int .i64 r.key,.int .i64 r.cost,.int .i64 r.bU,.int .i64 r.bR] 42)).heap.size (w.alloc (.cells #[.int .i64 r.id,.int .i64 r.key,.int .i64 r.cost,.int .i64 r.bU,.int .i64 r.bR] 42)) u)=>show u.heap[w.heap.size]? =some (.cells #[.int .i64 r.id,.int .i64 r.key,.int .i64 r.cost,.int .i64 r.bU,.int .i64 r.bR] 42 (0,0)) from(hu.block w.heap.size (by simp)).trans (heap_alloc_new w _))
 have Ig:=hid (fun(u:World) (hu:u.heap[w.heap.size]? =some (.cells #[.int .i64 r.id,.int .i64 r.key,.int .i64 r.cost,.int .i64 r.bU,.int .i64 r.bR] 42 (0,0)))=>bQ hu)
 have NC:=hid (fun(R':Nat->Prop) u (hu:In R' B u q y qw qq qd c e) (hb:B<=u.heap.size)=>Xj P hu hb hg.q hf.2.1 (aN r now) (yy hr now))
 have HM:=hid (fun u (hu:Below w.heap.size w u)=>bZ.same h hB hu)
 have Le:=hid (fun u=>qc r 1 u)
 have HD2:=hid (fun u=>qc r 2 u)
 have Xx:=hid (fun u b (hb:Dk u b now r.bR)=>qG hb)
 have eF:=hid hB;simp only[aN,Zu.val] at NC yA;generalize bR c e r now=WT at *;generalize no r.id 1=A1 at *;generalize no r.id 2=A2 at *;generalize Zr.add [now,r.bR]=cJ at *;generalize Zu.put c.qu e.Q ⟨r.id,r.key,r.cost,r.bU,cJ⟩=PU at *;obtain⟨ri,fU,rc,rs,sB⟩:=r;obtain⟨PQ,pf⟩:=PU;simp only[kY] at *;obtain⟨r0,r1,r2,r3,r4,s⟩:=hx;have zV:=s.uj;simp only at *;clear h hg hf hB s P;rcases yA with ⟨g1,rfl⟩ | ⟨g1,g2,rfl⟩ | ⟨g1,g2,g4,rfl⟩
 ·subst g1
  go_enter func42,ntmps42
  go_wp2_with (go_at_call 39;(with_reducible refine(Le.out _).mono ?_);rintro e1 w3 ⟨v,rfl,ht,hb⟩;have HT:=hid ht;have cH:=hid hb;clear ht hb)
  go_ret;exact⟨v,rfl,HT.out,HM.out _ (fD.out.trans (cH.out.mono fD.out.size))⟩
 ·have g5:(sB==0)=false:=by simpa using g1
  subst g2;clear g1;have Xy:=hid (HM.out _ fD.out);go_enter func42,ntmps42
  go_wp2;generalize w.alloc (.cells #[.int .i64 ri,.int .i64 fU,.int .i64 rc,.int .i64 rs,.int .i64 sB] 42)=w0 at *;have HY:=hid (fun u (hu:Below w0.heap.size w0 u)=>show Below w0.heap.size w0 u/\u.cell? ⟨w.heap.size,0,none⟩=some (.int .i64 ri)/\u.cell? ⟨w.heap.size,1,none⟩=some (.int .i64 fU)/\u.cell? ⟨w.heap.size,2,none⟩=some (.int .i64 rc)/\u.cell? ⟨w.heap.size,3,none⟩=some (.int .i64 rs)/\u.cell? ⟨w.heap.size,4,none⟩=some (.int .i64 sB) from
   ⟨hu,(HX.out u hu).r0,(HX.out u hu).r1,(HX.out u hu).r2,(HX.out u hu).r3,(HX.out u hu).r4⟩)
  have y0:=HY.out _ (Below.refl w0.heap.size w0).drew;clear zV r0 r1 r2 r3 r4;go_cut [7] (fun a wx=>Ra w0 wx a ⟨ri,fU,rc,rs,cJ⟩)
  case first =>
   go_region_held3 (fun u=>Below w0.heap.size w0 u/\u.cell? ⟨w.heap.size,0,none⟩=some (.int .i64 ri)/\u.cell? ⟨w.heap.size,1,none⟩=some (.int .i64 fU)/\u.cell? ⟨w.heap.size,2,none⟩=some (.int .i64 rc)/\u.cell? ⟨w.heap.size,3,none⟩=some (.int .i64 rs)/\u.cell? ⟨w.heap.size,4,none⟩=some (.int .i64 sB)) (first | with_reducible assumption | ((with_reducible refine HY.out _ ?_);first | with_reducible exact iy _ _ | with_reducible exact Q9 _ _ _)) (first
    |(go_at_call 88;(with_reducible refine(Xx.out _ _ (by first | exact uk rfl | exact uk (by simp) | exact IP rfl | exact IP (by simp))).mono ?_);rintro e1 w3 ⟨rfl,rfl⟩))
   all_goals (go_wp2_with fail;go_meet;first | with_reducible exact IQ _ _ ⟨ri,fU,rc,rs,cJ⟩ | with_reducible exact Ov _ _ ⟨ri,fU,rc,rs,cJ⟩)
  case rest =>
   obtain⟨g,rfl,hk,hg0,lQ⟩:=hcut;have zV:=(HX.out _ lQ).s.uj;have Bo:=hid (Xy.out.on eF.out (lQ.trans ((Below.refl wc.heap.size wc).drew.mono lQ.size)));have tV:=hid ((Xy.out.kr.grow lQ).below (Below.refl wc.heap.size wc).drew);have c1:=NC.out _ _ tV.out (Nat.le_trans eF.out Bo.out.off.size);have HK:=hid hk;have HRG:=hid (show R g∨w0.heap.size<=g/\g<wc.heap.size from .inr ⟨hg0,ae hk⟩)
   obtain⟨b0,b1,b2,b3,b4⟩:=bQ hk;clear HX HY lQ NC hk;go_wp2;go_region_held3 (fun u=>u.cell? ⟨q,10,none⟩=some (.pointer (some ⟨qq,0,none⟩))/\u.cell? ⟨g,0,none⟩=some (.int .i64 ri)/\u.cell? ⟨g,1,none⟩=some (.int .i64 fU)/\u.cell? ⟨g,2,none⟩=some (.int .i64 rc)/\u.cell? ⟨g,3,none⟩=some (.int .i64 rs)/\u.cell? ⟨g,4,none⟩=some (.int .i64 cJ)) (first | with_reducible assumption | exact⟨zV,b0,b1,b2,b3,b4⟩) (first
    |(go_at_call 89;(with_reducible refine c1.mono ?_);rintro e1 w3 ⟨rfl,h3⟩;have H3:=hid h3;have y3:_/\_:=⟨h3.kr.jh.uj,bQ (h3.box (x:=⟨ri,fU,rc,rs,cJ⟩) HRG.out HK.out)⟩;clear h3 c1))
   go_wp2;go_ret;exact⟨_,rfl,gB _,Bo.out.trans (H3.out.sub fun g hg=>.inl hg)⟩
 ·have g5:(sB==0)=false:=by simpa using g1
  have g6:(pf != 0)=true:=by simpa using g2
  subst g4;clear g1 g2;have Xy:=hid (HM.out _ fD.out);go_enter func42,ntmps42
  go_wp2;generalize w.alloc (.cells #[.int .i64 ri,.int .i64 fU,.int .i64 rc,.int .i64 rs,.int .i64 sB] 42)=w0 at *;have HY:=hid (fun u (hu:Below w0.heap.size w0 u)=>show Below w0.heap.size w0 u/\u.cell? ⟨w.heap.size,0,none⟩=some (.int .i64 ri)/\u.cell? ⟨w.heap.size,1,none⟩=some (.int .i64 fU)/\u.cell? ⟨w.heap.size,2,none⟩=some (.int .i64 rc)/\u.cell? ⟨w.heap.size,3,none⟩=some (.int .i64 rs)/\u.cell? ⟨w.heap.size,4,none⟩=some (.int .i64 sB) from
   ⟨hu,(HX.out u hu).r0,(HX.out u hu).r1,(HX.out u hu).r2,(HX.out u hu).r3,(HX.out u hu).r4⟩)
  have y0:=HY.out _ (Below.refl w0.heap.size w0).drew;clear zV r0 r1 r2 r3 r4;go_cut [7] (fun a wx=>Ra w0 wx a ⟨ri,fU,rc,rs,cJ⟩)
  case first =>
   go_region_held3 (fun u=>Below w0.heap.size w0 u/\u.cell? ⟨w.heap.size,0,none⟩=some (.int .i64 ri)/\u.cell? ⟨w.heap.size,1,none⟩=some (.int .i64 fU)/\u.cell? ⟨w.heap.size,2,none⟩=some (.int .i64 rc)/\u.cell? ⟨w.heap.size,3,none⟩=some (.int .i64 rs)/\u.cell? ⟨w.heap.size,4,none⟩=some (.int .i64 sB)) (first | with_reducible assumption | ((with_reducible refine HY.out _ ?_);first | with_reducible exact iy _ _ | with_reducible exact Q9 _ _ _)) (first
    |(go_at_call 88;(with_reducible refine(Xx.out _ _ (by first | exact uk rfl | exact uk (by simp) | exact IP rfl | exact IP (by simp))).mono ?_);rintro e1 w3 ⟨rfl,rfl⟩))
   all_goals (go_wp2_with fail;go_meet;first | with_reducible exact IQ _ _ ⟨ri,fU,rc,rs,cJ⟩ | with_reducible exact Ov _ _ ⟨ri,fU,rc,rs,cJ⟩)
  case rest =>
   obtain⟨g,rfl,hk,hg0,lQ⟩:=hcut;have zV:=(HX.out _ lQ).s.uj;have HKR:=hid (HKQ.out _ lQ);have Bo:=hid (Xy.out.on eF.out (lQ.trans ((Below.refl wc.heap.size wc).drew.mono lQ.size)));have tV:=hid ((Xy.out.kr.grow lQ).below (Below.refl wc.heap.size wc).drew);have c1:=NC.out _ _ tV.out (Nat.le_trans eF.out Bo.out.off.size);have HK:=hid hk;have HRG:=hid (show R g∨w0.heap.size<=g/\g<wc.heap.size from .inr ⟨hg0,ae hk⟩)
   obtain⟨b0,b1,b2,b3,b4⟩:=bQ hk;clear HX HY lQ NC hk;go_wp2;go_region_held3 (fun u=>u.cell? ⟨q,10,none⟩=some (.pointer (some ⟨qq,0,none⟩))/\u.cell? ⟨g,0,none⟩=some (.int .i64 ri)/\u.cell? ⟨g,1,none⟩=some (.int .i64 fU)/\u.cell? ⟨g,2,none⟩=some (.int .i64 rc)/\u.cell? ⟨g,3,none⟩=some (.int .i64 rs)/\u.cell? ⟨g,4,none⟩=some (.int .i64 cJ)) (first | with_reducible assumption | exact⟨zV,b0,b1,b2,b3,b4⟩) (first
    |(go_at_call 89;(with_reducible refine c1.mono ?_);rintro e1 w3 ⟨rfl,h3⟩;have H3:=hid h3;have y3:_/\_:=⟨h3.kr.jh.uj,bQ (h3.box (x:=⟨ri,fU,rc,rs,cJ⟩) HRG.out HK.out)⟩;clear h3 c1))
   have t2:=(Ig.out _ (H3.out.lf.block _ _ _ _ HKR.out (by simp[fV])))
   obtain⟨t0,t1,t2,t3,t4⟩:=t2;go_wp2_with (go_at_call 39;(with_reducible refine(HD2.out _).mono ?_);rintro e1 w4 ⟨v,rfl,ht,hb⟩;have HT:=hid ht;have fp:=hid hb;clear ht hb)
   go_ret;exact⟨v,rfl,HT.out,(Bo.out.trans (H3.out.sub fun g hg=>.inl hg)).on eF.out fp.out⟩
end
theorem Lf {B:Nat}{w:World}{p:Option Addr}{zs:List (Int×Int)}(h:bD B w p zs):aL ib w p zs:=by
 rcases h with h | ⟨b,o,e,-,hc⟩
 ·exact .inl h
 ·refine .inr ⟨b,o,e,fun j hj k u hu=> ?_⟩
  match k,hu with
  | 0,hu =>
    simp only[ib,List.getElem?_cons_zero,Option.some.injEq] at hu;subst hu;exact(hc j hj).1
  | 1,hu =>
    simp only[ib,List.getElem?_cons_succ,List.getElem?_cons_zero,Option.some.injEq] at hu;subst hu;exact(hc j hj).2
def pC (c:Cf)(y:Value):Array Value:= #[.int .i64 c.n,.int .i64 c.sk,.int .i64 c.tl,.int .i64 c.va,.int .i64 c.lo,.int .i64 c.he,.int .i64 c.ke,.int .i64 c.qu,y]
theorem aG {w:World}{g:Nat}{c:Cf}{y:Value}{T:TypeId}(h:w.heap[g]? =some (.cells (pC c y) T (0,0))) :
 w.cell? ⟨g,0,none⟩=some (.int .i64 c.n)/\w.cell? ⟨g,1,none⟩=some (.int .i64 c.sk)/\w.cell? ⟨g,2,none⟩=some (.int .i64 c.tl)/\w.cell? ⟨g,3,none⟩=some (.int .i64 c.va)/\w.cell? ⟨g,4,none⟩=some (.int .i64 c.lo)/\w.cell? ⟨g,5,none⟩=some (.int .i64 c.he) /\
  w.cell? ⟨g,6,none⟩=some (.int .i64 c.ke)/\w.cell? ⟨g,7,none⟩=some (.int .i64 c.qu)/\w.cell? ⟨g,8,none⟩=some y/\w.frozen? ⟨g,8,none⟩=false:=by
 have hc:∀i v,(pC c y)[i]? =some v->w.cell? ⟨g,i,none⟩=some v:=fun i v hv=>by rw[cell_of_row w g i _ _ (0,0) h,hv]
 exact⟨hc 0 _ rfl,hc 1 _ rfl,hc 2 _ rfl,hc 3 _ rfl,hc 4 _ rfl,hc 5 _ rfl,hc 6 _ rfl,hc 7 _ rfl,hc 8 _ rfl,aj h⟩
theorem abZ {w w1 w2:World}{c:Cf}{v y:Value}(hO:Zp.Own ib 77 w1.heap.size w2 y c.zs)(h1:w.heap.size<w1.heap.size)(hb:Below w.heap.size w w2) :
 ((w2.setCell ⟨w.heap.size,8,none⟩ v).alloc (.cells (Ml (.pointer none) c y (.pointer none) (.pointer none)) 88)).heap[w2.heap.size]? =some (.cells (Ml (.pointer none) c y (.pointer none) (.pointer none)) 88 (0,0)) /\
   Zp.Own ib 77 w.heap.size ((w2.setCell ⟨w.heap.size,8,none⟩ v).alloc (.cells (Ml (.pointer none) c y (.pointer none) (.pointer none)) 88)) y c.zs /\
   Below w.heap.size w ((w2.setCell ⟨w.heap.size,8,none⟩ v).alloc (.cells (Ml (.pointer none) c y (.pointer none) (.pointer none)) 88))/\w.heap.size<=w2.heap.size:=by
 have k:=heap_alloc_new (w2.setCell ⟨w.heap.size,8,none⟩ v) (.cells (Ml (.pointer none) c y (.pointer none) (.pointer none)) 88);rw[show (w2.setCell ⟨w.heap.size,8,none⟩ v).heap.size=w2.heap.size by simp] at k
 have hs:=hb.size;exact⟨k,Zp.Own.lower (Zp.Own.on (Zp.Own.set hO h1) (cQ _ _)) (Nat.le_of_lt h1),(hb.setCell (p:=⟨w.heap.size,8,none⟩) (Nat.le_refl _) v).alloc (by simpa using hs) _,hs⟩
theorem IU (P:Zu.jz Zu.Pq){c:Cf}{p:Option Addr}{k:Nat}{w:World}(hr:bD w.heap.size w p c.zs)(hl:c.zs.length<=100) :
 Calls prog 8 #[c.val p k] w fun x w'=>Below w.heap.size w w'/\((c.bI≠0/\x=.returned (.tuple #[.pointer none,.int .i64 c.bI]))∨(c.bI=0/\∃q,x=.returned (.tuple #[.pointer (some ⟨q,0,none⟩),.int .i64 0])/\(0<=c.qu/\c.qu<=16)/\∃y qw qq qd,In (fun g=>g<w.heap.size) w.heap.size w' q y qw qq qd c e0)):=by
 have fD:=hid (cQ w (.cells (pC c (.slice p c.zs.length k)) 24));have yh:=hid (heap_alloc_new w (.cells (pC c (.slice p c.zs.length k)) 24));have HC:=hid (fun u (hu:Below w.heap.size w u)=>Zm.sx c.n c.sk c.tl c.va c.lo c.he c.ke c.qu p c.zs k u hl (hr.on hu).aH)
 have Jj:=hid (fun u (hu:Below w.heap.size w u)=>Dj (d:=k) (Lf (hr.on hu)) (by omega))
 have HFG:=hid (fun u q y a0 On PL (hk:u.heap[q]? =some (.cells (Ml a0 c y On PL) 88 (0,0))) (hq:w.heap.size<=q) (hu:w.heap.size<=u.heap.size) (ho:Zp.Own ib 77 w.heap.size u y c.zs) (h0:0<=c.qu/\c.qu<=16)=>wJ (R:=fun g=>g<w.heap.size) P hk hq hu ho h0.1 h0.2 (fun g hg=>Nat.lt_of_lt_of_le hg hu))
 have HRM:=hid (fun(h:c.bI=0)=>vQ h)
 have vT:c.bI=Zm.bI c.n c.sk c.tl c.va c.lo c.he c.ke c.qu c.zs:=rfl;rw[<-vT] at HC;generalize c.bI=ck at *;simp only[pC] at fD;clear vT hr hl P;obtain⟨b0,b1,b2,b3,b4,b5,b6,b7,b8,f8⟩:=aG yh.out;have HNC:=hid (fun(u:World) (hu:u.heap[w.heap.size]? =some (.cells (pC c (.slice p c.zs.length k)) 24 (0,0)))=>aG hu)
 rcases Decidable.em (ck=0) with h0 | h0
 ·subst h0
  unfold Cf.val;go_enter func8,ntmps8
  go_wp2_with (first
   |(go_at_call 31;(with_reducible refine(HC.out _ fD.out).mono ?_);rintro e1 w1 ⟨rfl,hb⟩;have aO:=hid (fD.out.trans (hb.mono fD.out.size));have kq:=hid ((hb.block _ (aD yh.out)).trans yh.out);clear hb b0 b1 b2 b3 b4 b5 b6 b7 b8 f8 HC;obtain⟨b0,b1,b2,b3,b4,b5,b6,b7,b8,f8⟩:=HNC.out _ kq.out)
   |(go_at_call 32;(with_reducible refine(Jj.out _ aO.out).mono ?_);rintro e1 w2 ⟨y2,rfl,ho,hb⟩;obtain⟨py,ky,rfl,-⟩:=Zp.Own.gi ho;have bJ:=hid (aO.out.trans (hb.mono aO.out.size));have lX:=hid ((hb.block _ (aD kq.out)).trans kq.out);have H3:=hid (abZ (v:=.slice py c.zs.length ky) ho (ae kq.out) bJ.out);clear ho hb b0 b1 b2 b3 b4 b5 b6 b7 b8 f8 Jj;obtain⟨b0,b1,b2,b3,b4,b5,b6,b7,b8,f8⟩:=HNC.out _ lX.out))
  have c4:=HFG.out _ _ _ _ _ _ H3.out.1 H3.out.2.2.2 H3.out.2.2.1.size H3.out.2.1 (HRM.out trivial);simp only[Ml] at c4;refine c4.mono ?_;rintro e1 w4 ⟨rfl,⟨qw,qq,qd,Bp⟩,-,hb⟩;have HN:=hid (show(0<=c.qu/\c.qu<=16)/\∃y qw qq qd,In (fun g=>g<w.heap.size) w.heap.size w4 w2.heap.size y qw qq qd c e0 from⟨HRM.out trivial,_,qw,qq,qd,Bp⟩)
  have fp:=hid (H3.out.2.2.1.trans hb);clear Bp hb c4;go_wp2;refine bodyPost_ret (v:=.tuple #[.pointer (some ⟨w2.heap.size,0,none⟩),.int .i64 0]) (by simp[results,results8,go_sem]) rfl ?_
  exact⟨fp.out,.inr ⟨trivial,w2.heap.size,rfl,HN.out⟩⟩
 ·have h1:(ck != 0)=true:=by simpa using h0
  unfold Cf.val;go_enter func8,ntmps8
  go_wp2_with (go_at_call 31;(with_reducible refine(HC.out _ fD.out).mono ?_);rintro e1 w1 ⟨rfl,hb⟩;have aO:=hid (fD.out.trans (hb.mono fD.out.size));clear hb)
  refine bodyPost_ret (v:=.tuple #[.pointer none,.int .i64 ck]) (by simp[results,results8,go_sem]) rfl ?_
  exact⟨aO.out,.inl ⟨h0,rfl⟩⟩
end Zy
namespace Zn
open Zm (aB aU aH kJ kI sw su pN)
open Zy (Cf pC cQ)
theorem Gv {n:Nat}(h:8<n)(p:Option Addr)(c:Nat)(w:World):Calls prog 76 #[.slice p n c] w fun e w'=>e=.returned (.bool false)/\w=w':=by
 have hw:aB (n:Int) 1 8=false:=by simp[aB];omega
 have c0:=fun u=>aU (n:Int) 1 8 u
 rw[hw] at c0;clear hw;go_enter func76,ntmps76
 go_wp2_with (go_at_call 133;(with_reducible refine(c0 _).mono ?_);rintro e w' ⟨rfl,rfl⟩)
 go_ret;exact⟨rfl,rfl⟩
theorem Ow {zs:List (Int×Int)}(h:8<zs.length):aH zs=false:=by
 unfold aH;rw[show aB (zs.length:Int) 1 8=false by simp[aB];omega]
 rfl
theorem Dl {c:Cf}(h:c.bI=0):1<=c.ke/\c.ke<=16:=by
 unfold Cf.bI Zm.bI at h;split at h
 ·simp at h
 ·split at h
  ·simp at h
  ·split at h
   ·simp at h
   ·rename_i h3
    simp only[Zm.kJ,Zm.aB,Bool.not_eq_false,Bool.and_eq_true,decide_eq_true_eq] at h3;exact h3.1
theorem Lg {c:Cf}(h:c.bI=0):1<=c.zs.length/\c.zs.length<=8:=by
 unfold Cf.bI Zm.bI at h
 repeat' split at h
 all_goals first | (simp at h;done) | skip
 rename_i h4;simp only[aH,aB,Bool.not_eq_false,Bool.and_eq_true,decide_eq_true_eq] at h4;omega
theorem Gw {c:Cf}(p:Option Addr)(k:Nat)(w:World)(h:8<c.zs.length):Calls prog 31 #[c.val p k] w fun e w'=>e=.returned (.int .i64 c.bI)/\Below w.heap.size w w':=by
 refine pN c.n c.sk c.tl c.va c.lo c.he c.ke c.qu p c.zs.length k w (kI c.sk c.tl c.va c.lo c.he) (kJ c.ke c.qu) false _
  (fun u hu=>(sw c.n c.sk c.tl c.va c.lo c.he c.ke c.qu p c.zs.length k u).mono fun e W k=>⟨k.1,hu.step k.2,(hu.step k.2).2⟩)
  (fun u hu=>(su c.n c.sk c.tl c.va c.lo c.he c.ke c.qu p c.zs.length k u).mono fun e W k=>⟨k.1,hu.step k.2,(hu.step k.2).2⟩)
  (fun u hu=>(Gv h p k u).mono fun e W ⟨h1,h2⟩=>⟨h1,h2 ▸ hu⟩) ?_
 have hn:=Ow h;unfold Cf.bI Zm.bI;rw[hn];cases aB c.n 1 64 <;>cases kI c.sk c.tl c.va c.lo c.he <;>cases kJ c.ke c.qu <;>simp
theorem Ox {c:Cf}{p:Option Addr}{k:Nat}{w:World}(h:8<c.zs.length):Calls prog 8 #[c.val p k] w fun x w'=>x=.returned (.tuple #[.pointer none,.int .i64 c.bI])/\Below w.heap.size w w':=by
 have h0:c.bI≠0:=fun e=>by have:=(Lg e).2;omega
 have fD:=hid (cQ w (.cells (pC c (.slice p c.zs.length k)) 24));have yh:=hid (heap_alloc_new w (.cells (pC c (.slice p c.zs.length k)) 24));have HC:=hid (fun u=>Gw (c:=c) p k u h)
 obtain⟨b0,b1,b2,b3,b4,b5,b6,b7,b8,f8⟩:=Zy.aG yh.out;have h1:(c.bI != 0)=true:=by simpa using h0
 generalize c.bI=ck at *;simp only[pC] at fD;unfold Cf.val at *;clear yh h0;go_enter func8,ntmps8
 go_wp2_with (go_at_call 31;(with_reducible refine(HC.out _).mono ?_);rintro e1 w1 ⟨rfl,hb⟩;have aO:=hid (fD.out.trans (hb.mono fD.out.size));clear hb)
 refine bodyPost_ret (v:=.tuple #[.pointer none,.int .i64 ck]) (by simp[results,results8,go_sem]) rfl ⟨rfl,aO.out⟩
end Zn
namespace Zy
open Zq (ae aj ai)
open Zp (iE aL At bS eu fN af aD aA ag dQ bQ)
open Zw (Lz bC bH)
open Zu (It take)
open Zz (Nt)
theorem Rb (c:Cf)(e:Eg)(r:Rq)(now:Int):(tD c e r now≠0/\jF c e r now=(e,no r.id (tD c e r now)))∨(tD c e r now=0 /\
 (((sa e r now).2.2=true/\jF c e r now=(⟨(sa e r now).1,e.Q,e.D⟩,[⟨r.id,(sa e r now).2.1,0⟩]))∨((sa e r now).2.2=false/\(sa e r now).1=e.L/\jF c e r now=bR c e r now))):=by
 unfold tD jF sa;by_cases h1:E2 e.Q r
 ·rw [if_pos h1,if_pos h1]
  exact .inl ⟨by decide,rfl⟩
 ·rw [if_neg h1,if_neg h1]
  by_cases h2:now<0∨4611686018427387904<=now
  ·rw [if_pos h2,if_pos h2]
   exact .inl ⟨by decide,rfl⟩
  ·rw [if_neg h2,if_neg h2]
   by_cases h3:c.fT r.key<0
   ·rw [if_pos h3,if_pos h3]
    exact .inl ⟨by decide,rfl⟩
   ·rw [if_neg h3,if_neg h3]
    by_cases h4:c.b r.key<r.cost
    ·rw [if_pos h4,if_pos h4]
     exact .inl ⟨by decide,rfl⟩
    ·rw [if_neg h4,if_neg h4]
     refine .inr ⟨rfl,?_⟩;by_cases h5:Zu.of e.Q r.key=[]
     ·rw [if_pos h5]
      by_cases h6:(bH e.L r.key r.cost now).2.2=true
      ·exact .inl ⟨h6,by rw[if_pos ⟨h5,h6⟩]⟩
      ·have We:(bH e.L r.key r.cost now).2.2=false:=by simpa using h6
       exact .inr ⟨We,qT We,by rw[if_neg (fun hh=>h6 hh.2)]⟩
     ·rw [if_neg h5]
      exact .inr ⟨rfl,rfl,by rw[if_neg (fun hh=>h5 hh.1)]⟩
section
variable {R:Nat->Prop}{B q qw qq qd:Nat}{w w' u u':World}{y:Value}{c:Cf}{e e' e2:Eg}
theorem Oy (P:Zu.jz Zu.Pq)(h:In R B w q y qw qq qd c e)(hB:B<=w.heap.size)(hg:bu c e)(hf:iL e)(r:Rq)(hr:kN r)(now:Int) :
 Calls prog 13 #[.pointer (some ⟨q,0,none⟩),kY r,.int .i64 now] w fun x w'=>∃v,x=.returned v/\eo w' v (jF c e r now).2/\bZ R B w q y qw qq qd c (jF c e r now).1 w':=by
 have gH:=cQ w (.cells #[.int .i64 r.id,.int .i64 r.key,.int .i64 r.cost,.int .i64 r.bU,.int .i64 r.bR] 42);have HK:=hid (heap_alloc_new w (.cells #[.int .i64 r.id,.int .i64 r.key,.int .i64 r.cost,.int .i64 r.bU,.int .i64 r.bR] 42));have Vu:=hid (bZ.same h hB gH);have c1:=xM Vu.out.kr hf r now;have RZ:=hid (fun u (hu:In R B u q y qw qq qd c e) (hb:B<=u.heap.size)=>uC P hu hb hg hf r hr now)
 have TZ:=hid (fun u (hu:In R B u q y qw qq qd c e) (hb:B<=u.heap.size)=>Ld P hu hb hg hf r hr now)
 have HDN:=hid (fun u=>qc r (tD c e r now) u)
 have FJ:=hid (fun u=>ui r.id (sa e r now).2.1 u)
 have nt:=hid (fun(u:World) (hu:u.heap[w.heap.size]? =some (.cells #[.int .i64 r.id,.int .i64 r.key,.int .i64 r.cost,.int .i64 r.bU,.int .i64 r.bR] 42 (0,0)))=>bQ hu)
 have b9:=Rb c e r now;have eF:=hid hB;have Ej:=hid (fun(u:World) (g:Nat) (hg:g=u.heap.size)=>show eo (u.alloc (.cells #[.int .i64 r.id,.int .i64 (sa e r now).2.1,.int .i64 0] 60)) (.slice (some ⟨g,0,none⟩) 1 1) [⟨r.id,(sa e r now).2.1,0⟩] from by rw[hg];exact Dh u ⟨r.id,(sa e r now).2.1,0⟩)
 generalize jF c e r now=AS at *;generalize bR c e r now=WT at *;generalize no r.id (tD c e r now)=AN at *;generalize tD c e r now=O at *;generalize sa e r now=SA at *;obtain⟨L',gen,ok⟩:=SA;obtain⟨ri,fU,rc,rs,sB⟩:=r;simp only[kY,vU] at *;obtain⟨r0,r1,r2,r3,r4⟩:=nt.out _ HK.out;clear h hg hf hB gH P hr;rcases b9 with ⟨h1,rfl⟩ | ⟨rfl,⟨rfl,rfl⟩ | ⟨rfl,rfl,rfl⟩⟩
 ·have VP:(O != 0)=true:=by simpa using h1
  go_enter func13,ntmps13
  go_wp2_with (first
   |(go_at_call 38;(with_reducible refine c1.mono ?_);rintro e1 w1 ⟨rfl,hb⟩;have Bo:=hid (Vu.out.on eF.out hb);obtain⟨t0,t1,t2,t3,t4⟩:=nt.out _ ((hb.block _ (aD HK.out)).trans HK.out);clear hb c1 r0 r1 r2 r3 r4)
   |(go_at_call 39;(with_reducible refine(HDN.out _).mono ?_);rintro e1 w4 ⟨v,rfl,ht,hb⟩;have HT:=hid ht;have fp:=hid hb;clear ht hb))
  go_ret;exact⟨v,rfl,HT.out,Bo.out.on eF.out fp.out⟩
 ·go_enter func13,ntmps13
  go_wp2_with (first
   |(go_at_call 38;(with_reducible refine c1.mono ?_);rintro e1 w1 ⟨rfl,hb⟩;have Bo:=hid (Vu.out.on eF.out hb);have kq:=hid ((hb.block _ (aD HK.out)).trans HK.out);obtain⟨t0,t1,t2,t3,t4⟩:=nt.out _ kq.out;clear hb c1 r0 r1 r2 r3 r4)
   |(go_at_call 40;(with_reducible refine(RZ.out _ Bo.out.kr (Nat.le_trans eF.out Bo.out.off.size)).mono ?_);rintro e1 w2 ⟨rfl,h2⟩;have Sr:=hid (Bo.out.trans h2);obtain⟨x0,x1,x2,x3,x4⟩:=nt.out _ (h2.lf.block _ _ _ _ kq.out (by simp[fV]));clear h2 RZ)
   |(go_at_call 41;(with_reducible refine(FJ.out _).mono ?_);rintro e1 w3 ⟨rfl,hb⟩;have Dg:=hid (Sr.out.on eF.out hb);clear hb))
  go_ret;exact⟨_,rfl,Ej.out _ _ rfl,Dg.out.on eF.out (cQ _ _)⟩
 ·go_enter func13,ntmps13
  go_wp2_with (first
   |(go_at_call 38;(with_reducible refine c1.mono ?_);rintro e1 w1 ⟨rfl,hb⟩;have Bo:=hid (Vu.out.on eF.out hb);have kq:=hid ((hb.block _ (aD HK.out)).trans HK.out);obtain⟨t0,t1,t2,t3,t4⟩:=nt.out _ kq.out;clear hb c1 r0 r1 r2 r3 r4)
   |(go_at_call 40;(with_reducible refine(RZ.out _ Bo.out.kr (Nat.le_trans eF.out Bo.out.off.size)).mono ?_);rintro e1 w2 ⟨rfl,h2⟩;have Sr:=hid (Bo.out.trans h2);obtain⟨x0,x1,x2,x3,x4⟩:=nt.out _ (h2.lf.block _ _ _ _ kq.out (by simp[fV]));clear h2 RZ)
   |(go_at_call 42;(with_reducible refine(TZ.out _ Sr.out.kr (Nat.le_trans eF.out Sr.out.off.size)).mono ?_);rintro e1 w3 ⟨v,rfl,ht,h3⟩;have Dg:=hid (Sr.out.trans h3);have HT:=hid ht;clear ht h3))
  go_ret;exact⟨v,rfl,HT.out,Dg.out⟩
end
end Zy
end Go.Proofs.YtbgdlokegibkmaaGreat
