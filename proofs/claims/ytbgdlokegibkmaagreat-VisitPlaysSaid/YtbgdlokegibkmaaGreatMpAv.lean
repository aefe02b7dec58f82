/-
  A part of the proof of VisitPlays.
-/
import Derived.Maps.Ext
import Derived.Deep.LoopGhost
import Derived.Test.YtbgdlokegibkmaaGreatMpAu
set_option maxRecDepth 100000
set_option maxHeartbeats 4000000
namespace Go.Proofs.YtbgdlokegibkmaaGreat
open Tryz
open Lib (hid)
namespace Zw
open Go.RowKit Go.Maps
open Zq (ae aj ai)
def AG (g:Int)(_:Lit)(d:DataW Unit):Bool :=
 match d with
 | .agg [_,.lit (.int .i64 x),_,_,_]=>decide (x<g)
 | _=>false
end Zw
namespace Zi
open Zw
open Go.RowKit Go.Maps
open Zq (ae aj ai)
structure fF (B:Nat)(w:World)(q:Nat)(l:List Lz)(w':World):Prop where
 iw:eA Pm B w q l w'
 rest:∀g,g<w.heap.size->g≠q->w.cell? ⟨q,0,none⟩≠some (.map (some g))->w'.heap[g]? =w.heap[g]?
 vn:∀b,w'.cell? ⟨q,0,none⟩=some (.map (some b))->w.cell? ⟨q,0,none⟩=some (.map (some b))∨w.heap.size<=b
section
variable {B q:Nat}{w w':World}{l:List Lz}
theorem IF (h:Pm B w q l)(hB:B<=w.heap.size)(hb:Below w.heap.size w w'):fF B w q l w':=⟨h.same hB hb,fun g hg _ _=>hb.block g hg,fun b e=>.inl (by rwa [hb.cell (p:=⟨q,0,none⟩) h.lt] at e)⟩
theorem mi {u v:World}{m:Option Nat}{l':List Lz}(h:Pm B w q l)(hB:B<=w.heap.size)(hc:w.cell? ⟨q,0,none⟩=some (.map m))(hu:Below w.heap.size w u)(hm:Mw B w m l)(hv:u.grownBy v m)(hl:Mw B v m l')(hw:Below v.heap.size v w'):fF B w q l' w' :=
 ⟨h.FT hB hc hu hm hv hl hw,fun g hg _ hne=>(hw.block g (Nat.lt_of_lt_of_le (Nat.lt_of_lt_of_le hg hu.size) hv.size)).trans ((hv.block g (Nat.lt_of_lt_of_le hg hu.size) fun e=>hne (by rw[hc,e])).trans (hu.block g hg)),fun b e=>.inl (by
  obtain⟨_,m',h1,_⟩:=h;have hq:q<w.heap.size:=ae h1;have Mi:some q≠m:=fun e2=>by
   rcases hm with ⟨rfl,_⟩ | ⟨b2,D,rfl,_,ho,_⟩
   ·cases e2
   ·cases e2
    obtain⟨es,clock,hb2,_⟩:=ho;rw[hb2] at h1;cases h1
  rwa [World.cell?_of_block (a:=⟨q,0,none⟩) ((hw.block q (Nat.lt_of_lt_of_le (Nat.lt_of_lt_of_le hq hu.size) hv.size)).trans ((hv.block q (Nat.lt_of_lt_of_le hq hu.size) Mi).trans (hu.block q hq)))] at e)⟩
theorem FW {u v:World}{l':List Lz}(h:Pm B w q l)(hB:B<=w.heap.size)(hu:Below w.heap.size w u)(hv:((u.setCell ⟨q,0,none⟩ (.map (some u.heap.size))).alloc (.map #[] 0)).grownBy v (some u.heap.size))(hl:Mw B v (some u.heap.size) l'):fF B w q l' v:=by
 have hq:=h.lt;have es:(u.setCell ⟨q,0,none⟩ (.map (some u.heap.size))).heap.size=u.heap.size:=by simp
 refine⟨h.first hB hu hv hl,fun g hg hne _=> ?_,fun b e=>.inr ?_⟩
 ·have hgu:=Nat.lt_of_lt_of_le hg hu.size
  refine(hv.block g (by simp;omega) (fun e=>by cases e;omega)).trans ?_
  refine(((Below.refl _ _).alloc (Nat.le_refl _) _).block g (by rw[es];exact hgu)).trans ?_
  exact(Below.heap_setCell _ _ _ _ hne).trans (hu.block g hg)
 ·have PK:=Nat.lt_of_lt_of_le hq hu.size
  have e1:v.heap[q]? =(u.setCell ⟨q,0,none⟩ (.map (some u.heap.size))).heap[q]? :=
   (hv.block q (by simp;omega) (fun e=>by cases e;omega)).trans (((Below.refl _ _).alloc (Nat.le_refl _) _).block q (by rw[es];exact PK))
  obtain⟨_,m',h1,_⟩:=h;rw[ai q 0 _ _ ((hu.block q hq).trans h1)] at e1;rw[cell_of_row v q 0 _ _ (0,0) e1] at e;simp at e;have:=hu.size;omega
end
theorem oM {B:Nat}{u v:World}{m:Option Nat}{l:List Lz}{g:Nat}{cs:Array Value}{t:TypeId}{zz:Nat×Nat}(hg:u.grownBy v m)(hm:Mw B u m l)(h:u.heap[g]? =some (Obj.cells cs t zz)):v.heap[g]? =some (Obj.cells cs t zz):=by
 refine(hg.block g (Zq.ae h) fun e=> ?_).trans h
 obtain⟨es,clock,hb⟩:=Mw.sY (e ▸ hm);rw[hb] at h;cases h
theorem FX (v:Value)(k g:Int)(x:Lz)(w:World)
 (ho:Calls prog 183 #[v,.int .i64 k] w fun e w'=>e=.returned (.tuple #[val x,.bool false])/\Below w.heap.size w w') :
 Calls prog 151 #[v,.int .i64 k,.int .i64 g] w fun e w'=>e=.returned (.int .i64 (-1))/\Below w.heap.size w w':=by
 simp only[val] at ho;go_enter func151,ntmps151
 go_wp2_with (go_at_call 183;refine ho.mono ?_;clear ho;rintro e u ⟨rfl,hb⟩)
 go_ret;exact⟨rfl,hb.alloc hb.size _⟩
theorem FY {B q:Nat}{w:World}{l:List Lz}(hB:B<=w.heap.size)(h:Pm B w q l)(hr:cI l){k g:Int}(hk:bC k)(x:Lz)
 (ho:Calls prog 183 #[.pointer (some ⟨q,0,none⟩),.int .i64 k] w fun e w'=>e=.returned (.tuple #[val x,.bool true])/\Below w.heap.size w w') :
 Calls prog 151 #[.pointer (some ⟨q,0,none⟩),.int .i64 k,.int .i64 g] w fun e w'=>e=.returned (.int .i64 (if x.gen=g then x.spent else -1))/\fF B w q (dt l k) w':=by
 obtain⟨key,gen,aK,spent,cJ⟩:=x;simp only[val] at ho ⊢;obtain⟨m,hc,_,hm⟩:=h.cell;have hq:=h.lt;have HT:=hid (fun u v w' l' (hu:Below w.heap.size w u) (hv:u.grownBy v m) (hl:Mw B v m l') (hw:Below v.heap.size v w')=>mi h hB hc hu hm hv hl hw)
 have HM:=hid hm;have HC:=hid (fun u (hu:Below w.heap.size w u)=>af hc hu)
 clear h hm hc;by_cases hg:gen=g
 ·subst hg
  rw[if_pos rfl];go_enter func151,ntmps151
  go_wp2_with (first
   |(go_at_call 183;refine ho.mono ?_;clear ho;rintro e u ⟨rfl,hb⟩;have hc:=HC.out _ (hb.alloc hb.size (.cells #[.int .i64 key,.int .i64 gen,.int .i64 aK,.int .i64 spent,.int .i64 cJ] 135)))
   |(at_delete;refine rj rfl _ _ rfl (mp:=m) rfl (HM.out.below (hb.alloc hb.size _)) hr hk rfl ?_;intro v hv uA
     have hz:=oM uA (HM.out.below (hb.alloc hb.size _)) (MapKept.heap_alloc u _).1;obtain⟨-,z1,-,z3,-⟩:=bQ hz;clear hz))
  go_ret;exact⟨rfl,HT.out _ _ _ _ (hb.alloc hb.size _) uA hv (Below.refl _ _)⟩
 ·rw [if_neg hg]
  go_enter func151,ntmps151
  go_wp2_with (first
   |(go_at_call 183;refine ho.mono ?_;clear ho;rintro e u ⟨rfl,hb⟩;have hc:=HC.out _ (hb.alloc hb.size (.cells #[.int .i64 key,.int .i64 gen,.int .i64 aK,.int .i64 spent,.int .i64 cJ] 135)))
   |(at_delete;refine rj rfl _ _ rfl (mp:=m) rfl (HM.out.below (hb.alloc hb.size _)) hr hk rfl ?_;intro v hv uA
     have hz:=oM uA (HM.out.below (hb.alloc hb.size _)) (MapKept.heap_alloc u _).1;obtain⟨-,z1,-,z3,-⟩:=bQ hz;clear hz))
  go_ret;exact⟨rfl,HT.out _ _ _ _ (hb.alloc hb.size _) uA hv (Below.refl _ _)⟩
theorem pW {B q:Nat}{w:World}{l:List Lz}(h:Pm B w q l)(hB:B<=w.heap.size)(hg:Zw.bu l){k g:Int}(hk:bC k) :
 Calls prog 151 #[.pointer (some ⟨q,0,none⟩),.int .i64 k,.int .i64 g] w fun e w'=>e=.returned (.int .i64 (bB l k g).2)/\fF B w q (bB l k g).1 w':=by
 have ho:=iX h hg.en hk;by_cases hp:au l k<0
 ·rw [decide_eq_false (by omega)] at ho
  refine(FX _ k g _ w ho).mono ?_;rintro e w' ⟨rfl,hb⟩;unfold bB;rw[if_pos hp];exact⟨rfl,IF h hB hb⟩
 ·rw [decide_eq_true (by omega)] at ho
  refine(FY hB h hg.en (g:=g) hk _ ho).mono ?_;rintro e w' ⟨rfl,hm⟩;have ef:found l k=jl l k:=by unfold found;rw[if_pos (by omega)]
  rw[ef];unfold dt at hm;unfold bB;rw[if_neg hp] at hm ⊢;exact⟨rfl,hm⟩
theorem FZ (v:Value)(k c now L:Int)(w:World)(hn:c<1∨L<c)
 (ho:Calls prog 139 #[v,.int .i64 k,.int .i64 now] w fun e w'=>e=.returned (.int .i64 L)/\Below w.heap.size w w') :
 Calls prog 87 #[v,.int .i64 k,.int .i64 c,.int .i64 now] w fun e w'=>e=.returned (.tuple #[.int .i64 0,.bool false])/\Below w.heap.size w w':=by
 by_cases h1:c<1
 ·clear hn
  go_enter func87,ntmps87
  go_wp2;refine bodyPost_ret (v:=.tuple #[.int .i64 0,.bool false]) (by simp[results,results87,go_sem]) rfl ⟨rfl,?_⟩
  exact Below.refl _ _
 ·have h2:L<c:=by omega
  clear hn;go_enter func87,ntmps87
  go_wp2_with (go_at_call 139;refine ho.mono ?_;clear ho;rintro e u ⟨rfl,hb⟩)
  refine bodyPost_ret (v:=.tuple #[.int .i64 0,.bool false]) (by simp[results,results87,go_sem]) rfl ⟨rfl,?_⟩
  exact hb
theorem F5 {B q:Nat}{w:World}{l:List Lz}(hB:B<=w.heap.size)(h:Pm B w q l)(hr:cI l){k c now L:Int}(aT:l.length<maxLen)(hk:bC k)(hp:0<=au l k)(h1:1<=c)(h2:c<=L)(x:Lz)(hx:jl l k=x)
 (hs: -9223372036854775808<=x.spent+c/\x.spent+c<=9223372036854775807)
 (ho:Calls prog 139 #[.pointer (some ⟨q,0,none⟩),.int .i64 k,.int .i64 now] w fun e w'=>e=.returned (.int .i64 L)/\Below w.heap.size w w') :
 Calls prog 87 #[.pointer (some ⟨q,0,none⟩),.int .i64 k,.int .i64 c,.int .i64 now] w fun e w'=>e=.returned (.tuple #[.int .i64 x.gen,.bool true])/\fF B w q (l.set (au l k).toNat (more x c)) w':=by
 have hkey:x.key=k:=by rw[<-hx];exact(cM hp).2.1
 have Sm:found l k=x:=by unfold found;rw[if_pos hp,hx]
 obtain⟨m,hc,_,hm⟩:=h.cell;obtain⟨b,rfl⟩:∃b,m=some b:=by
  rcases hm with ⟨-,rfl⟩ | ⟨b,D,rfl,-⟩
  ·simp [au,Zv.spot] at hp
  ·exact ⟨b,rfl⟩
 have HG:=hid (fun u (hu:Below w.heap.size w u)=>(hm.below hu).get hr hk)
 rw[Sm] at HG;have hq:=h.lt;have HT:=hid (fun u v w' l' (hu:Below w.heap.size w u) (hv:u.grownBy v (some b)) (hl:Mw B v (some b) l') (hw:Below v.heap.size v w')=>mi h hB hc hu hm hv hl hw)
 have HM:=hid hm;have HC:=hid (fun u (hu:Below w.heap.size w u)=>af hc hu)
 clear h hm hc;have hd:IntKind.i64.wrap (x.spent+c)=x.spent+c:=IntWalk.i64_in _ hs;obtain⟨key,gen,aK,spent,cJ⟩:=x;simp only at hkey;subst hkey;simp only[val] at HG hd ⊢;clear hs Sm hx;go_enter func87,ntmps87
 go_wp2_with (first
  |(go_at_call 139;refine ho.mono ?_;clear ho;rintro e u ⟨rfl,hb⟩;have hc:=HC.out _ hb;have hq:=Nat.lt_of_lt_of_le hq hb.size;have hl:=HG.out _ hb)
  | go_in)
 have xD:=hb.alloc hb.size (.cells #[.int .i64 key,.int .i64 gen,.int .i64 aK,.int .i64 (spent+c),.int .i64 cJ] 135);have hz:=(MapKept.heap_alloc u (.cells #[.int .i64 key,.int .i64 gen,.int .i64 aK,.int .i64 (spent+c),.int .i64 cJ] 135)).1;generalize(u.alloc (.cells #[.int .i64 key,.int .i64 gen,.int .i64 aK,.int .i64 (spent+c),.int .i64 cJ] 135))=u5 at *;have W7:=HC.out _ xD;obtain⟨v,hrun,hv,uA⟩:=(HM.out.below xD.drew).put (w:=u5.drew) hr aT ⟨key,gen,aK,spent+c,cJ⟩ hk;rw[if_neg (show ¬au l key<0 by omega)] at hv
 simp only[val] at hrun;obtain⟨z0,z1,z2,z3,z4⟩:=bQ hz;have YZ:=oM uA (HM.out.below xD.drew) hz;obtain⟨y0,y1,y2,y3,y4⟩:=bQ YZ;clear hz YZ;go_region
 all_goals go_wp2
 all_goals refine bodyPost_ret (v:=.tuple #[.int .i64 gen,.bool true]) (by simp[results,results87,go_sem]) rfl ⟨rfl,?_⟩
 all_goals exact HT.out _ _ _ _ xD.drew uA hv (Below.refl _ _)
theorem F6 {B q:Nat}{w:World}{l:List Lz}(h:Pm B w q l)(hB:B<=w.heap.size)(hg:Zw.bu l)(aT:l.length<=150){k c now:Int}(hk:bC k) :
 Calls prog 87 #[.pointer (some ⟨q,0,none⟩),.int .i64 k,.int .i64 c,.int .i64 now] w fun e w'=>e=.returned (.tuple #[.int .i64 (bH l k c now).2.1,.bool (bH l k c now).2.2])/\fF B w q (bH l k c now).1 w':=by
 have ho:=KH h hg (now:=now) hk;by_cases hn:c<1∨left l k now<c
 ·refine (FZ _ k c now _ w hn ho).mono ?_
  rintro e w' ⟨rfl,hb⟩;unfold bH;rw[if_pos hn];exact⟨rfl,IF h hB hb⟩
 ·obtain ⟨hp,-,h1,h2⟩:=od hn
  have hm:=hg.mO _ (cM hp).2.2;refine(F5 hB h hg.en (by unfold maxLen;omega) hk hp h2 (by omega) _ rfl (by unfold kV bC at hm;omega) ho).mono ?_
  rintro e w' ⟨rfl,hv⟩;unfold bH;rw[if_neg hn];exact⟨rfl,hv⟩
theorem map_some (b:Nat)(w:World):(binOp BinOp.eql 192 (.map (some b)) (.map none)).run prog w=.ok (.bool false) w:=by kernel_rfl
theorem wz (w:World):(binOp BinOp.eql 192 (.map none) (.map none)).run prog w=.ok (.bool true) w:=by kernel_rfl
theorem F7 (q:Nat)(x:Lz)(w:World)(hx:cY x):Calls prog 204 #[.pointer (some ⟨q,0,none⟩),val x] w fun e w'=>e=.returned (.int .i64 1)/\Below w.heap.size w w':=by
 have hf:=fun u=>oL x u
 rw[decide_eq_true hx] at hf;clear hx;simp only[val] at hf ⊢;go_enter func204,ntmps204
 go_wp2_with (go_at_call 229;refine(hf _).mono ?_;clear hf;rintro e u ⟨rfl,hb⟩)
 go_ret;exact⟨rfl,(cQ _ _).trans (hb.mono (by simp))⟩
theorem KI {B q:Nat}{w:World}{l:List Lz}(h:Pm B w q l)(hr:cI l)(x:Lz)(hx:¬cY x)(hk:bC x.key)(hp:0<=au l x.key):Calls prog 204 #[.pointer (some ⟨q,0,none⟩),val x] w fun e w'=>e=.returned (.int .i64 5)/\Below w.heap.size w w':=by
 have hf:=fun u=>oL x u
 rw[decide_eq_false hx] at hf;clear hx;obtain⟨m,hc,_,hm⟩:=h.cell;have hq:=h.lt;have HL:=hid (fun u (hu:Below w.heap.size w u)=>(hm.below hu).gZ hr hk)
 have HC:=hid (fun u (hu:Below w.heap.size w u)=>af hc hu)
 rw[decide_eq_true hp] at HL;generalize found l x.key=y at HL;clear hc hm h hp;obtain⟨key,gen,aK,spent,cJ⟩:=x;simp only[val] at hf HL ⊢;go_enter func204,ntmps204
 go_wp2_with (go_at_call 229;refine(hf _).mono ?_;clear hf;rintro e u ⟨rfl,lO⟩
              have hb:=(cQ w _).trans (lO.mono (by simp))
              have hz:=(lO.block w.heap.size (by simp)).trans (MapKept.heap_alloc w _).1
              obtain⟨z0,z1,z2,z3,z4⟩:=bQ hz;clear hz;have Y0:w.heap.size<u.heap.size:=by have:=lO.size;simp at this;omega
              clear lO)
 have hq5:=Nat.lt_of_lt_of_le hq hb.size;have W7:=HC.out _ hb;have Nb:=HL.out _ hb.drew;have xC:=fun o=>HL.out _ (hb.alloc hb.size o).drew
 go_region
 all_goals go_wp2
 all_goals go_ret
 all_goals exact⟨rfl,(hb.alloc hb.size _).drew⟩
theorem N9 {B q b:Nat}{w:World}{l:List Lz}(hB:B<=w.heap.size)(h:Pm B w q l)(hc:w.cell? ⟨q,0,none⟩=some (.map (some b)))(hr:cI l)(aT:l.length<maxLen)(x:Lz)(hx:¬cY x)(hk:bC x.key)(hp:au l x.key<0) :
 Calls prog 204 #[.pointer (some ⟨q,0,none⟩),val x] w fun e w'=>e=.returned (.int .i64 0)/\fF B w q (ins x l) w':=by
 have hf:=fun u=>oL x u
 rw[decide_eq_false hx] at hf;clear hx;obtain⟨m,hc',_,hm⟩:=h.cell;obtain rfl:m=some b:=by
  rw[hc] at hc';simpa using hc'.symm
 clear hc';have hq:=h.lt;have HL:=hid (fun u (hu:Below w.heap.size w u)=>(hm.below hu).gZ hr hk)
 have HC:=hid (fun u (hu:Below w.heap.size w u)=>af hc hu)
 have HT:=hid (fun u v w' l' (hu:Below w.heap.size w u) (hv:u.grownBy v (some b)) (hl:Mw B v (some b) l') (hw:Below v.heap.size v w')=>mi h hB hc hu hm hv hl hw)
 have HU:=hid (fun u (hu:Below w.heap.size w u)=>(hm.below hu).put hr aT x hk)
 rw[if_pos hp] at HU;rw[decide_eq_false (by omega)] at HL
 generalize found l x.key=y at HL;generalize ins x l=l' at HU ⊢;clear hc hm h hp;obtain⟨key,gen,aK,spent,cJ⟩:=x;simp only[val] at hf HL HU ⊢;have he:=map_some b;go_enter func204,ntmps204
 go_wp2_with (go_at_call 229;refine(hf _).mono ?_;clear hf;rintro e u ⟨rfl,lO⟩
              have hb:=(cQ w _).trans (lO.mono (by simp))
              have hz:=(lO.block w.heap.size (by simp)).trans (MapKept.heap_alloc w _).1
              obtain⟨z0,z1,z2,z3,z4⟩:=bQ hz;clear hz;have Y0:w.heap.size<u.heap.size:=by have:=lO.size;simp at this;omega
              clear lO)
 have hq5:=Nat.lt_of_lt_of_le hq hb.size;have W7:=HC.out _ hb;have Nb:=HL.out _ hb.drew;have xC:=fun o=>HL.out _ (hb.alloc hb.size o).drew
 go_region
 all_goals (
  clear Nb xC;have uH:=(hb.alloc hb.size (.cells #[.int .i64 y.key,.int .i64 y.gen,.int .i64 y.aK,.int .i64 y.spent,.int .i64 y.cJ] 135)).drew;have Ay:Below u.heap.size u (u.alloc (.cells #[.int .i64 y.key,.int .i64 y.gen,.int .i64 y.aK,.int .i64 y.spent,.int .i64 y.cJ] 135)).drew:=(cQ u _).drew;obtain⟨u6,h6⟩:∃u6,(u.alloc (.cells #[.int .i64 y.key,.int .i64 y.gen,.int .i64 y.aK,.int .i64 y.spent,.int .i64 y.cJ] 135)).drew=u6:=⟨_,rfl⟩;rw[h6] at uH Ay ⊢
  replace z0:=af z0 Ay
  replace z1:=af z1 Ay
  replace z2:=af z2 Ay
  replace z3:=af z3 Ay
  replace z4:=af z4 Ay
  clear Ay h6 W7;have hc6:=HC.out _ uH;obtain⟨v,hrun,hv,uA⟩:=HU.out _ uH.drew;go_wp2)
 all_goals go_region
 all_goals go_wp2
 all_goals go_ret
 all_goals exact⟨rfl,HT.out _ _ _ _ uH.drew uA hv (Below.refl _ _)⟩
theorem pX {B q:Nat}(u:World)(hB:B<=u.heap.size):Mw B ((u.setCell ⟨q,0,none⟩ (.map (some u.heap.size))).alloc (.map #[] 0)) (some u.heap.size) []:=by
 have h:=World.ownsMap_made (u.setCell ⟨q,0,none⟩ (.map (some u.heap.size))) prog 3 rdz;have es:(u.setCell ⟨q,0,none⟩ (.map (some u.heap.size))).heap.size=u.heap.size:=by simp
 rw[es] at h;exact Mw.of hB h T8
theorem KJ {B q:Nat}{w:World}(hB:B<=w.heap.size)(h:Pm B w q [])(hc:w.cell? ⟨q,0,none⟩=some (.map none))(x:Lz)(hx:¬cY x)(hk:bC x.key) :
 Calls prog 204 #[.pointer (some ⟨q,0,none⟩),val x] w fun e w'=>e=.returned (.int .i64 0)/\fF B w q [x] w':=by
 have hf:=fun u=>oL x u
 rw[decide_eq_false hx] at hf;clear hx;obtain⟨m,hc',hfz,hm⟩:=h.cell;obtain rfl:m=none:=by
  rw[hc] at hc';simpa using hc'.symm
 clear hc';have hq:=h.lt;have HL:=hid (fun u (hu:Below w.heap.size w u)=>(hm.below hu).gZ (k:=x.key) .nil hk)
 have HC:=hid (fun u (hu:Below w.heap.size w u)=>af hc hu)
 have HF:=hid (fun u (hu:Below w.heap.size w u)=>(hu.frozen (p:=⟨q,0,none⟩) hq).trans hfz)
 have HT:=hid (fun u v l' (hu:Below w.heap.size w u) hv (hl:Mw B v (some u.heap.size) l')=>FW h hB hu hv hl)
 have HU:=hid (fun u (hu:Below w.heap.size w u)=>(Mw.below (pX (q:=q) u (Nat.le_trans hB hu.size)) (Below.refl _ _).drew).put .nil (by decide) x hk)
 rw[if_pos (by simp[au,Zv.spot])] at HU
 rw[decide_eq_false (by simp[au,Zv.spot])] at HL
 generalize found [] x.key=y at HL;have el:ins x []=[x]:=rfl;rw[el] at HU;generalize[x]=l' at HU ⊢;clear hc hm h el;obtain⟨key,gen,aK,spent,cJ⟩:=x;simp only[val] at hf HL HU ⊢;have Y3:= @run_makeMap prog;have he:=wz;go_enter func204,ntmps204
 go_wp2_with (go_at_call 229;refine(hf _).mono ?_;clear hf;rintro e u ⟨rfl,lO⟩
              have hb:=(cQ w _).trans (lO.mono (by simp))
              have hz:=(lO.block w.heap.size (by simp)).trans (MapKept.heap_alloc w _).1
              obtain⟨z0,z1,z2,z3,z4⟩:=bQ hz;clear hz;have Y0:w.heap.size<u.heap.size:=by have:=lO.size;simp at this;omega
              clear lO)
 have hq5:=Nat.lt_of_lt_of_le hq hb.size;have W7:=HC.out _ hb;have Nb:=HL.out _ hb.drew;have xC:=fun o=>HL.out _ (hb.alloc hb.size o).drew
 go_region
 all_goals (
  clear Nb xC;have uH:=(hb.alloc hb.size (.cells #[.int .i64 y.key,.int .i64 y.gen,.int .i64 y.aK,.int .i64 y.spent,.int .i64 y.cJ] 135)).drew;have Ay:Below u.heap.size u (u.alloc (.cells #[.int .i64 y.key,.int .i64 y.gen,.int .i64 y.aK,.int .i64 y.spent,.int .i64 y.cJ] 135)).drew:=(cQ u _).drew;obtain⟨u6,h6⟩:∃u6,(u.alloc (.cells #[.int .i64 y.key,.int .i64 y.gen,.int .i64 y.aK,.int .i64 y.spent,.int .i64 y.cJ] 135)).drew=u6:=⟨_,rfl⟩;rw[h6] at uH Ay ⊢
  replace z0:=af z0 Ay
  replace z1:=af z1 Ay
  replace z2:=af z2 Ay
  replace z3:=af z3 Ay
  replace z4:=af z4 Ay
  have hw6:w.heap.size<u6.heap.size:=Nat.lt_of_lt_of_le Y0 Ay.size;clear Ay h6 W7 Y0;have hq6:=Nat.lt_of_lt_of_le hq uH.size;have hc6:=HC.out _ uH;have hf6:=HF.out _ uH;have hne:¬(q=w.heap.size):=by omega
  have af7:¬(w.heap.size=q):=by omega
  obtain⟨v,hrun,hv,uA⟩:=HU.out _ uH;go_wp2)
 all_goals go_region
 all_goals go_wp2
 all_goals go_ret
 all_goals exact⟨rfl,HT.out _ _ _ uH ⟨uA.os,uA.tape,uA.output,uA.size,uA.block⟩ hv⟩
theorem wA {B q:Nat}{w:World}{l:List Lz}(h:Pm B w q l)(hB:B<=w.heap.size)(hg:Zw.bu l)(aT:l.length<=100)(x:Lz)(hk:bC x.key) :
 Calls prog 204 #[.pointer (some ⟨q,0,none⟩),val x] w fun e w'=>e=.returned (.int .i64 (put l x).2)/\fF B w q (put l x).1 w':=by
 unfold put;by_cases hx:cY x
 ·rw [if_pos hx]
  refine(F7 q x w hx).mono ?_;rintro e w' ⟨rfl,hb⟩;exact⟨rfl,IF h hB hb⟩
 rw[if_neg hx];by_cases hp:0<=au l x.key
 ·rw [if_pos hp]
  refine(KI h hg.en x hx hk hp).mono ?_;rintro e w' ⟨rfl,hb⟩;exact⟨rfl,IF h hB hb⟩
 rw[if_neg hp];obtain⟨m,hc,-,hm⟩:=h.cell;rcases hm with ⟨rfl,rfl⟩ | ⟨b,D,rfl,-⟩
 ·exact KJ hB h hc x hx hk
 ·exact N9 hB h hc hg.en (by unfold maxLen;omega) x hx hk (by omega)
def AG (g:Int)(_:Lit)(d:DataW Unit):Bool :=
 match d with
 | .agg [_,.lit (.int .i64 x),_,_,_]=>decide (x<g)
 | _=>false
theorem KL (k g:Int)(c:Nat)(x:Lz)(w:World)(hc:w.cell? ⟨c,0,none⟩=some (.int .i64 g))(aC:c<w.heap.size) :
 Calls prog 195 #[.int .i64 k,val x,.pointer (some ⟨c,0,none⟩)] w fun e w'=>e=.returned (.bool (fg g x))/\w.grownBy w' none:=by
 obtain⟨key,gen,aK,spent,cJ⟩:=x;simp only[val,fg];go_enter func195,ntmps195
 go_wp2;go_ret;exact⟨rfl,World.grownBy_alloc _ _ _⟩
theorem sj (g:Int)(c b n:Nat)(D:DataW Unit)(w:World)(ax:w.ownsMap prog 3 rdz b n D)(hc:w.cell? ⟨c,0,none⟩=some (.int .i64 g))(hcb:c≠b) :
 Calls prog 194 #[.map (some b),.func (.func 195) #[] #[.pointer (some ⟨c,0,none⟩)]] w fun e w' =>
  e=.returned (.tuple #[])/\w'.ownsMap prog 3 rdz b n (Lib.deleteFuncD (AG g) D)/\w.grownBy w' (some b):=by
 obtain⟨es0,rfl,hap,W8⟩:=ax.entries dR;have aC:c<w.heap.size:=World.block_lt_of_cell? _ _ hc;have HD:=hid (fun(W:World) (k:Int) (x:Lz) (hg:w.grownBy W (some b))=>KL k g c x W ((World.cell?_of_block (hg.block c aC (by simpa using hcb))).trans hc) (Nat.lt_of_lt_of_le aC hg.size))
 clear hc;go_enter func194,ntmps194
 go_wp2_with (first
  |(at_range;refine wpList_range_own _ rfl _ 192 rfl 3 135 dR underlying192 rdz b n _ rfl ax ?_;intro w0 hrg0 hg0 hs0)
  | go_in)
 go_frame
 go_loopw [8] (fun _ wr=>∃(left:Lit->Bool) (cnt:Nat),wr.ranges prog 3 rdz b w.heap.size n (Fk (AG g) es0 left) left cnt/\w.grownBy wr (some b))
  (fun _ wr=>wr.rangeLeft b w.heap.size)
 case atStart=>exact ⟨_,_,by rw[Fk_start W8];exact hrg0,hg0.but _⟩
 case round =>
  obtain⟨left,cnt,hrg,hgw⟩:=hrel;go_wp2_with (first
   |(at_next;refine wpList_next_ranges _ rfl _ rfl 3 dR rdz (Value.int .i64) val (fun key kl h=>by obtain⟨x,rfl,-⟩:=Maps.keyOf_int_inv underlying3 h;exact⟨x,rfl⟩) (fun v y h=>by obtain⟨x,rfl,-⟩:=AD h;exact⟨x,rfl⟩) b w.heap.size n _ _ _ rfl hrg ?_ ?_)
   | go_in)
  ·intro _ hl0
   go_wp2;go_end0
   exact⟨rfl,by rw[<-Fk_end hl0];exact hrg.owns,hgw⟩
  ·intro x y k1 yd yp w1 abK hkey hlx hv hat Ua abL EH hs1 hen
   simp only[q7,Option.some.injEq,Prod.mk.injEq] at hv;obtain⟨rfl,rfl⟩:=hv;have abM:=hgw.andThen EH (fun j hj=>by cases hj;exact Or.inl (Nat.le_refl _))
   have hbl:=Ua.owns.lt;have hrl:=Ua.lt;have hgb:=World.grownBy_alloc w1 (.cells #[.int .i64 y.key,.int .i64 y.gen,.int .i64 y.aK,.int .i64 y.spent,.int .i64 y.cJ] 135) none;have Ub:=abM.andThen hgb (fun j hj=>by cases hj)
   have hc:=HD.out _ x y Ub;have hrg2:=hid (Ua.alloc (.cells #[.int .i64 y.key,.int .i64 y.gen,.int .i64 y.aK,.int .i64 y.spent,.int .i64 y.cJ] 135));simp only[val] at hc hen ⊢;cases hp:fg g y <;>rw [hp] at hc
   ·go_wp2_with (first
     |(go_at_call 195;refine hc.mono ?_;rintro e w2 ⟨rfl,hg2⟩;have hrg3:=hid (hrg2.out.kept hg2 (by simp) (by simp)))
     | go_in)
    go_roundw
    case rel=>exact ⟨_,abK,by rw[<-Fk_stays hap (dR.key hkey) hlx hp hat];exact hrg3.out,Ub.andThen hg2 (fun j hj=>by cases hj)⟩
    case measure=>rw [hrg3.out.left_eq,hrg.left_eq];exact abL
   ·go_wp2_with (first
     |(go_at_call 195;refine hc.mono ?_;rintro e w2 ⟨rfl,hg2⟩;have hrg3:=hid (hrg2.out.kept hg2 (by simp) (by simp)))
     |(at_delete;refine wpList_delete_ranges _ rfl _ _ 192 3 rfl 135 dR underlying192 rdz b w.heap.size n _ _ _ rfl hrg3.out _ _ rfl hkey ?_;intro w3 abN AI hle W9;go_frame)
     | go_in)
    rw[strike_twice] at AI;go_roundw
    case rel=>exact ⟨_,abN,by rw[<-Fk_struck hap (dR.key hkey) hlx hp hat];exact AI,(Ub.andThen hg2 (fun j hj=>by cases hj)).andThen W9.grown (fun j hj=>by cases hj;exact Or.inr rfl)⟩
    case measure=>rw [AI.left_eq,hrg.left_eq];omega
theorem KM (fv:Value)(w:World):Calls prog 194 #[.map none,fv] w fun e w'=>e=.returned (.tuple #[])/\w'=w.alloc (.mapIter none 0 #[] 0):=by
 have hrg:=run_range_nilMap (P:=prog) w 192 _ _ underlying192;have Ic:∀ty,(Instr.next (.pointer (some ⟨w.heap.size,0,none⟩)) false ty).run prog (w.alloc (.mapIter none 0 #[] 0))=_:=fun ty=>run_next_nilMap _ ty 0 0 #[]
 go_enter func194,ntmps194
 go_wp2;refine wp_loop_rounds 1 ?_;rw[rounds_succ];go_wp2;go_end0
 exact⟨rfl,rfl⟩
theorem Oa {B:Nat}{g:Int}{c:Nat}{w:World}{m:Option Nat}{l:List Lz}(h:Mw B w m l)(hc:w.cell? ⟨c,0,none⟩=some (.int .i64 g)) :
 Calls prog 194 #[.map m,.func (.func 195) #[] #[.pointer (some ⟨c,0,none⟩)]] w fun e w' =>
  e=.returned (.tuple #[])/\Mw B w' m (l.filter fun x=> !fg g x)/\w.grownBy w' m:=by
 rcases h with ⟨rfl,rfl⟩ | ⟨b,D,rfl,hB,ho,hi⟩
 ·refine (KM _ w).mono ?_
  rintro e w' ⟨rfl,rfl⟩;exact⟨rfl,.inl ⟨rfl,rfl⟩,World.grownBy_alloc _ _ _⟩
 ·have hcb:c≠b:=by
   rintro rfl;obtain⟨es,clock,hb,-⟩:=ho;simp[World.cell?,hb] at hc
  refine(sj g c b _ D w ho hc hcb).mono ?_;rintro e w' ⟨rfl,xZ,hg⟩;exact⟨rfl,Mw.of hB xZ (hi.drop _ _ fun x=>rfl),hg⟩
theorem F8 (l:List Lz)(g:Int):((l.countP (fg g):Nat):Int)=(l.length:Int)-((l.filter fun x=> !fg g x).length:Nat):=by
 have h:=List.length_eq_countP_add_countP (fg g) (l:=l);rw[<-List.countP_eq_length_filter (p:=fun x=> !fg g x)]
 have:(l.countP fun a=>decide ¬fg g a=true)=l.countP fun x=> !fg g x:=List.countP_congr fun x _=>by simp
 omega
theorem sZ {B q:Nat}{w:World}{l:List Lz}(h:Pm B w q l)(hB:B<=w.heap.size)(aT:l.length<=100)(g:Int) :
 Calls prog 157 #[.pointer (some ⟨q,0,none⟩),.int .i64 g] w fun e w'=>e=.returned (.int .i64 (drop l g).2)/\fF B w q (drop l g).1 w':=by
 obtain⟨m,hc,_,hm⟩:=h.cell;have hq:=h.lt;have HT:=hid (fun u v w' l' (hu:Below w.heap.size w u) (hv:u.grownBy v m) (hl:Mw B v m l') (hw:Below v.heap.size v w')=>mi h hB hc hu hm hv hl hw)
 have hb1:=cQ w (.cells #[.int .i64 g] 3);have hz:=(MapKept.heap_alloc w (.cells #[.int .i64 g] 3)).1;have Xa:=hm.below hb1;have hc1:=af hc hb1;have hq1:=Nat.lt_of_lt_of_le hq hb1.size;have hs:=hid (Oa (g:=g) (c:=w.heap.size) Xa (by rw[cell_of_row _ _ 0 _ _ (0,0) hz];rfl))
 have hn:=fun ty=>Xa.len ty
 have hqc:(w.alloc (.cells #[.int .i64 g] 3)).heap[q]? =some (.cells #[.map m] 194 (0,0)):=by
  obtain⟨_,m',h1,-⟩:=h.below hb1;rw[cell_of_row _ q 0 _ _ (0,0) h1] at hc1;simp at hc1;rw[h1,hc1]
 have hM1:=hid Xa;have e:(drop l g).1=l.filter fun x=> !fg g x:=rfl
 have e2:(drop l g).2=(l.length:Int)-((l.filter fun x=> !fg g x).length:Nat):=F8 l g
 have hle:=List.length_filter_le (fun x=> !fg g x) l
 rw[e,e2];generalize(l.filter fun x=> !fg g x)=l' at hs hle ⊢
 have hd:IntKind.i64.wrap ((l.length:Int)-(l'.length:Int))=(l.length:Int)-(l'.length:Int):=IntWalk.i64_in _ (by omega)
 have HLE:=hid hle;clear e e2 hm h hc hz hle aT;go_enter func157,ntmps157
 go_wp2_with (first
  |(go_at_call 194;refine hs.out.mono ?_;clear hs;rintro e v ⟨rfl,Mh,uA⟩
    have hcv:=oM uA hM1.out hqc;have hc2:v.cell? ⟨q,0,none⟩=some (.map m):=by rw[cell_of_row v q 0 _ _ (0,0) hcv];rfl
    have jJ:=fun ty=>Mh.len ty
    clear hcv)
  | go_in)
 go_ret;exact⟨by simp[],HT.out _ _ _ _ hb1 uA Mh (Below.refl _ _)⟩
end Zi
end Go.Proofs.YtbgdlokegibkmaaGreat
