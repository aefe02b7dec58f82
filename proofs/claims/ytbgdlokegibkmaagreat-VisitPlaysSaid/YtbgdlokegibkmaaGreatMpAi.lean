/-
  A part of the proof of VisitPlays.
-/
import Derived.OpenShut
import Derived.Lib.AppendZeros
import Derived.Test.YtbgdlokegibkmaaGreatMpAc
set_option maxRecDepth 100000
set_option maxHeartbeats 4000000
namespace Go.Proofs.YtbgdlokegibkmaaGreat
open Go.RowKit
open Tryz
open Lib (hid)
namespace Zm
open Go.RowKit Zj
theorem cp {w w':World}(h:Below w.heap.size w w'){a:Addr}{v:Value}(hc:w.cell? a=some v):w'.cell? a=some v:=by
 rw[h.cell (World.block_lt_of_cell? w a hc)];exact hc
def kH (w:World)(p:Option Addr)(zs:List (Int×Int)):Prop :=
 zs=[]∨∃b o,p=some ⟨b,o,none⟩/\∀i,i<zs.length ->
  w.cell? ⟨b,o+i*2,none⟩=some (.int .i64 (zs.getD i (0,0)).1)/\w.cell? ⟨b,o+i*2+1,none⟩=some (.int .i64 (zs.getD i (0,0)).2)
theorem kH.Ij {w w':World}{p:Option Addr}{zs:List (Int×Int)}(h:kH w p zs)(hb:Below w.heap.size w w'):kH w' p zs:=by
 rcases h with h | ⟨b,o,hp,h⟩
 ·exact .inl h
 ·exact .inr ⟨b,o,hp,fun i hi=>⟨cp hb (h i hi).1,cp hb (h i hi).2⟩⟩
def uw (W:World)(g:Nat)(v0 v1 v2 v3 v4 v5 v6 v7 v8:Value):Prop :=
 W.cell? ⟨g,0,none⟩=some v0/\W.cell? ⟨g,1,none⟩=some v1/\W.cell? ⟨g,2,none⟩=some v2/\W.cell? ⟨g,3,none⟩=some v3/\W.cell? ⟨g,4,none⟩=some v4 /\
 W.cell? ⟨g,5,none⟩=some v5/\W.cell? ⟨g,6,none⟩=some v6/\W.cell? ⟨g,7,none⟩=some v7/\W.cell? ⟨g,8,none⟩=some v8
theorem uw.Ij {W W':World}{g:Nat}{v0 v1 v2 v3 v4 v5 v6 v7 v8:Value}(h:uw W g v0 v1 v2 v3 v4 v5 v6 v7 v8)(hb:Below W.heap.size W W'):uw W' g v0 v1 v2 v3 v4 v5 v6 v7 v8:=by
 obtain⟨h0,h1,h2,h3,h4,h5,h6,h7,h8⟩:=h;exact⟨cp hb h0,cp hb h1,cp hb h2,cp hb h3,cp hb h4,cp hb h5,cp hb h6,cp hb h7,cp hb h8⟩
theorem Nk (w:World)(v0 v1 v2 v3 v4 v5 v6 v7 v8:Value)(t:TypeId):uw (w.alloc (.cells #[v0,v1,v2,v3,v4,v5,v6,v7,v8] t)) w.heap.size v0 v1 v2 v3 v4 v5 v6 v7 v8:=by
 refine⟨?_,?_,?_,?_,?_,?_,?_,?_,?_⟩ <;>(rw[World.cell?_alloc_new];rfl)
theorem bK (w:World)(o:Obj):Below w.heap.size w (w.alloc o):=(Below.refl _ w).alloc (Nat.le_refl _) o
def kI (sk tl va lo he:Int):Bool:=aB tl 1 2147483648&&aB va 1 2147483648&&aB lo 1 2147483648&&aB he 1 2147483648&&aB sk 0 2147483648
def kJ (ke qu:Int):Bool:=aB ke 1 16&&aB qu 0 16
def kK (r:Int×Int):Bool:=aB r.1 0 2147483648&&aB r.2 0 2147483648
def aH (zs:List (Int×Int)):Bool:=aB zs.length 1 8&&zs.all kK
def bI (n sk tl va lo he ke qu:Int)(zs:List (Int×Int)):Int :=
 if aB n 1 64=false then 21 else if kI sk tl va lo he=false then 22 else if kJ ke qu=false then 23 else if aH zs=false then 24 else 0
theorem su (n sk tl va lo he ke qu:Int)(p:Option Addr)(l c:Nat)(w:World) :
 Calls prog 75 #[.agg #[.int .i64 n,.int .i64 sk,.int .i64 tl,.int .i64 va,.int .i64 lo,.int .i64 he,.int .i64 ke,.int .i64 qu,.slice p l c]] w fun e w'=>e=.returned (.bool (kJ ke qu))/\Below w.heap.size w w':=by
 rcases Bool.eq_false_or_eq_true (aB ke 1 16) with h | h
 all_goals
  go_enter func75,ntmps75
  go_wp2_with (go_at_call 133;refine(aU _ _ _ _).mono ?_;rintro e w' ⟨rfl,rfl⟩)
  go_ret;exact⟨dV (by unfold kJ;rw[h];rfl),bK _ _⟩
theorem sw (n sk tl va lo he ke qu:Int)(p:Option Addr)(l c:Nat)(w:World) :
 Calls prog 74 #[.agg #[.int .i64 n,.int .i64 sk,.int .i64 tl,.int .i64 va,.int .i64 lo,.int .i64 he,.int .i64 ke,.int .i64 qu,.slice p l c]] w fun e w'=>e=.returned (.bool (kI sk tl va lo he))/\Below w.heap.size w w':=by
 have i0:∀w,(Instr.index 197 (.agg #[.int .i64 tl,.int .i64 va,.int .i64 lo,.int .i64 he]) (.int .i64 0)).run prog w=.ok (.int .i64 tl) w:=fun _=>by kernel_rfl
 have i1:∀w,(Instr.index 197 (.agg #[.int .i64 tl,.int .i64 va,.int .i64 lo,.int .i64 he]) (.int .i64 1)).run prog w=.ok (.int .i64 va) w:=fun _=>by kernel_rfl
 have i2:∀w,(Instr.index 197 (.agg #[.int .i64 tl,.int .i64 va,.int .i64 lo,.int .i64 he]) (.int .i64 2)).run prog w=.ok (.int .i64 lo) w:=fun _=>by kernel_rfl
 have i3:∀w,(Instr.index 197 (.agg #[.int .i64 tl,.int .i64 va,.int .i64 lo,.int .i64 he]) (.int .i64 3)).run prog w=.ok (.int .i64 he) w:=fun _=>by kernel_rfl
 go_enter func74,ntmps74
 go_wp2;go_loop [4,14] (fun _ i=>∃k:Nat,i=.int .i64 (k:Int)/\k<=4/\Hid ((1<=k->aB tl 1 2147483648=true)/\(2<=k->aB va 1 2147483648=true)/\(3<=k->aB lo 1 2147483648=true)/\(4<=k->aB he 1 2147483648=true))) (fun _ i=>4-(intOf i).toNat)
 case atStart=>exact ⟨0,rfl,by omega,hid ⟨fun h=>absurd h (by omega),fun h=>absurd h (by omega),fun h=>absurd h (by omega),fun h=>absurd h (by omega)⟩⟩
 case round =>
  obtain⟨k,rfl,hk,H⟩:=hrel;have Pr:k=0∨k=1∨k=2∨k=3∨k=4:=by omega
  rcases Pr with rfl | rfl | rfl | rfl | rfl
  ·rcases Bool.eq_false_or_eq_true (aB tl 1 2147483648) with h | h
   ·go_wp2_with (go_at_call 133;refine(aU _ _ _ _).mono ?_;rintro e w' ⟨rfl,rfl⟩)
    go_round
    case rel=>exact ⟨1,by go_num,by omega,hid ⟨fun _=>h,fun h=>absurd h (by omega),fun h=>absurd h (by omega),fun h=>absurd h (by omega)⟩⟩
    case measure=>simp [intOf]
   ·go_wp2_with (go_at_call 133;refine(aU _ _ _ _).mono ?_;rintro e w' ⟨rfl,rfl⟩)
    go_ret;exact⟨dV (by unfold kI;simp[h]),bK _ _⟩
  ·rcases Bool.eq_false_or_eq_true (aB va 1 2147483648) with h | h
   ·go_wp2_with (go_at_call 133;refine(aU _ _ _ _).mono ?_;rintro e w' ⟨rfl,rfl⟩)
    go_round
    case rel=>exact ⟨2,by go_num,by omega,hid ⟨fun _=>H.out.1 (by omega),fun _=>h,fun h=>absurd h (by omega),fun h=>absurd h (by omega)⟩⟩
    case measure=>simp [intOf]
   ·go_wp2_with (go_at_call 133;refine(aU _ _ _ _).mono ?_;rintro e w' ⟨rfl,rfl⟩)
    go_ret;exact⟨dV (by unfold kI;simp[h]),bK _ _⟩
  ·rcases Bool.eq_false_or_eq_true (aB lo 1 2147483648) with h | h
   ·go_wp2_with (go_at_call 133;refine(aU _ _ _ _).mono ?_;rintro e w' ⟨rfl,rfl⟩)
    go_round
    case rel=>exact ⟨3,by go_num,by omega,hid ⟨fun _=>H.out.1 (by omega),fun _=>H.out.2.1 (by omega),fun _=>h,fun h=>absurd h (by omega)⟩⟩
    case measure=>simp [intOf]
   ·go_wp2_with (go_at_call 133;refine(aU _ _ _ _).mono ?_;rintro e w' ⟨rfl,rfl⟩)
    go_ret;exact⟨dV (by unfold kI;simp[h]),bK _ _⟩
  ·rcases Bool.eq_false_or_eq_true (aB he 1 2147483648) with h | h
   ·go_wp2_with (go_at_call 133;refine(aU _ _ _ _).mono ?_;rintro e w' ⟨rfl,rfl⟩)
    go_round
    case rel=>exact ⟨4,by go_num,by omega,hid ⟨fun _=>H.out.1 (by omega),fun _=>H.out.2.1 (by omega),fun _=>H.out.2.2.1 (by omega),fun _=>h⟩⟩
    case measure=>simp [intOf]
   ·go_wp2_with (go_at_call 133;refine(aU _ _ _ _).mono ?_;rintro e w' ⟨rfl,rfl⟩)
    go_ret;exact⟨dV (by unfold kI;simp[h]),bK _ _⟩
  ·have H1:=H.out.1 (by omega);have H2:=H.out.2.1 (by omega);have H3:=H.out.2.2.1 (by omega);have H4:=H.out.2.2.2 (by omega)
   have HT:=hid (show kI sk tl va lo he=aB sk 0 2147483648 by unfold kI;simp[H1,H2,H3,H4])
   clear H H1 H2 H3 H4;go_wp2_with (go_at_call 133;refine(aU _ _ _ _).mono ?_;rintro e w' ⟨rfl,rfl⟩)
   go_ret;exact⟨dV HT.out.symm,bK _ _⟩
theorem Ca (zs:List (Int×Int))(k:Nat)(h:k<zs.length):(zs.take (k+1)).all kK=((zs.take k).all kK&&(aB (zs.getD k (0,0)).1 0 2147483648&&aB (zs.getD k (0,0)).2 0 2147483648)):=by
 have e:zs.getD k (0,0)=zs[k]:=by simp[h]
 rw[e,List.take_succ_eq_append_getElem h,List.all_append];simp[kK]
theorem Tr (zs:List (Int×Int))(k:Nat)(h:k<zs.length)(hr:(aB (zs.getD k (0,0)).1 0 2147483648&&aB (zs.getD k (0,0)).2 0 2147483648)=false):zs.all kK=false:=by
 have e:zs.getD k (0,0)=zs[k]:=by simp[h]
 rw[e] at hr;rw[List.all_eq_false];exact⟨zs[k],List.getElem_mem h,by unfold kK;rw[hr];exact Bool.false_ne_true⟩
theorem JQ (p:Option Addr)(zs:List (Int×Int))(c:Nat)(w:World)(hl:zs.length<=100)(hr:kH w p zs) :
 Calls prog 76 #[.slice p zs.length c] w fun e w'=>e=.returned (.bool (aH zs))/\Below w.heap.size w w':=by
 rcases Bool.eq_false_or_eq_true (aB zs.length 1 8) with h | h
 ·rcases hr with h0 | ⟨b,o,rfl,hr⟩
  ·subst h0;exact absurd h (by decide)
  have HR:=hid hr;clear hr;have HT:=hid (show aH zs=zs.all kK by unfold aH;rw[h];rfl)
  go_enter func76,ntmps76
  go_wp2_with (go_at_call 133;refine(aU _ _ _ _).mono ?_;rintro e w' ⟨rfl,rfl⟩)
  go_loopw [11] (fun i wr=>∃k:Nat,i=.int .i64 (k:Int)/\k<=zs.length/\Hid ((zs.take k).all kK=true)/\Hid (Below w.heap.size w wr)) (fun i _=>zs.length-(intOf i).toNat)
  case atStart=>exact ⟨0,rfl,by omega,hid rfl,hid (Below.refl _ _)⟩
  case round =>
   obtain⟨k,rfl,hk,HA,HB⟩:=hrel;by_cases aC:k<zs.length
   ·have bE:(k:Int)<(zs.length:Int):=by omega
    have g1:wr.cell? ⟨b,o+k*2,none⟩=some (.int .i64 (zs.getD k (0,0)).1):=cp HB.out (HR.out k aC).1;have g2:wr.cell? ⟨b,o+k*2+1,none⟩=some (.int .i64 (zs.getD k (0,0)).2):=cp HB.out (HR.out k aC).2;have U2:=Ca zs k aC;have an:=Tr zs k aC;have AT:=hid U2;clear U2;have AN:=hid an;clear an;generalize(zs.getD k (0,0)).1=x at *;generalize(zs.getD k (0,0)).2=y at *;rcases Bool.eq_false_or_eq_true (aB x 0 2147483648) with h1 | h1
    ·rcases Bool.eq_false_or_eq_true (aB y 0 2147483648) with h2 | h2
     ·go_wp2_with (go_at_call 133;refine(aU _ _ _ _).mono ?_;rintro e w' ⟨rfl,rfl⟩)
      go_roundw
      case rel=>exact ⟨k+1,by go_num,by omega,hid (by rw[AT.out,HA.out,h1,h2];rfl),hid (HB.out.alloc HB.out.size _)⟩
      case measure=>simp only[intOf];omega
     ·go_wp2_with (go_at_call 133;refine(aU _ _ _ _).mono ?_;rintro e w' ⟨rfl,rfl⟩)
      go_ret;exact⟨dV (by rw[HT.out,AN.out (by rw[h1,h2];rfl)]),HB.out.alloc HB.out.size _⟩
    ·go_wp2_with (go_at_call 133;refine(aU _ _ _ _).mono ?_;rintro e w' ⟨rfl,rfl⟩)
     go_ret;exact⟨dV (by rw[HT.out,AN.out (by rw[h1];rfl)]),HB.out.alloc HB.out.size _⟩
   ·have Bt:k=zs.length:=by omega
    subst Bt;go_wp2;go_ret;exact⟨dV (by rw[HT.out];have h:=HA.out;rw[List.take_length] at h;rw[h]),HB.out⟩
 ·have HT:=hid (show aH zs=false by unfold aH;rw[h];rfl)
  go_enter func76,ntmps76
  go_wp2_with (go_at_call 133;refine(aU _ _ _ _).mono ?_;rintro e w' ⟨rfl,rfl⟩)
  go_ret;exact⟨dV HT.out.symm,Below.refl _ _⟩
def pg (w W:World)(n sk tl va lo he ke qu:Int)(p:Option Addr)(l c:Nat):Prop :=
 Below w.heap.size w W/\uw W w.heap.size (.int .i64 n) (.int .i64 sk) (.int .i64 tl) (.int .i64 va) (.int .i64 lo) (.int .i64 he) (.int .i64 ke) (.int .i64 qu) (.slice p l c)
theorem start (w:World)(n sk tl va lo he ke qu:Int)(p:Option Addr)(l c:Nat):pg w (w.alloc (.cells #[.int .i64 n,.int .i64 sk,.int .i64 tl,.int .i64 va,.int .i64 lo,.int .i64 he,.int .i64 ke,.int .i64 qu,.slice p l c] 24)) n sk tl va lo he ke qu p l c :=
 ⟨bK _ _,Nk _ _ _ _ _ _ _ _ _ _ _⟩
theorem pg.step {w W W':World}{n sk tl va lo he ke qu:Int}{p:Option Addr}{l c:Nat}(h:pg w W n sk tl va lo he ke qu p l c)(hb:Below W.heap.size W W'):pg w W' n sk tl va lo he ke qu p l c :=
 ⟨h.1.trans (hb.mono h.1.size),h.2.Ij hb⟩
theorem pN (n sk tl va lo he ke qu:Int)(p:Option Addr)(l c:Nat)(w:World)(tb rb zb:Bool)(r:Int)
 (cT:∀u,pg w u n sk tl va lo he ke qu p l c->Calls prog 74 #[.agg #[.int .i64 n,.int .i64 sk,.int .i64 tl,.int .i64 va,.int .i64 lo,.int .i64 he,.int .i64 ke,.int .i64 qu,.slice p l c]] u fun e W=>e=.returned (.bool tb)/\pg w W n sk tl va lo he ke qu p l c/\uw W w.heap.size (.int .i64 n) (.int .i64 sk) (.int .i64 tl) (.int .i64 va) (.int .i64 lo) (.int .i64 he) (.int .i64 ke) (.int .i64 qu) (.slice p l c))
 (cR:∀u,pg w u n sk tl va lo he ke qu p l c->Calls prog 75 #[.agg #[.int .i64 n,.int .i64 sk,.int .i64 tl,.int .i64 va,.int .i64 lo,.int .i64 he,.int .i64 ke,.int .i64 qu,.slice p l c]] u fun e W=>e=.returned (.bool rb)/\pg w W n sk tl va lo he ke qu p l c/\uw W w.heap.size (.int .i64 n) (.int .i64 sk) (.int .i64 tl) (.int .i64 va) (.int .i64 lo) (.int .i64 he) (.int .i64 ke) (.int .i64 qu) (.slice p l c))
 (cZ:∀u,pg w u n sk tl va lo he ke qu p l c->Calls prog 76 #[.slice p l c] u fun e W=>e=.returned (.bool zb)/\pg w W n sk tl va lo he ke qu p l c)
 (h:(aB n 1 64=false/\r=21)∨(aB n 1 64=true/\tb=false/\r=22)∨(aB n 1 64=true/\tb=true/\rb=false/\r=23)∨(aB n 1 64=true/\tb=true/\rb=true/\zb=false/\r=24)∨(aB n 1 64=true/\tb=true/\rb=true/\zb=true/\r=0)) :
 Calls prog 31 #[.agg #[.int .i64 n,.int .i64 sk,.int .i64 tl,.int .i64 va,.int .i64 lo,.int .i64 he,.int .i64 ke,.int .i64 qu,.slice p l c]] w fun e w'=>e=.returned (.int .i64 r)/\Below w.heap.size w w':=by
 rcases h with ⟨h1,rfl⟩ | ⟨h1,rfl,rfl⟩ | ⟨h1,rfl,rfl,rfl⟩ | ⟨h1,rfl,rfl,rfl,rfl⟩ | ⟨h1,rfl,rfl,rfl,rfl⟩
 ·go_enter func31,ntmps31
  go_wp2_with (first
   |(go_at_call 73;refine(vp _ _).mono ?_;rintro e w' ⟨rfl,rfl⟩)
   |(go_at_call 74;(first | (with_reducible refine(cT _ hP).mono ?_) | (with_reducible refine(cT _ (start _ _ _ _ _ _ _ _ _ _ _ _)).mono ?_));(try clear hP c0 c1 c2 c3 c4 c5 c6 c7 c8);rintro e w1 ⟨rfl,hP,c0,c1,c2,c3,c4,c5,c6,c7,c8⟩)
   |(go_at_call 75;(with_reducible refine(cR _ hP).mono ?_);(try clear hP c0 c1 c2 c3 c4 c5 c6 c7 c8);rintro e w1 ⟨rfl,hP,c0,c1,c2,c3,c4,c5,c6,c7,c8⟩)
   |(go_at_call 76;(with_reducible refine(cZ _ hP).mono ?_);(try clear hP c0 c1 c2 c3 c4 c5 c6 c7 c8);rintro e w1 ⟨rfl,hP⟩))
  go_ret;exact⟨rfl,bK _ _⟩
 all_goals
  go_enter func31,ntmps31
  go_wp2_with (first
   |(go_at_call 73;refine(vp _ _).mono ?_;rintro e w' ⟨rfl,rfl⟩)
   |(go_at_call 74;(first | (with_reducible refine(cT _ hP).mono ?_) | (with_reducible refine(cT _ (start _ _ _ _ _ _ _ _ _ _ _ _)).mono ?_));(try clear hP c0 c1 c2 c3 c4 c5 c6 c7 c8);rintro e w1 ⟨rfl,hP,c0,c1,c2,c3,c4,c5,c6,c7,c8⟩)
   |(go_at_call 75;(with_reducible refine(cR _ hP).mono ?_);(try clear hP c0 c1 c2 c3 c4 c5 c6 c7 c8);rintro e w1 ⟨rfl,hP,c0,c1,c2,c3,c4,c5,c6,c7,c8⟩)
   |(go_at_call 76;(with_reducible refine(cZ _ hP).mono ?_);(try clear hP c0 c1 c2 c3 c4 c5 c6 c7 c8);rintro e w1 ⟨rfl,hP⟩))
  go_ret;exact⟨rfl,hP.1⟩
theorem sx (n sk tl va lo he ke qu:Int)(p:Option Addr)(zs:List (Int×Int))(c:Nat)(w:World)(hl:zs.length<=100)(hr:kH w p zs) :
 Calls prog 31 #[.agg #[.int .i64 n,.int .i64 sk,.int .i64 tl,.int .i64 va,.int .i64 lo,.int .i64 he,.int .i64 ke,.int .i64 qu,.slice p zs.length c]] w fun e w'=>e=.returned (.int .i64 (bI n sk tl va lo he ke qu zs))/\Below w.heap.size w w':=by
 refine pN n sk tl va lo he ke qu p zs.length c w (kI sk tl va lo he) (kJ ke qu) (aH zs) _
  (fun u hu=>(sw n sk tl va lo he ke qu p zs.length c u).mono fun e W k=>⟨k.1,hu.step k.2,(hu.step k.2).2⟩)
  (fun u hu=>(su n sk tl va lo he ke qu p zs.length c u).mono fun e W k=>⟨k.1,hu.step k.2,(hu.step k.2).2⟩)
  (fun u hu=>(JQ p zs c u hl (hr.Ij hu.1)).mono fun e W k=>⟨k.1,hu.step k.2⟩) ?_
 unfold bI;rcases Bool.eq_false_or_eq_true (aB n 1 64) with h1 | h1
 ·rcases Bool.eq_false_or_eq_true (kI sk tl va lo he) with h2 | h2
  ·rcases Bool.eq_false_or_eq_true (kJ ke qu) with h3 | h3
   ·rcases Bool.eq_false_or_eq_true (aH zs) with h4 | h4
    ·exact .inr (.inr (.inr (.inr ⟨h1,h2,h3,h4,by simp[h1,h2,h3,h4]⟩)))
    ·exact .inr (.inr (.inr (.inl ⟨h1,h2,h3,h4,by simp[h1,h2,h3,h4]⟩)))
   ·exact .inr (.inr (.inl ⟨h1,h2,h3,by simp[h1,h2,h3]⟩))
  ·exact .inr (.inl ⟨h1,h2,by simp[h1,h2]⟩)
 ·exact .inl ⟨h1,by simp[h1]⟩
theorem j8 (x lo:Int)(w:World) :
 Calls prog 81 #[.int .i64 x,.int .i64 lo] w fun e w'=>e=.returned (.bool (aB x lo 2147483648))/\w=w':=by
 by_cases h:lo<=x
 ·go_enter func81,ntmps81
  go_wp2;go_ret;exact⟨dV (by unfold aB;simp[h]),rfl⟩
 ·go_enter func81,ntmps81
  go_wp2;go_ret;exact⟨dV (gp (by omega)).symm,rfl⟩
theorem eQ (n sk tl va lo he ke qu:Int)(p:Option Addr)(l c:Nat)(w:World)(r:Int)
 (h:(gN n=false/\r=21)∨
   (gN n=true/\aB sk 0 2147483648=false/\r=22)∨
   (gN n=true/\aB sk 0 2147483648=true/\aB tl 1 2147483648=false/\r=22)∨
   (gN n=true/\aB sk 0 2147483648=true/\aB tl 1 2147483648=true/\aB va 1 2147483648=false/\r=22)∨
   (gN n=true/\aB sk 0 2147483648=true/\aB tl 1 2147483648=true/\aB va 1 2147483648=true/\aB lo 1 2147483648=false/\r=22)∨
   (gN n=true/\aB sk 0 2147483648=true/\aB tl 1 2147483648=true/\aB va 1 2147483648=true/\aB lo 1 2147483648=true/\aB he 1 2147483648=false/\r=22)∨
   (gN n=true/\aB sk 0 2147483648=true/\aB tl 1 2147483648=true/\aB va 1 2147483648=true/\aB lo 1 2147483648=true/\aB he 1 2147483648=true/\(ke<1∨(1<=ke/\16<ke)∨(1<=ke/\ke<=16/\qu<0)∨(1<=ke/\ke<=16/\0<=qu/\16<qu))/\r=23)) :
 Calls prog 34 #[.agg #[.int .i64 n,.int .i64 sk,.int .i64 tl,.int .i64 va,.int .i64 lo,.int .i64 he,.int .i64 ke,.int .i64 qu,.slice p l c]] w fun e w'=>e=.returned (.int .i64 r)/\Below w.heap.size w w':=by
 rcases h with ⟨h1,rfl⟩ | ⟨h1,h2,rfl⟩ | ⟨h1,h2,h3,rfl⟩ | ⟨h1,h2,h3,h4,rfl⟩ | ⟨h1,h2,h3,h4,h5,rfl⟩ | ⟨h1,h2,h3,h4,h5,h6,rfl⟩ | ⟨h1,h2,h3,h4,h5,h6,k1 | ⟨k1,k2⟩ | ⟨k1,k2,k3⟩ | ⟨k1,k2,k3,k4⟩,rfl⟩
 all_goals
  go_enter func34,ntmps34
  go_wp2_with (first | (go_at_call 81;refine(j8 _ _ _).mono ?_;rintro e w' ⟨rfl,rfl⟩) | (go_at_call 80;refine(Zj.fC _ _).mono ?_;rintro e w' ⟨rfl,rfl⟩))
  go_ret;exact⟨rfl,bK _ _⟩
theorem pj (n sk tl va lo he ke qu:Int)(p:Option Addr)(c:Nat)(w:World)
 (h1:gN n=true) (h2:aB sk 0 2147483648=true) (h3:aB tl 1 2147483648=true) (h4:aB va 1 2147483648=true) (h5:aB lo 1 2147483648=true) (h6:aB he 1 2147483648=true)
 (k1:1<=ke) (k2:ke<=16) (k3:0<=qu) (k4:qu<=16) :
 Calls prog 34 #[.agg #[.int .i64 n,.int .i64 sk,.int .i64 tl,.int .i64 va,.int .i64 lo,.int .i64 he,.int .i64 ke,.int .i64 qu,.slice p 0 c]] w fun e w'=>e=.returned (.int .i64 24)/\Below w.heap.size w w':=by
 go_enter func34,ntmps34
 go_wp2_with (first | (go_at_call 81;refine(j8 _ _ _).mono ?_;rintro e w' ⟨rfl,rfl⟩) | (go_at_call 80;refine(Zj.fC _ _).mono ?_;rintro e w' ⟨rfl,rfl⟩))
 go_loop [5,6] (fun b i=>b=.bool false/\i=.int .i64 0) (fun _ _=>0)
 case atStart=>exact ⟨rfl,rfl⟩
 case round =>
  obtain⟨rfl,rfl⟩:=hrel;go_wp2;go_ret;exact⟨rfl,bK _ _⟩
theorem zX (n sk tl va lo he ke qu:Int)(b o:Nat)(zs:List (Int×Int))(c:Nat)(w:World)(r:Int)
 (hc:∀i,i<zs.length->w.cell? ⟨b,o+i*2,none⟩=some (.int .i64 (zs.getD i (0,0)).1)/\w.cell? ⟨b,o+i*2+1,none⟩=some (.int .i64 (zs.getD i (0,0)).2))
 (h1:gN n=true) (h2:aB sk 0 2147483648=true) (h3:aB tl 1 2147483648=true) (h4:aB va 1 2147483648=true) (h5:aB lo 1 2147483648=true) (h6:aB he 1 2147483648=true)
 (k1:1<=ke) (k2:ke<=16) (k3:0<=qu) (k4:qu<=16)
 (z1:(1:Int)<=zs.length) (z8:(zs.length:Int)<=8) (hr:Hid ((zs.all kK=true->r=0)/\(zs.all kK=false->r=24))) :
 Calls prog 34 #[.agg #[.int .i64 n,.int .i64 sk,.int .i64 tl,.int .i64 va,.int .i64 lo,.int .i64 he,.int .i64 ke,.int .i64 qu,.slice (some ⟨b,o,none⟩) zs.length c]] w fun e w'=>e=.returned (.int .i64 r)/\Below w.heap.size w w':=by
 have HR:=hid hc;clear hc;go_enter func34,ntmps34
 go_wp2_with (first | (go_at_call 81;refine(j8 _ _ _).mono ?_;rintro e w' ⟨rfl,rfl⟩) | (go_at_call 80;refine(Zj.fC _ _).mono ?_;rintro e w' ⟨rfl,rfl⟩))
 go_loop [5,6] (fun b i=>∃k:Nat,i=.int .i64 (k:Int)/\k<=zs.length/\b=.bool ((zs.take k).all kK)) (fun _ i=>zs.length-(intOf i).toNat)
 case atStart=>exact ⟨0,rfl,by omega,rfl⟩
 case round =>
  obtain⟨k,rfl,hk,rfl⟩:=hrel;by_cases aC:k<zs.length
  ·have bE:(k:Int)<(zs.length:Int):=by omega
   have g1:=cp (bK w (.cells #[.int .i64 n,.int .i64 sk,.int .i64 tl,.int .i64 va,.int .i64 lo,.int .i64 he,.int .i64 ke,.int .i64 qu,.slice (some ⟨b,o,none⟩) zs.length c] 24)) (HR.out k aC).1;have g2:=cp (bK w (.cells #[.int .i64 n,.int .i64 sk,.int .i64 tl,.int .i64 va,.int .i64 lo,.int .i64 he,.int .i64 ke,.int .i64 qu,.slice (some ⟨b,o,none⟩) zs.length c] 24)) (HR.out k aC).2;have AT:=hid (Ca zs k aC);generalize(zs.getD k (0,0)).1=x at *;generalize(zs.getD k (0,0)).2=y at *;generalize(zs.take k).all kK=q at *;rcases Bool.eq_false_or_eq_true (aB x 0 2147483648) with m1 | m1
   ·cases q
    all_goals
     go_wp2_with (go_at_call 81;refine(j8 _ _ _).mono ?_;rintro e w' ⟨rfl,rfl⟩)
     go_round
     case rel=>exact ⟨k+1,by go_num,by omega,by rw[AT.out,m1];rfl⟩
     case measure=>simp only[intOf];omega
   ·cases q
    all_goals
     go_wp2_with (go_at_call 81;refine(j8 _ _ _).mono ?_;rintro e w' ⟨rfl,rfl⟩)
     go_round
     case rel=>exact ⟨k+1,by go_num,by omega,by rw[AT.out,m1];rfl⟩
     case measure=>simp only[intOf];omega
  ·have Bt:k=zs.length:=by omega
   subst Bt;rw[List.take_length];generalize zs.all kK=q at *;cases q
   ·have h:=hr.out.2 rfl
    subst h;go_wp2;go_ret;exact⟨rfl,bK _ _⟩
   ·have h:=hr.out.1 rfl
    subst h;go_wp2;go_ret;exact⟨rfl,bK _ _⟩
theorem xE (n sk tl va lo he ke qu:Int)(b o:Nat)(zs:List (Int×Int))(c:Nat)(w:World)(hl:zs.length<=100)
 (hc:∀i,i<zs.length->w.cell? ⟨b,o+i*2,none⟩=some (.int .i64 (zs.getD i (0,0)).1)/\w.cell? ⟨b,o+i*2+1,none⟩=some (.int .i64 (zs.getD i (0,0)).2))
 (h1:gN n=true) (h2:aB sk 0 2147483648=true) (h3:aB tl 1 2147483648=true) (h4:aB va 1 2147483648=true) (h5:aB lo 1 2147483648=true) (h6:aB he 1 2147483648=true)
 (k1:1<=ke) (k2:ke<=16) (k3:0<=qu) (k4:qu<=16)
 (z8:(8:Int)<zs.length) :
 Calls prog 34 #[.agg #[.int .i64 n,.int .i64 sk,.int .i64 tl,.int .i64 va,.int .i64 lo,.int .i64 he,.int .i64 ke,.int .i64 qu,.slice (some ⟨b,o,none⟩) zs.length c]] w fun e w'=>e=.returned (.int .i64 24)/\Below w.heap.size w w':=by
 have HR:=hid hc;clear hc;have z1:(1:Int)<=zs.length:=by omega
 go_enter func34,ntmps34
 go_wp2_with (first | (go_at_call 81;refine(j8 _ _ _).mono ?_;rintro e w' ⟨rfl,rfl⟩) | (go_at_call 80;refine(Zj.fC _ _).mono ?_;rintro e w' ⟨rfl,rfl⟩))
 go_loop [5,6] (fun b i=>∃k:Nat,i=.int .i64 (k:Int)/\k<=zs.length/\b=.bool false) (fun _ i=>zs.length-(intOf i).toNat)
 case atStart=>exact ⟨0,rfl,by omega,congrArg Value.bool (decide_eq_false (by omega))⟩
 case round =>
  obtain⟨k,rfl,hk,rfl⟩:=hrel;by_cases aC:k<zs.length
  ·have bE:(k:Int)<(zs.length:Int):=by omega
   have g1:=cp (bK w (.cells #[.int .i64 n,.int .i64 sk,.int .i64 tl,.int .i64 va,.int .i64 lo,.int .i64 he,.int .i64 ke,.int .i64 qu,.slice (some ⟨b,o,none⟩) zs.length c] 24)) (HR.out k aC).1;have g2:=cp (bK w (.cells #[.int .i64 n,.int .i64 sk,.int .i64 tl,.int .i64 va,.int .i64 lo,.int .i64 he,.int .i64 ke,.int .i64 qu,.slice (some ⟨b,o,none⟩) zs.length c] 24)) (HR.out k aC).2;generalize(zs.getD k (0,0)).1=x at *;generalize(zs.getD k (0,0)).2=y at *;rcases Bool.eq_false_or_eq_true (aB x 0 2147483648) with m1 | m1
   all_goals
    go_wp2_with (go_at_call 81;refine(j8 _ _ _).mono ?_;rintro e w' ⟨rfl,rfl⟩)
    go_round
    case rel=>exact ⟨k+1,by go_num,by omega,rfl⟩
    case measure=>simp only[intOf];omega
  ·have Bt:k=zs.length:=by omega
   subst Bt;go_wp2;go_ret;exact⟨rfl,bK _ _⟩
theorem qO (n sk tl va lo he ke qu:Int)(p:Option Addr)(zs:List (Int×Int))(c:Nat)(w:World)(hl:zs.length<=100)(hr:kH w p zs) :
 Calls prog 34 #[.agg #[.int .i64 n,.int .i64 sk,.int .i64 tl,.int .i64 va,.int .i64 lo,.int .i64 he,.int .i64 ke,.int .i64 qu,.slice p zs.length c]] w fun e w'=>e=.returned (.int .i64 (bI n sk tl va lo he ke qu zs))/\Below w.heap.size w w':=by
 have ok:=xr n;unfold bI kI;rcases Bool.eq_false_or_eq_true (aB n 1 64) with h1 | h1
 ·rw [h1] at ok
  rcases Bool.eq_false_or_eq_true (aB sk 0 2147483648) with h2 | h2
  ·rcases Bool.eq_false_or_eq_true (aB tl 1 2147483648) with h3 | h3
   ·rcases Bool.eq_false_or_eq_true (aB va 1 2147483648) with h4 | h4
    ·rcases Bool.eq_false_or_eq_true (aB lo 1 2147483648) with h5 | h5
     ·rcases Bool.eq_false_or_eq_true (aB he 1 2147483648) with h6 | h6
      ·by_cases k:(1<=ke/\ke<=16)/\(0<=qu/\qu<=16)
       ·have e:kJ ke qu=true:=by unfold kJ;rw[fK k.1.1 k.1.2,fK k.2.1 k.2.2];rfl
        simp only[h1,h2,h3,h4,h5,h6,e];obtain⟨⟨k1,k2⟩,k3,k4⟩:=k;rcases hr with h0 | ⟨b,o,rfl,hc⟩
        ·subst h0
         simpa[show aH []=false by decide] using pj n sk tl va lo he ke qu p c w ok h2 h3 h4 h5 h6 k1 k2 k3 k4
        ·by_cases z8:(zs.length:Int)<=8
         ·by_cases z1:(1:Int)<=zs.length
          ·have e:aH zs=zs.all kK:=by unfold aH;rw[fK z1 z8];rfl
           refine zX n sk tl va lo he ke qu b o zs c w _ hc ok h2 h3 h4 h5 h6 k1 k2 k3 k4 z1 z8 (hid ⟨fun h=> ?_,fun h=> ?_⟩)
           ·simp [e,h]
           ·simp [e,h]
          ·have h0:zs=[]:=List.length_eq_zero_iff.1 (by omega)
           subst h0;simpa[show aH []=false by decide] using pj n sk tl va lo he ke qu _ c w ok h2 h3 h4 h5 h6 k1 k2 k3 k4
         ·have e:aH zs=false:=by unfold aH;rw[gp (by omega)];rfl
          have h:=xE n sk tl va lo he ke qu b o zs c w hl hc ok h2 h3 h4 h5 h6 k1 k2 k3 k4 (by omega)
          simpa[e] using h
       ·have e:kJ ke qu=false:=by
         unfold kJ;by_cases k':1<=ke/\ke<=16
         ·rw [gp (x:=qu) (lo:=0) (hi:=16) (fun h=>k ⟨k',h⟩)];simp
         ·rw [gp k'];rfl
        have h:=eQ n sk tl va lo he ke qu p zs.length c w 23 (.inr (.inr (.inr (.inr (.inr (.inr ⟨ok,h2,h3,h4,h5,h6,by omega,rfl⟩))))))
        simpa[h1,h2,h3,h4,h5,h6,e] using h
      ·have h:=eQ n sk tl va lo he ke qu p zs.length c w 22 (.inr (.inr (.inr (.inr (.inr (.inl ⟨ok,h2,h3,h4,h5,h6,rfl⟩))))))
       simpa[h1,h2,h3,h4,h5,h6] using h
     ·have h:=eQ n sk tl va lo he ke qu p zs.length c w 22 (.inr (.inr (.inr (.inr (.inl ⟨ok,h2,h3,h4,h5,rfl⟩)))))
      simpa[h1,h2,h3,h4,h5] using h
    ·have h:=eQ n sk tl va lo he ke qu p zs.length c w 22 (.inr (.inr (.inr (.inl ⟨ok,h2,h3,h4,rfl⟩))))
     simpa[h1,h2,h3,h4] using h
   ·have h:=eQ n sk tl va lo he ke qu p zs.length c w 22 (.inr (.inr (.inl ⟨ok,h2,h3,rfl⟩)))
    simpa[h1,h2,h3] using h
  ·have h:=eQ n sk tl va lo he ke qu p zs.length c w 22 (.inr (.inl ⟨ok,h2,rfl⟩))
   simpa[h1,h2] using h
 ·have h:=eQ n sk tl va lo he ke qu p zs.length c w 21 (.inl ⟨ok.trans h1,rfl⟩)
  simpa[h1] using h
end Zm
namespace Zy
open Zw (Lz bH)
open Zu (It take)
open Zz (Nt)
open Zr (add)
structure An where
 id:Int
 gen:Int
 fX:Int
def az:An:=⟨0,0,0⟩
structure Rq where
 id:Int
 key:Int
 cost:Int
 bU:Int
 bR:Int
structure Cf where
 n:Int
 sk:Int
 tl:Int
 va:Int
 lo:Int
 he:Int
 ke:Int
 qu:Int
 zs:List (Int×Int)
def Cf.bI (c:Cf):Int:=Zm.bI c.n c.sk c.tl c.va c.lo c.he c.ke c.qu c.zs
def Cf.fT (c:Cf)(key:Int):Int:=if 0<=key/\key<=524287/\key / 65536<c.zs.length then key / 65536 else -1
def Cf.b (c:Cf)(key:Int):Int:=(c.zs.getD (c.fT key).toNat (0,0)).2
structure Eg where
 L:List Lz
 Q:List It
 D:List Nt
def e0:Eg:=⟨[],[],[]⟩
def no (id fX:Int):List An:=[⟨id,0,fX⟩]
def right (key:Int):Prop:=0<=key/\key<=524287
instance (key:Int):Decidable (right key):=by unfold right;infer_instance
def E2 (Q:List It)(r:Rq):Prop:=r.cost<1∨r.bU<0∨2<r.bU∨r.bR<0∨1099511627776<r.bR∨¬right r.key∨0<=Zu.au Q r.id
instance (Q:List It) (r:Rq):Decidable (E2 Q r):=by unfold E2 right;infer_instance
def aN (r:Rq)(now:Int):It:=⟨r.id,r.key,r.cost,r.bU,add [now,r.bR]⟩
def bR (c:Cf)(e:Eg)(r:Rq)(now:Int):Eg×List An :=
 if r.bR=0 then (e,no r.id 1) else if (Zu.put c.qu e.Q (aN r now)).2=0 then (⟨e.L,(Zu.put c.qu e.Q (aN r now)).1,e.D⟩,[]) else (e,no r.id 2)
def jF (c:Cf)(e:Eg)(r:Rq)(now:Int):Eg×List An :=
 if E2 e.Q r then (e,no r.id 7)
 else if now<0∨4611686018427387904<=now then (e,no r.id 1)
 else if c.fT r.key<0 then (e,no r.id 6)
 else if c.b r.key<r.cost then (e,no r.id 5)
 else if Zu.of e.Q r.key=[]/\(bH e.L r.key r.cost now).2.2=true then (⟨(bH e.L r.key r.cost now).1,e.Q,e.D⟩,[⟨r.id,(bH e.L r.key r.cost now).2.1,0⟩])
 else bR c e r now
def serves (key now:Int):List It->Eg->Eg×List An
 | [],e=>(e,[])
 | x :: l,e=>if (bH e.L key x.cost now).2.2=true
   then ((serves key now l ⟨(bH e.L key x.cost now).1,(take e.Q x.id).1,e.D⟩).1,⟨x.id,(bH e.L key x.cost now).2.1,0⟩ :: (serves key now l ⟨(bH e.L key x.cost now).1,(take e.Q x.id).1,e.D⟩).2)
   else (e,[])
def mI (e:Eg)(key now:Int):Eg×List An:=serves key now (Zu.of e.Q key) e
def aQ (e:Eg)(x:Lz)(now:Int):Eg×List An:=if (Zw.put e.L x).2=0 then mI ⟨(Zw.put e.L x).1,e.Q,e.D⟩ x.key now else (e,[])
def bB (e:Eg)(key gen:Int):Eg×Int:=(⟨(Zw.bB e.L key gen).1,e.Q,if 0<=(Zw.bB e.L key gen).2 then e.D++[⟨key,(Zw.bB e.L key gen).2⟩] else e.D⟩,(Zw.bB e.L key gen).2)
def drop (e:Eg)(gen:Int):Eg:=⟨(Zw.drop e.L gen).1,e.Q,e.D⟩
def merge:List Int->List Int->List Int
 | [],b=>b
 | a :: l,[]=>a :: l
 | a :: l,b :: m=>if a<b then a :: merge l (b :: m) else if a=b then b :: merge l m else b :: merge (a :: l) m
def aR (e:Eg):List Int:=merge (Zu.aR e.Q) (Zz.aR e.D)
def aK (c:Cf)(e:Eg)(k:Int):Int:=if 0<=c.fT k then Zz.aF (Zz.of e.D k) (Zu.sum e.Q k) (c.b k) else 0
def dL (c:Cf)(e:Eg):List (Int×Int):=((aR e).map fun k=>(k,aK c e k)).filter fun p=>decide (0<p.2)
def all (l:List It)(fX:Int):List An:=l.map fun x=>⟨x.id,0,fX⟩
def ve (e:Eg)(now:Int):Eg×List An:=(⟨e.L,(Zu.ve e.Q now).1,e.D⟩,all (Zu.ve e.Q now).2 3)
def dt (Q:List It)(l:List It):List It:=l.foldl (fun s x=>(take s x.id).1) Q
def eC (e:Eg)(key fX:Int):Eg×List An:=(⟨e.L,dt e.Q (Zu.of e.Q key),e.D⟩,all (Zu.of e.Q key) fX)
def eI (e:Eg):Eg×List An:=(e0,all e.Q 8)
structure Ac where
 zY:Int
 r:Rq
 l:Lz
 fX:Int
 now:Int
def RO (c:Cf)(e:Eg)(a:Ac):Eg×List An×Int :=
 if a.zY % 10=4 then ((aQ e a.l a.now).1,(aQ e a.l a.now).2,0)
 else if a.zY % 10=5 then ((bB e a.l.key a.l.gen).1,[],(bB e a.l.key a.l.gen).2)
 else if a.zY % 10=6 then (drop e a.l.gen,[],0)
 else if a.zY % 10=7 then ((ve e a.now).1,(ve e a.now).2,0)
 else if a.zY % 10=8 then ((eC e a.l.key a.fX).1,(eC e a.l.key a.fX).2,0)
 else if a.zY % 10=9 then ((eI e).1,(eI e).2,0)
 else ((jF c e a.r a.now).1,(jF c e a.r a.now).2,0)
structure bu (c:Cf)(e:Eg):Prop where
 l:Zw.bu e.L
 q:Zu.bu c.qu e.Q
 nB:∀x∈e.Q,x.cJ<=4611686018427387904
open Zq (ae aj ai)
open Zp (iE aL At bS eu fN af aD)
open Zw (Lz)
open Zu (It)
def iH:iE An:=⟨3,fun x=>[.int .i64 x.id,.int .i64 x.gen,.int .i64 x.fX],az,by decide,fun _=>rfl,fun x u hu=>by simp at hu;rcases hu with rfl | rfl | rfl <;>rfl⟩
theorem at3 {w:World}{b o:Nat}{x:An}(h:At iH w b o x):w.cell? ⟨b,o,none⟩=some (.int .i64 x.id)/\w.cell? ⟨b,o+1,none⟩=some (.int .i64 x.gen)/\w.cell? ⟨b,o+2,none⟩=some (.int .i64 x.fX):=⟨h 0 _ rfl,h 1 _ rfl,h 2 _ rfl⟩
theorem Nl {w:World}{p:Option Addr}{l:List An}(h:aL iH w p l){j:Nat}(hj:j<l.length):∃b o,p=some ⟨b,o,none⟩/\At iH w b (o+j*3) (l.getD j az):=Zp.bj h hj
theorem yq:eu prog iH 60 45:=⟨underlying45,.agg #[.int .i64 0,.int .i64 0,.int .i64 0],24,by kernel_rfl,rfl,by decide⟩
def jt (w:World)(v:Value)(l:List An):Prop:=∃p c,v=.slice p l.length c/\aL iH w p l/\(p=none->c=0)
theorem oI (w:World):jt w (.slice none 0 0) []:=⟨none,0,rfl,.inl rfl,fun _=>rfl⟩
theorem qP {w:World}{B:Nat}{v:Value}{l:List An}(h:Zp.Own iH 60 B w v l):jt w v l:=by
 obtain⟨p,c,rfl,hl⟩:=h.gi;refine⟨p,c,rfl,hl,?_⟩;rintro rfl;rcases h.2 with ⟨e,-⟩ | ⟨g,cap,cur,e,-⟩
 ·simp only[Value.slice.injEq] at e
  exact e.2.2
 ·simp at e
def bD (B:Nat)(w:World)(p:Option Addr)(zs:List (Int×Int)):Prop :=
 zs=[]∨∃b o,p=some ⟨b,o,none⟩/\b<B/\∀i,i<zs.length ->
  w.cell? ⟨b,o+i*2,none⟩=some (.int .i64 (zs.getD i (0,0)).1)/\w.cell? ⟨b,o+i*2+1,none⟩=some (.int .i64 (zs.getD i (0,0)).2)
theorem bD.on {B:Nat}{w w':World}{p:Option Addr}{zs:List (Int×Int)}(h:bD B w p zs)(hb:Below B w w'):bD B w' p zs:=by
 rcases h with h | ⟨b,o,e,aC,hc⟩
 ·exact .inl h
 ·exact .inr ⟨b,o,e,aC,fun i hi=>⟨(hb.cell (p:=⟨b,_,none⟩) aC).trans (hc i hi).1,(hb.cell (p:=⟨b,_,none⟩) aC).trans (hc i hi).2⟩⟩
structure uw (cs:Array Value)(c:Cf)(p:Option Addr)(k:Nat):Prop where
 c0:cs[0]? =some (.int .i64 c.n)
 c1:cs[1]? =some (.int .i64 c.sk)
 c2:cs[2]? =some (.int .i64 c.tl)
 c3:cs[3]? =some (.int .i64 c.va)
 c4:cs[4]? =some (.int .i64 c.lo)
 c5:cs[5]? =some (.int .i64 c.he)
 c6:cs[6]? =some (.int .i64 c.ke)
 c7:cs[7]? =some (.int .i64 c.qu)
 c8:cs[8]? =some (.slice p c.zs.length k)
theorem uw.on {cs cs':Array Value}{c:Cf}{p:Option Addr}{k:Nat}(h:uw cs c p k)(he:∀i,i<9->cs'[i]? =cs[i]?):uw cs' c p k :=
 ⟨(he 0 (by decide)).trans h.c0,(he 1 (by decide)).trans h.c1,(he 2 (by decide)).trans h.c2,(he 3 (by decide)).trans h.c3,(he 4 (by decide)).trans h.c4,(he 5 (by decide)).trans h.c5,(he 6 (by decide)).trans h.c6,(he 7 (by decide)).trans h.c7,(he 8 (by decide)).trans h.c8⟩
def Ed (B:Nat)(w:World)(v:Nat)(c:Cf)(e:Eg):Prop:=B<=v/\∃cs p k yL yQ yD,w.heap[v]? =some (.cells cs 97 (0,0))/\uw cs c p k/\bD B w p c.zs /\
 cs[9]? =some yL/\Zw.Own 131 B w yL e.L/\cs[10]? =some (.int .i64 c.qu)/\cs[11]? =some yQ/\Zp.Own Zu.aN 113 B w yQ e.Q/\cs[12]? =some yD/\Zp.Own Zz.vx 244 B w yD e.D
structure aM (B:Nat)(w:World)(v:Nat)(c:Cf)(e:Eg)(w':World):Prop where
 ed:Ed B w' v c e
 only:∀g,g≠v->g<w.heap.size->w'.heap[g]? =w.heap[g]?
 below:Below B w w'
 size:w.heap.size<=w'.heap.size
 cells:∀i,i≠9->i≠11->i≠12->w'.cell? ⟨v,i,none⟩=w.cell? ⟨v,i,none⟩
section
variable {w w':World}{B v:Nat}{c:Cf}{e:Eg}
theorem Ed.lt (h:Ed B w v c e):v<w.heap.size:=by
 obtain⟨_,cs,p,k,yL,yQ,yD,h1,_⟩:=h;exact ae h1
theorem Ed.below (h:Ed B w v c e)(hB:B<=w.heap.size)(hb:Below w.heap.size w w'):Ed B w' v c e:=by
 obtain⟨h0,cs,p,k,yL,yQ,yD,h1,h2,h3,h4,h5,h6,h7,h8,h9,h10⟩:=h;exact⟨h0,cs,p,k,yL,yQ,yD,(hb.block v (ae h1)).trans h1,h2,h3.on (hb.mono hB),h4,h5.on hb,h6,h7,h8.on hb,h9,h10.on hb⟩
theorem aM.same (h:Ed B w v c e)(hB:B<=w.heap.size)(hb:Below w.heap.size w w'):aM B w v c e w':=⟨h.below hB hb,fun g _ hg=>hb.block g hg,hb.mono hB,hb.size,fun i _ _ _=>hb.cell (p:=⟨v,i,none⟩) h.lt⟩
theorem aM.trans {w2:World}{e' e2:Eg}(h:aM B w v c e' w')(k:aM B w' v c e2 w2):aM B w v c e2 w2 :=
 ⟨k.ed,fun g hn hg=>(k.only g hn (Nat.lt_of_lt_of_le hg h.size)).trans (h.only g hn hg),h.below.trans k.below,Nat.le_trans h.size k.size,fun i a b d=>(k.cells i a b d).trans (h.cells i a b d)⟩
theorem aM.on {w2:World}{e':Eg}(h:aM B w v c e' w')(hB:B<=w'.heap.size)(hb:Below w'.heap.size w' w2):aM B w v c e' w2:=h.trans (aM.same h.ed hB hb)
theorem gU {T TE:TypeId}{n k:Nat}{y:Value}{cells:List Value}{cs0:Array Value}{z:Nat×Nat}(h:w.ownsRow B T k y n cells)(hv:w.heap[v]? =some (.cells cs0 TE z))(hT:T≠TE)(ho:∀g,g≠v->g<w.heap.size->w'.heap[g]? =w.heap[g]?):w'.ownsRow B T k y n cells:=by
 refine⟨h.1,?_⟩;rcases h.2 with h0 | ⟨g,cap,cur,rfl,h1,h2,h3⟩
 ·exact .inl h0
 ·refine .inr ⟨g,cap,cur,rfl,h1,(ho g ?_ (ae h2)).trans h2,h3⟩
  rintro rfl;rw[hv] at h2;simp only[Option.some.injEq,Obj.cells.injEq] at h2;exact hT h2.2.1.symm
theorem Ed.wl (h:Ed B w v c e):Zl.Wl B w v 9 e.L:=by
 obtain⟨h0,cs,p,k,yL,yQ,yD,h1,h2,h3,h4,h5,h6,h7,h8,h9,h10⟩:=h;exact⟨h0,cs,_,yL,h1,h4,h5⟩
theorem Ed.qu (h:Ed B w v c e):Zt.Qu B w v 10 c.qu e.Q:=by
 obtain⟨h0,cs,p,k,yL,yQ,yD,h1,h2,h3,h4,h5,h6,h7,h8,h9,h10⟩:=h;exact⟨h0,cs,_,yQ,h1,h6,h7,h8⟩
theorem Ed.dm (h:Ed B w v c e):Zk.Dm B w v 12 e.D:=by
 obtain⟨h0,cs,p,k,yL,yQ,yD,h1,h2,h3,h4,h5,h6,h7,h8,h9,h10⟩:=h;exact⟨h0,cs,_,yD,h1,h9,h10⟩
theorem vM {cs cs':Array Value}{T T':TypeId}{z z':Nat×Nat}(h:w.heap[v]? =some (.cells cs T z))(h':w.heap[v]? =some (.cells cs' T' z')):cs=cs':=by
 rw[h] at h';simp only[Option.some.injEq,Obj.cells.injEq] at h';exact h'.1
theorem Ed.zZ {L:List Lz}(h:Ed B w v c e)(hs:Zl.cS B w v 9 L w'):aM B w v c ⟨L,e.Q,e.D⟩ w':=by
 obtain⟨h0,cs,p,k,yL,yQ,yD,h1,h2,h3,h4,h5,h6,h7,h8,h9,h10⟩:=h;obtain⟨cs',e1,e2⟩:=hs.row _ _ h1;obtain⟨-,yr,T2,y2,g1,g2,g3⟩:=hs.wl;obtain rfl:=vM e1 g1;exact⟨⟨h0,cs',p,k,y2,yQ,yD,e1,h2.on fun i hi=>e2 i (by omega),h3.on hs.below,g2,g3,(e2 10 (by decide)).trans h6,(e2 11 (by decide)).trans h7,gU h8 h1 (by decide) hs.only,(e2 12 (by decide)).trans h9,gU h10 h1 (by decide) hs.only⟩,hs.only,hs.below,hs.size,fun i a b d=>by rw[cell_of_row w' v i _ _ (0,0) e1,cell_of_row w v i _ _ (0,0) h1];exact e2 i (by omega)⟩
theorem Ed.sy {Q:List It}(h:Ed B w v c e)(hs:Zt.cS B w v 10 c.qu Q w'):aM B w v c ⟨e.L,Q,e.D⟩ w':=by
 obtain⟨h0,cs,p,k,yL,yQ,yD,h1,h2,h3,h4,h5,h6,h7,h8,h9,h10⟩:=h;obtain⟨cs',e1,e2⟩:=hs.row _ _ h1;obtain⟨-,yr,T2,y2,g1,g2,g3,g4⟩:=hs.qu;obtain rfl:=vM e1 g1;exact⟨⟨h0,cs',p,k,yL,y2,yD,e1,h2.on fun i hi=>e2 i (by omega),h3.on hs.below,(e2 9 (by decide)).trans h4,gU h5 h1 (by decide) hs.only,g2,g3,g4,(e2 12 (by decide)).trans h9,gU h10 h1 (by decide) hs.only⟩,hs.only,hs.below,hs.size,fun i a b d=>by rw[cell_of_row w' v i _ _ (0,0) e1,cell_of_row w v i _ _ (0,0) h1];exact e2 i (by omega)⟩
theorem Ed.E3 {D:List Nt}(h:Ed B w v c e)(hs:Zk.cS B w v 12 D w'):aM B w v c ⟨e.L,e.Q,D⟩ w':=by
 obtain⟨h0,cs,p,k,yL,yQ,yD,h1,h2,h3,h4,h5,h6,h7,h8,h9,h10⟩:=h;obtain⟨cs',e1,e2⟩:=hs.row _ _ h1;obtain⟨-,yr,T2,y2,g1,g2,g3⟩:=hs.dm;obtain rfl:=vM e1 g1;exact⟨⟨h0,cs',p,k,yL,yQ,y2,e1,h2.on fun i hi=>e2 i (by omega),h3.on hs.below,(e2 9 (by decide)).trans h4,gU h5 h1 (by decide) hs.only,(e2 10 (by decide)).trans h6,(e2 11 (by decide)).trans h7,gU h8 h1 (by decide) hs.only,g2,g3⟩,hs.only,hs.below,hs.size,fun i a b d=>by rw[cell_of_row w' v i _ _ (0,0) e1,cell_of_row w v i _ _ (0,0) h1];exact e2 i (by omega)⟩
theorem Ed.dW (h:Ed B w v c e):∃p k,bD B w p c.zs/\w.cell? ⟨v,0,none⟩=some (.int .i64 c.n)/\w.cell? ⟨v,1,none⟩=some (.int .i64 c.sk)/\w.cell? ⟨v,2,none⟩=some (.int .i64 c.tl)/\w.cell? ⟨v,3,none⟩=some (.int .i64 c.va)/\w.cell? ⟨v,4,none⟩=some (.int .i64 c.lo) /\
 w.cell? ⟨v,5,none⟩=some (.int .i64 c.he)/\w.cell? ⟨v,6,none⟩=some (.int .i64 c.ke)/\w.cell? ⟨v,7,none⟩=some (.int .i64 c.qu)/\w.cell? ⟨v,8,none⟩=some (.slice p c.zs.length k):=by
 obtain⟨h0,cs,p,k,yL,yQ,yD,h1,h2,h3,h4,h5,h6,h7,h8,h9,h10⟩:=h;have hc:∀i u,cs[i]? =some u->w.cell? ⟨v,i,none⟩=some u:=fun i u hu=>by rw[cell_of_row w v i _ _ (0,0) h1,hu]
 exact⟨p,k,h3,hc _ _ h2.c0,hc _ _ h2.c1,hc _ _ h2.c2,hc _ _ h2.c3,hc _ _ h2.c4,hc _ _ h2.c5,hc _ _ h2.c6,hc _ _ h2.c7,hc _ _ h2.c8⟩
end
end Zy
namespace Zm
open Go.RowKit Zj
theorem yu (n sk tl va lo he ke qu:Int)(p:Option Addr)(l c:Nat)(key:Int)(w:World)(h:aB key 0 524287=false∨(aB key 0 524287=true/\0<=key/\key<=524287/\(l:Int)<=key / 65536)) :
 Calls prog 83 #[.agg #[.int .i64 n,.int .i64 sk,.int .i64 tl,.int .i64 va,.int .i64 lo,.int .i64 he,.int .i64 ke,.int .i64 qu,.slice p l c],.int .i64 key] w fun e w'=>e=.returned (.tuple #[.agg #[.int .i64 0,.int .i64 0],.bool false])/\Below w.heap.size w w':=by
 rcases h with h | ⟨h,h1,VP,h2⟩
 all_goals
  go_enter func83,ntmps83
  go_wp2_with (go_at_call 134;refine(fC _ _).mono ?_;rintro e w' ⟨rfl,rfl⟩)
  refine bodyPost_ret (v:=.tuple #[.agg #[.int .i64 0,.int .i64 0],.bool false]) (by simp[results,results83,go_sem]) rfl ⟨rfl,(bK _ _).trans ((bK _ _).mono (by simp))⟩
theorem yv (n sk tl va lo he ke qu:Int)(b o l c k:Nat)(key x y:Int)(w:World)(h:aB key 0 524287=true)(h0:0<=key)(VF:key<=524287)(hk:key / 65536=(k:Int))(hl:(k:Int)<(l:Int))
 (g1:w.cell? ⟨b,o+k*2,none⟩=some (.int .i64 x)) (g2:w.cell? ⟨b,o+k*2+1,none⟩=some (.int .i64 y)) :
 Calls prog 83 #[.agg #[.int .i64 n,.int .i64 sk,.int .i64 tl,.int .i64 va,.int .i64 lo,.int .i64 he,.int .i64 ke,.int .i64 qu,.slice (some ⟨b,o,none⟩) l c],.int .i64 key] w fun e w'=>e=.returned (.tuple #[.agg #[.int .i64 x,.int .i64 y],.bool true])/\Below w.heap.size w w':=by
 have g3:=cp (bK w (.cells #[.int .i64 n,.int .i64 sk,.int .i64 tl,.int .i64 va,.int .i64 lo,.int .i64 he,.int .i64 ke,.int .i64 qu,.slice (some ⟨b,o,none⟩) l c] 24)) g1;have g4:=cp (bK w (.cells #[.int .i64 n,.int .i64 sk,.int .i64 tl,.int .i64 va,.int .i64 lo,.int .i64 he,.int .i64 ke,.int .i64 qu,.slice (some ⟨b,o,none⟩) l c] 24)) g2;have g5:=cp (bK _ (.cells #[.int .i64 0,.int .i64 0] 77)) g3;have g6:=cp (bK _ (.cells #[.int .i64 0,.int .i64 0] 77)) g4;clear g1 g2 g3 g4;go_enter func83,ntmps83
 go_wp2_with (go_at_call 134;refine(fC _ _).mono ?_;rintro e w' ⟨rfl,rfl⟩)
 refine bodyPost_ret (v:=.tuple #[.agg #[.int .i64 x,.int .i64 y],.bool true]) (by simp[results,results83,go_sem]) rfl ⟨rfl,(bK _ _).trans ((bK _ _).mono (by simp))⟩
theorem Aa (n sk tl va lo he ke qu:Int)(p:Option Addr)(l c:Nat)(key:Int)(w:World)(h:aB key 0 524287=false∨(aB key 0 524287=true/\0<=key/\key<=524287/\(l:Int)<=key / 65536)) :
 Calls prog 45 #[.agg #[.int .i64 n,.int .i64 sk,.int .i64 tl,.int .i64 va,.int .i64 lo,.int .i64 he,.int .i64 ke,.int .i64 qu,.slice p l c],.int .i64 key] w fun e w'=>e=.returned (.int .i64 (-1))/\Below w.heap.size w w':=by
 rcases h with h | ⟨h,h1,VP,h2⟩
 all_goals
  go_enter func45,ntmps45
  go_wp2_with (go_at_call 43;refine(lS _ _).mono ?_;rintro e w' ⟨rfl,rfl⟩)
  go_ret;exact⟨rfl,bK _ _⟩
theorem Ab (n sk tl va lo he ke qu:Int)(p:Option Addr)(l c k:Nat)(key:Int)(w:World)(h:aB key 0 524287=true)(h0:0<=key)(VF:key<=524287)(hk:key / 65536=(k:Int))(hl:(k:Int)<(l:Int)) :
 Calls prog 45 #[.agg #[.int .i64 n,.int .i64 sk,.int .i64 tl,.int .i64 va,.int .i64 lo,.int .i64 he,.int .i64 ke,.int .i64 qu,.slice p l c],.int .i64 key] w fun e w'=>e=.returned (.int .i64 (k:Int))/\Below w.heap.size w w':=by
 go_enter func45,ntmps45
 go_wp2_with (go_at_call 43;refine(lS _ _).mono ?_;rintro e w' ⟨rfl,rfl⟩)
 go_ret;exact⟨fq hk,bK _ _⟩
end Zm
namespace Zy
open Zq (ae aj ai)
open Zp (iE aL At bS eu fN af aD aA ag)
open Zw (Lz bH)
open Zu (It take)
open Zz (Nt)
open Zv (spot eL cP)
theorem cQ (w:World)(o:Obj):Below w.heap.size w (w.alloc o):=(Below.refl _ w).alloc (Nat.le_refl _) o
theorem qQ (id fX:Int)(w:World):Calls prog 46 #[.int .i64 id,.int .i64 fX] w fun e w'=>∃v,e=.returned v/\jt w' v (no id fX)/\Below w.heap.size w w':=by
 go_enter func46,ntmps46
 go_wp2;go_ret;exact⟨_,rfl,⟨_,1,rfl,Zp.vt (E:=iH) (x:=⟨id,0,fX⟩) (heap_alloc_new w _),fun h=>by cases h⟩,cQ _ _⟩
theorem vN {B v:Nat}{c:Cf}{e:Eg}{w:World}(h:Ed B w v c e)(hl:e.Q.length<=1000)(id:Int) :
 Calls prog 44 #[.pointer (some ⟨v,0,none⟩),.int .i64 id] w fun e' w'=>e'=.returned (.bool (decide (0<=Zu.au e.Q id)))/\Below w.heap.size w w':=by
 obtain⟨p,d,c1,hr,-,-⟩:=h.qu.cell;generalize e.Q=l at *;have oq:=hid (show Zu.au l id=spot (fun x=>x.id==id) l from rfl)
 generalize Zu.au l id=R at oq ⊢;have HR:=hid hr;have HB:=hid (Below.refl w.heap.size w);simp only[Nat.reduceAdd] at c1;clear hr h;go_enter func44,ntmps44
 go_wp2;go_loop [5] (fun i=>∃j:Nat,j<=l.length/\i=.int .i64 (j:Int)/\Hid (∀i,i<j->(l.getD i Zu.z).id≠id)) (fun i=>l.length-(intOf i).toNat)
 case atStart=>exact ⟨0,by omega,rfl,fun i hi=>by omega⟩
 case round =>
  obtain⟨j,hj,rfl,hne⟩:=hrel;by_cases aC:j<l.length
  ·obtain ⟨b,o,rfl,hat⟩:=Zu.bj HR.out aC
   obtain⟨k0,-⟩:=Zu.xu hat;have bE:(j:Int)<(l.length:Int):=by omega
   by_cases hk:(l.getD j Zu.z).id=id
   ·have HE:=hid (show R=(j:Int) by rw[oq.out];exact eL _ Zu.z l j aC (fun i hi=>by simpa using hne.out i hi) (by simpa using hk))
    rw[hk] at k0;clear hne oq HR hk hat;go_wp2;go_ret;exact⟨by rw[HE.out];simp,HB.out⟩
   ·have HN:Hid (∀i,i<j+1->(l.getD i Zu.z).id≠id):=fun i hi=>by
     by_cases e:i=j
     ·rw [e];exact hk
     ·exact hne.out i (by omega)
    generalize(l.getD j Zu.z).id=q at k0 hk;clear hne oq HR hat;go_wp2;go_round
    case rel=>exact ⟨j+1,by omega,by go_num,HN⟩
    case measure=>simp only[intOf];omega
  ·have bE:¬(j:Int)<(l.length:Int):=by omega
   have HE:=hid (show R= -1 by rw[oq.out];exact cP _ Zu.z l (fun i hi=>by simpa using hne.out i (by omega)))
   clear hne oq HR;go_wp2;go_ret;exact⟨by rw[HE.out];simp,HB.out⟩
theorem Ad (l:List It)(fX:Int):(all l fX).length=l.length:=by simp[all]
theorem Nn {l:List It}{j:Nat}(fX:Int)(h:j<l.length):all (l.take (j+1)) fX=all (l.take j) fX++[⟨(l.getD j Zu.z).id,0,fX⟩]:=by
 unfold all;rw[aA Zu.z h];simp
theorem Cb {p:Option Addr}{d:Nat}{l:List It}{w:World}(h:aL Zu.aN w p l)(hl:l.length<=1000)(fX:Int) :
 Calls prog 37 #[.slice p l.length d,.int .i64 fX] w fun e' w'=>∃v,e'=.returned v/\jt w' v (all l fX)/\Below w.heap.size w w':=by
 have HL:=hid h;have HE:=hid (show all l fX=all (l.take l.length) fX by rw[List.take_length])
 clear h;go_enter func37,ntmps37
 go_wp2;go_loopw [5,6] (fun y i wr=>∃(j:Nat) (q:Option Addr) (d:Nat),j<=l.length/\i=.int .i64 (j:Int)/\y=.slice q j d/\Hid (Zp.Own iH 60 w.heap.size wr y (all (l.take j) fX))/\Below w.heap.size w wr) (fun _ i _=>l.length-(intOf i).toNat)
 case atStart=>exact ⟨0,none,0,by omega,rfl,rfl,hid (Zp.Own.none _ _ _ _),Below.refl _ _⟩
 case round =>
  obtain⟨j,q,d,hj,rfl,rfl,ax,aW⟩:=hrel;have cA:=hid aW;by_cases aC:j<l.length
  ·obtain ⟨b,o,rfl,ha⟩:=Zu.bj (HL.out.below aW) aC
   obtain⟨k0,-⟩:=Zu.xu ha;have bE:(j:Int)<(l.length:Int):=by omega
   have HT:=hid (Nn fX aC);have HN:=hid (show(all (l.take j) fX).length=j by rw[Ad];simp;omega)
   clear aW ha HL HE;generalize(l.getD j Zu.z).id=x at *;generalize all (l.take j) fX=L at *;go_wp2_with (at_builtin;refine Zp.push yq rfl _ _ rfl w wr (.slice q j d) rfl L j HN.out ax.out cA.out (cQ _ _) wr.heap.size ⟨x,0,fX⟩ rfl (heap_alloc_new _ _) (by omega) ?_;intro p4 c4 w4 R4 B4)
   go_roundw
   case rel=>exact ⟨j+1,p4,c4,by omega,by go_num,rfl,by rw[HT.out];exact R4,B4⟩
   case measure=>simp only[intOf];omega
  ·have bE:¬(j:Int)<(l.length:Int):=by omega
   have HO := hid (show jt wr (.slice q j d) (all l fX) by rw[HE.out];have e:j=l.length:=by omega
                                                           subst e;exact qP ax.out)
   clear ax HE HL;go_wp2;refine bodyPost_ret (v:=.slice q j d) (by simp[results,results37,go_sem]) rfl ?_
   exact⟨_,rfl,HO.out,cA.out⟩
theorem Ik {α:Type}{E:iE α}{T:TypeId}{P:Program}{ST:TypeId}(L:eu P E T ST){u:World}{ops:Array Oper}{rest:List Oper}{o:Oper}{a:Act}{Q:Exit->Act->World->Prop}(hgd:o.guard=none)(s y:Operand)
 (ho:o.op=.call { callee:=.builtin .append,args:= #[s,y],argTypes:= #[ST,ST] })
 (C:Nat) (wr:World) (v:Value) (hs:a.eval s=v) (l:List α) (n:Nat) (hn:l.length=n) (ax:Zp.Own E T C wr v l) (hC:C<=wr.heap.size) (hu:Below wr.heap.size wr u)
 (g:Nat) (x:α) {tg:TypeId} {fr:Nat×Nat} (hy:a.eval y=.slice (some ⟨g,0,none⟩) 1 1) (hg:u.heap[g]? =some (.cells (E.cs x).toArray tg fr)) (aT:n<=100000)
 (h:∀p c w',Hid (Zp.Own E T C w' (.slice p (n+1) c) (l++[x]))->bS [T] u w'->Below C u w'->wpList P ops Q rest (a.put o.dst (.slice p (n+1) c)) w'):wpList P ops Q (o :: rest) a u:=by
 subst hn;obtain⟨zv,Ma,Ps,S4,hby⟩:=L.info;obtain⟨i0,hi,hz0,hz1,hz2⟩:=info_parts Ps;have lU:(l.length+1)*Ma<=100001*1000:=Nat.mul_le_mul (by omega) hby
 have hown':=ax.on hu;refine wpList_append_own _ hgd s y ST ho C T i0 zv E.n Ma L.sl hi hz0 hz1 hz2 S4 E.pos v l.length (Zp.cells E l) hs hown' ⟨g,0,none⟩ 1 1 (E.cs x) hy (by rw[E.len,Nat.one_mul]) (fun j z hz=>World.news_of_block hg j z (by simpa using hz)) (E.one x) (by unfold maxLen;omega) (by omega) (Nat.le_trans hC hu.size) ?_
 intro v' w' ko hg2 _;have hb2:Below C u w':=(Below.refl C u).grown hg2 (Nat.le_trans hC hu.size) (fun k hk=>(World.ownsRow.lt ax k hk).1)
 have R:Zp.Own E T C w' v' (l++[x]):=by
  unfold Zp.Own;rw[Zp.lT,List.length_append];exact ko
 have K:bS [T] u w':=⟨hg2.size,fun k ob e hob=>by
  refine(hg2.block k (aD e) fun ek=> ?_).trans e
  rcases hown'.2 with ⟨rfl,-⟩ | ⟨k',cap,cur,rfl,-,h2,-⟩
  ·simp [Value.ownBlock] at ek
  ·simp only[Value.ownBlock,Option.some.injEq] at ek
   subst ek;rw[h2] at e;exact hob _ _ _ (Option.some.inj e).symm (by simp)⟩
 obtain⟨p,c,rfl⟩:∃p c,v'=.slice p (l.length+1) c:=by
  rcases ko.2 with ⟨_,h0⟩ | ⟨g,cap,cur,rfl,_⟩
  ·omega
  ·exact ⟨_,cap,rfl⟩
 exact h p c w' R K hb2
theorem Ed.kept {w w':World}{B v:Nat}{c:Cf}{e:Eg}(h:Ed B w v c e)(hk:bS [60] w w')(hb:Below B w w'):Ed B w' v c e:=by
 obtain⟨h0,cs,p,k,yL,yQ,yD,h1,h2,h3,h4,h5,h6,h7,h8,h9,h10⟩:=h;refine⟨h0,cs,p,k,yL,yQ,yD,hk.block v _ _ _ h1 (by decide),h2,h3.on hb,h4,?_,h6,h7,h8.kept hk (by decide),h9,h10.kept hk (by decide)⟩
 refine⟨h5.1,?_⟩;rcases h5.2 with h0 | ⟨g,cap,cur,rfl,k1,k2,k3⟩
 ·exact .inl h0
 ·exact .inr ⟨g,cap,cur,rfl,k1,hk.block g _ _ _ k2 (by decide),k3⟩
theorem aM.kept {w w1 w':World}{B v:Nat}{c:Cf}{e:Eg}(h:aM B w v c e w1)(hk:bS [60] w1 w')(hb:Below w.heap.size w1 w')(hB:B<=w.heap.size):aM B w v c e w' :=
 ⟨h.ed.kept hk (hb.mono hB),fun g hn hg=>(hb.block g hg).trans (h.only g hn hg),h.below.trans (hb.mono hB),Nat.le_trans h.size hk.size,fun i a b d=>by
  obtain⟨_,cs,_,_,_,_,_,h1,_⟩:=h.ed;exact(World.cell?_of_block (a:=⟨v,i,none⟩) ((hk.block v _ _ _ h1 (by simp)).trans h1.symm)).trans (h.cells i a b d)⟩
theorem nC (key now:Int):∀(l:List It)(x:It)(e:Eg),serves key now (l++[x]) e =
 if (serves key now l e).2.length=l.length then
  (if (bH (serves key now l e).1.L key x.cost now).2.2=true then (⟨(bH (serves key now l e).1.L key x.cost now).1,(take (serves key now l e).1.Q x.id).1,(serves key now l e).1.D⟩,(serves key now l e).2++[⟨x.id,(bH (serves key now l e).1.L key x.cost now).2.1,0⟩])
    else serves key now l e)
  else serves key now l e
 | [],x,e=>by
   by_cases h:(bH e.L key x.cost now).2.2=true <;>simp [serves,h]
 | y :: l,x,e=>by
   simp only[List.cons_append,serves];by_cases h:(bH e.L key y.cost now).2.2=true
   ·simp only[h,if_true,List.length_cons,Nat.succ.injEq]
    rw[nC key now l x];split <;>(try split) <;>simp_all
   ·simp [h]
theorem vO (key now:Int):∀(l:List It)(e:Eg),(serves key now l e).2.length<=l.length
 | [],e=>by simp[serves]
 | y :: l,e=>by
   simp only[serves];split
   ·have:=vO key now l ⟨(bH e.L key y.cost now).1,(take e.Q y.id).1,e.D⟩
    simp;omega
   ·simp
theorem nD (key now:Int):∀(l m:List It)(e:Eg),(serves key now l e).2.length<l.length->serves key now (l++m) e=serves key now l e
 | [],m,e,h=>by simp at h
 | y :: l,m,e,h=>by
   simp only[List.cons_append,serves] at h ⊢;split
   ·rename_i hs
    rw[if_pos hs] at h;simp only[List.length_cons,Nat.add_lt_add_iff_right] at h;rw[nD key now l m _ h]
   ·rfl
end Zy
namespace Zn
open Zx (Rw aq ak af)
open Zv (dK ar)
open Zp (aL bS cells)
open Zy (An iH yq)
open Zq (ae)
def gO (k:Nat):List Value:=List.replicate k (.int .i64 0)
def gA (C:Nat)(w:World)(v:Value)(l:List An):Prop :=
 (v=.slice none 0 0/\l=[])∨∃g cap,v=.slice (some ⟨g,0,none⟩) l.length cap/\C<=g/\l.length<=cap/\cap<=maxLen/\w.heap[g]? =some (.cells (cells iH l++gO ((cap-l.length)*3)).toArray 60 (0,0))
theorem gA.none (C:Nat)(w:World):gA C w (.slice none 0 0) []:=.inl ⟨rfl,rfl⟩
section
variable {C:Nat}{w w':World}{v:Value}{l:List An}
theorem gA.bM (h:gA C w v l)(hk:∀g,C<=g->(∃cs,w.heap[g]? =some (.cells cs 60 (0,0)))->w'.heap[g]? =w.heap[g]?):gA C w' v l:=by
 rcases h with h | ⟨g,cap,e,h1,h2,h3,h4⟩
 ·exact .inl h
 ·exact .inr ⟨g,cap,e,h1,h2,h3,(hk g h1 ⟨_,h4⟩).trans h4⟩
theorem gA.on (h:gA C w v l)(hb:Below w.heap.size w w'):gA C w' v l:=h.bM fun _ _ ⟨_,hg⟩=>hb.block _ (ae hg)
theorem gA.ic (h:gA C w v l):w.ownsRow C 60 3 v l.length (cells iH l):=by
 have hl:(cells iH l).length=l.length*3:=Zp.lq l;refine⟨hl,?_⟩;rcases h with ⟨rfl,rfl⟩ | ⟨g,cap,e,h1,h2,h3,h4⟩
 ·exact .inl ⟨rfl,rfl⟩
 ·refine .inr ⟨g,cap,_,e,h1,h4,h2,h3,?_,?_⟩
  ·simp only[List.size_toArray,List.length_append,hl,gO,List.length_replicate,<-Nat.add_mul]
   rw[Nat.add_sub_cancel' h2]
  ·rw [<-hl]
   exact List.take_left
theorem gA.jf (h:gA C w v l):Zy.jt w v l:=Zy.qP (B:=C) h.ic
end
theorem V9:(prog.info? 60).map (fun i=>(i.zero,i.size,i.bytes))=some (some (.agg #[.int .i64 0,.int .i64 0,.int .i64 0]),3,24):=by kernel_rfl
theorem kL (n:Nat):Builtin.zeroCells (Value.agg #[.int .i64 0,.int .i64 0,.int .i64 0]).cells n=(gO (n*3)).toArray:=by
 show Builtin.zeroCells #[.int .i64 0,.int .i64 0,.int .i64 0] n=_
 unfold Builtin.zeroCells gO;refine Array.ext (by simp) fun i h1 h2=> ?_
 simp only[Array.getElem_map,Array.getElem_range,List.getElem_toArray,List.getElem_replicate];have h3:i % 3<3:=Nat.mod_lt _ (by decide)
 show #[Value.int .i64 0,.int .i64 0,.int .i64 0][i % 3]! =_
 generalize i % 3=k at h3
 match k,h3 with
 | 0,_=>rfl
 | 1,_=>rfl
 | 2,_=>rfl
theorem Np {α:Type}{l:List α}{j:Nat}(h:j<l.length)(d:α):l.getD j d∈l:=by simp[List.getD,h]
structure gR (w w':World):Prop where
 nz:∀{b o:Nat} {k:IntKind} {x:Int} (o':Nat),w.cell? ⟨b,o,none⟩=some (.int k x)->x≠0->o'<=o->w'.cell? ⟨b,o',none⟩=w.cell? ⟨b,o',none⟩
 sl:∀{b o m d:Nat} {p:Option Addr},w.cell? ⟨b,o,none⟩=some (.slice p m d)->w'.heap[b]? =w.heap[b]?
theorem gR.qR {w w':World}(hk:∀b,b<w.heap.size->w'.heap[b]? =w.heap[b]?):gR w w' :=
 ⟨fun {b _ _ _} o' h _ _=>World.cell?_of_block (a:=⟨b,o',none⟩) (hk b (World.block_lt_of_cell? _ _ h)),fun {b _ _ _ _} h=>hk b (World.block_lt_of_cell? _ _ h)⟩
theorem gR.rows {w w':World}(h:gR w w'){p:Option Addr}{l:List Rw}(ha:∀r∈l,∀x∈r.out,1<=x.2)(hl:ar w p l):ar w' p l:=by
 rcases hl with hl | ⟨b,o,e1,hc⟩
 ·exact .inl hl
 ·refine .inr ⟨b,o,e1,fun j hj=> ?_⟩
  obtain⟨k0,k1,k2,q,d,k3,k4⟩:=hc j hj;have he:=h.sl k3;have hh:∀i v,w.cell? ⟨b,i,none⟩=some v->w'.cell? ⟨b,i,none⟩=some v:=fun i v hv=>(World.cell?_of_block (a:=⟨b,i,none⟩) he).trans hv
  refine⟨hh _ _ k0,hh _ _ k1,hh _ _ k2,q,d,hh _ _ k3,?_⟩;rcases k4 with k4 | ⟨b2,o2,e2,h2⟩
  ·exact .inl k4
  ·refine .inr ⟨b2,o2,e2,fun i hi=> ?_⟩
   have h1:=ha (l.getD j aq) (Np hj _) ((l.getD j aq).out.getD i (0,0)) (Np hi _);obtain⟨k0,k1⟩:=h2 i hi;have hz:((l.getD j aq).out.getD i (0,0)).2≠0:=by omega
   exact⟨(h.nz _ k1 hz (Nat.le_succ _)).trans k0,(h.nz _ k1 hz (Nat.le_refl _)).trans k1⟩
theorem Qp {l:List An}{i:Nat}{u:Value}(h:(cells iH l)[i]? =some u):∃x,u=.int .i64 x:=by
 have hm:=List.mem_of_getElem? h;simp only[cells,List.mem_flatMap] at hm;obtain⟨x,-,hx⟩:=hm;simp only[iH,List.mem_cons,List.not_mem_nil,or_false] at hx;rcases hx with rfl | rfl | rfl
 ·exact ⟨_,rfl⟩
 ·exact ⟨_,rfl⟩
 ·exact ⟨_,rfl⟩
theorem JR {w w':World}{g n m:Nat}{l k:List An}(h1:w.heap[g]? =some (.cells (cells iH l++gO n).toArray 60 (0,0)))(h2:w'.heap[g]? =some (.cells (cells iH (l++k)++gO m).toArray 60 (0,0)))(hk:∀b,b≠g->w'.heap[b]? =w.heap[b]?):gR w w':=by
 constructor
 ·intro b o kk x o' h hx ho
  by_cases hb:b=g
  ·subst hb
   rw[cell_of_row _ b _ _ _ (0,0) h1] at h ⊢;rw[cell_of_row _ b _ _ _ (0,0) h2];simp only[List.getElem?_toArray] at h ⊢;have aC:o<(cells iH l).length:=by
    refine Nat.lt_of_not_le fun hle=> ?_
    rw[List.getElem?_append_right hle] at h;have:=List.mem_of_getElem? h;simp only[gO,List.mem_replicate,Value.int.injEq] at this;exact hx this.2.2
   have bE:o'<(cells iH l).length:=by omega
   rw[Zp.jD,List.append_assoc,List.getElem?_append_left bE,List.getElem?_append_left bE]
  ·exact World.cell?_of_block (a:=⟨b,o',none⟩) (hk b hb)
 ·intro b o m' d p h
  by_cases hb:b=g
  ·subst hb
   rw[cell_of_row _ b _ _ _ (0,0) h1] at h;simp only[List.getElem?_toArray] at h
   exfalso
   by_cases aC:o<(cells iH l).length
   ·rw [List.getElem?_append_left aC] at h
    obtain⟨x,hx⟩:=Qp h;simp at hx
   ·rw [List.getElem?_append_right (by omega)] at h
    have:=List.mem_of_getElem? h;simp[gO] at this
  ·exact hk b hb
theorem yw {u:World}(ty:TypeId)(C:Nat)(v:Value)(l:List An)(ax:gA C u v l)(hC:C<=u.heap.size)(y0:Value)(k:List An)(hk:Zy.jt u y0 k)(aT:l.length+k.length<=100000) :
 ∃v' w',(Builtin.append_ #[45,45] ty #[v,y0]).run prog u=.ok v' w'/\gA C w' v' (l++k)/\bS [60] u w'/\Below C u w'/\gR u w'/\(∀b,b<u.heap.size->(∀m d,v≠.slice (some ⟨b,0,none⟩) m d)->w'.heap[b]? =u.heap[b]?)/\∀b m d,v'=.slice (some ⟨b,0,none⟩) m d->(∃m' d',v=.slice (some ⟨b,0,none⟩) m' d')∨u.heap.size<=b:=by
 obtain⟨i0,hi,hz0,hz1,hz2⟩:=info_parts V9;have Nd:=yq.sl;obtain⟨p,c,rfl,hl,hn⟩:=hk;have vP:∀l:List An,(cells iH l).length=l.length*3:=fun l=>Zp.lq l
 cases p with
 | none =>
   have Ql:k=[]:=by
    rcases hl with hl | ⟨_,_,e,_⟩
    ·exact hl
    ·simp at e
   subst Ql;rw[hn rfl];exact⟨v,u,run_append_owned_none (P:=prog) (w:=u) C _ ty _ i0 3 Nd hi v l.length (cells iH l) ax.ic,by rw[List.append_nil];exact ax,bS.cw (Below.refl _ u),Below.refl _ u,gR.qR fun _ _=>rfl,fun _ _ _=>rfl,fun b m d h=>.inl ⟨m,d,h⟩⟩
 | some ad =>
   have hnews:∀j x,(cells iH k)[j]? =some x->u.cell? (ad.add j)=some x:=by
    intro j x hx;rcases hl with hl | ⟨b,o',e,hc⟩
    ·subst hl;simp[cells] at hx
    ·simp only[Option.some.injEq] at e
     subst e;obtain⟨h1,h2⟩:=Zp.xW (E:=iH) k j x hx;have:=hc _ h1 _ _ h2;rw[Zq.gM];have e3:o'+j / iH.n*iH.n+j % iH.n=o'+j:=by rw[Nat.add_assoc,Nat.mul_comm,Nat.div_add_mod]
     rwa [e3] at this
   have Ts:=Zp.xV (E:=iH) k;by_cases hv0:v=.slice none 0 0/\k=[]
   ·obtain ⟨rfl,rfl⟩:=hv0
    have hl0:l=[]:=by
     rcases ax with ⟨-,e⟩ | ⟨g,cap,e,-⟩
     ·exact e
     ·simp at e
    subst hl0;obtain⟨v',w',hr,-,h2,h3⟩:=run_append_own (P:=prog) u C _ ty _ i0 _ 3 24 Nd hi hz0 hz1 hz2 rfl (by decide) (.slice none 0 0) 0 [] ax.ic ad 0 c [] (by simp) (by simp) (by simp) (by unfold maxLen;omega) (by omega) hC
    have hv:v'=.slice none 0 0:=h3.2 ⟨rfl,rfl⟩;subst hv;have hb:∀b,b<u.heap.size->w'.heap[b]? =u.heap[b]? :=fun b hb=>h2.block b hb (by simp[Value.ownBlock])
    exact⟨_,_,hr,gA.none C w',⟨h2.size,fun g ob e _=>(hb g (Zp.aD e)).trans e⟩,⟨h2.os,h2.tape,h2.output,h2.size,fun b hbb=>hb b (Nat.lt_of_lt_of_le hbb hC)⟩,gR.qR hb,fun b h _=>hb b h,fun b m d h=>by simp at h⟩
   ·rcases ax with ⟨rfl,rfl⟩ | ⟨g,cap,rfl,h1,h2,h3,h4⟩
    ·have Ql:0<k.length:=List.length_pos_iff.2 fun e=>hv0 ⟨rfl,e⟩
     have hr:=run_append_nil (P:=prog) u _ ty _ i0 _ Nd hi hz0 ad k.length c (cells iH k) (by rw[vP,hz1]) hnews Ql (by omega) (by rw[hz2];omega)
     rw[kL] at hr;have JO:=grownCap_ge u k.length 0 60;refine⟨_,_,hr,.inr ⟨u.heap.size,_,rfl,hC,by simpa using JO,grownCap_le_maxLen u k.length 0 _ (by unfold maxLen;omega),?_⟩,bS.cw ((Below.refl _ u).drew.alloc (Nat.le_refl _) _),((Below.refl _ u).drew.alloc (Nat.le_refl _) _).mono hC,gR.qR fun b hb=>heap_alloc_old u.drew _ hb,fun b hb _=>heap_alloc_old u.drew _ hb,fun b m d h=>.inr (by simp only[Value.slice.injEq,Option.some.injEq,Addr.mk.injEq] at h;omega)⟩
     rw[show u.heap.size=u.drew.heap.size from rfl,heap_alloc_new u.drew]
     simp
    ·by_cases hroom:l.length+k.length<=cap
     ·have hr:=run_append_room (P:=prog) u _ ty _ i0 Nd hi g l.length cap _ h4 ad k.length c (cells iH k) (by rw[vP,hz1]) hnews Ts hroom (by simp only[hz1,vP,List.size_toArray,List.length_append,gO,List.length_replicate,<-Nat.add_mul];refine Nat.mul_le_mul_right _ ?_;omega)
      have he:((cells iH l++gO ((cap-l.length)*3)).toArray.toList.take (l.length*i0.size)++cells iH k++(cells iH l++gO ((cap-l.length)*3)).toArray.toList.drop (l.length*i0.size+(cells iH k).length))=cells iH (l++k)++gO ((cap-(l++k).length)*3):=by
       rw[hz1,<-vP l];simp only[List.take_left,Zp.jD,List.append_assoc];rw[List.drop_append,List.drop_eq_nil_of_le (by omega),List.nil_append]
       simp only[gO,List.drop_replicate,Nat.add_sub_cancel_left,vP,List.length_append];rw[<-Nat.sub_mul,Nat.sub_sub]
      rw[he] at hr;have hg':=setRow_heap u g _ (cells iH (l++k)++gO ((cap-(l++k).length)*3)).toArray _ _ h4;have ux:∀b,b≠g->(u.setRow g (cells iH (l++k)++gO ((cap-(l++k).length)*3)).toArray).heap[b]? =u.heap[b]? :=fun b hb=>setRow_other u g b _ hb
      refine⟨_,_,hr,.inr ⟨g,cap,by rw[List.length_append],h1,by rw[List.length_append];exact hroom,h3,hg'⟩,⟨by simp,fun b ob e hob=> ?_⟩,⟨rfl,rfl,rfl,by simp,fun b hb=>ux b (by omega)⟩,JR h4 hg' ux,fun b _ hn=>ux b fun e=>hn l.length cap (by rw[e]),fun b m d h=>.inl ⟨l.length,cap,by(simp only[Value.slice.injEq,Option.some.injEq,Addr.mk.injEq] at h;rw[h.1.1])⟩⟩
      refine(ux b ?_).trans e;rintro rfl;rw[h4] at e;exact hob _ _ _ (Option.some.inj e).symm (by simp)
     ·have holds:∀j x,(cells iH l)[j]? =some x->u.cell? ((⟨g,0,none⟩:Addr).add j)=some x:=by
       intro j x hx;rw[Zq.gM,cell_of_row _ g _ _ _ (0,0) h4];simp only[List.getElem?_toArray,Nat.zero_add];rw[List.getElem?_append_left (List.getElem?_eq_some_iff.1 hx).1];exact hx
      have hr:=run_append_grow (P:=prog) u _ ty _ i0 _ Nd hi hz0 ⟨g,0,none⟩ l.length cap (cells iH l) (by rw[vP,hz1]) holds ad k.length c (cells iH k) (by rw[vP,hz1]) hnews (by omega) (by omega) (growslice_fits (by omega) (by rw[hz2];omega))
      rw[kL] at hr;have JO:=grownCap_ge u (l.length+k.length) cap 60;refine⟨_,_,hr,.inr ⟨u.heap.size,_,by rw[List.length_append],hC,by rw[List.length_append];exact JO,grownCap_le_maxLen u (l.length+k.length) cap _ (by unfold maxLen;omega),?_⟩,bS.cw ((Below.refl _ u).drew.alloc (Nat.le_refl _) _),((Below.refl _ u).drew.alloc (Nat.le_refl _) _).mono hC,gR.qR fun b hb=>heap_alloc_old u.drew _ hb,fun b hb _=>heap_alloc_old u.drew _ hb,fun b m d h=>.inr (by simp only[Value.slice.injEq,Option.some.injEq,Addr.mk.injEq] at h;omega)⟩
      rw[show u.heap.size=u.drew.heap.size from rfl,heap_alloc_new u.drew]
      simp[Zp.jD]
theorem Cc {u:World}(ty:TypeId)(C:Nat)(v:Value)(l:List An)(ax:gA C u v l)(hC:C<=u.heap.size)(y0:Value)(k:List An)(hk:Zy.jt u y0 k)(aT:l.length+k.length<=100000) :
 ∃v' w',(Builtin.append_ #[45,45] ty #[v,y0]).run prog u=.ok v' w'/\gA C w' v' (l++k)/\bS [60] u w'/\Below C u w'/\gR u w':=by
 obtain⟨v',w',h1,h2,h3,h4,h5,-⟩:=yw ty C v l ax hC y0 k hk aT;exact⟨v',w',h1,h2,h3,h4,h5⟩
theorem Qq {u:World}{ops:Array Oper}{rest:List Oper}{o:Oper}{a:Act}{Q:Exit->Act->World->Prop}(hgd:o.guard=none)(s y:Operand)
 (ho:o.op=.call { callee:=.builtin .append,args:= #[s,y],argTypes:= #[45,45] })
 (C:Nat) (v:Value) (hs:a.eval s=v) (l:List An) (ax:gA C u v l) (hC:C<=u.heap.size) (y0:Value) (hy:a.eval y=y0) (k:List An) (hk:Zy.jt u y0 k) (aT:l.length+k.length<=100000)
 (h:∀v' w',Hid (gA C w' v' (l++k))->bS [60] u w'->Below C u w'->gR u w'->wpList prog ops Q rest (a.put o.dst v') w'):wpList prog ops Q (o :: rest) a u:=by
 obtain⟨v',w',hr,h1,h2,h3,h4⟩:=Cc o.type C v l ax hC y0 k hk aT;exact Lib.wpList_append_run u hgd s y _ _ ho _ _ hs hy _ _ hr (h v' w' (hid h1) h2 h3 h4)
theorem Wa {u:World}{ops:Array Oper}{rest:List Oper}{o:Oper}{a:Act}{Q:Exit->Act->World->Prop}(hgd:o.guard=none)(s y:Operand)
 (ho:o.op=.call { callee:=.builtin .append,args:= #[s,y],argTypes:= #[45,45] })
 (C:Nat) (v:Value) (hs:a.eval s=v) (l:List An) (ax:gA C u v l) (hC:C<=u.heap.size) (y0:Value) (hy:a.eval y=y0) (k:List An) (hk:Zy.jt u y0 k) (aT:l.length+k.length<=100000)
 (h:∀v' w',Hid (gA C w' v' (l++k))->Hid (bS [60] u w')->Hid (Below C u w')->Hid (∀b,b<u.heap.size->(∀m d,v≠.slice (some ⟨b,0,none⟩) m d)->w'.heap[b]? =u.heap[b]?)->Hid (∀b m d,v'=.slice (some ⟨b,0,none⟩) m d->(∃m' d',v=.slice (some ⟨b,0,none⟩) m' d')∨u.heap.size<=b)->wpList prog ops Q rest (a.put o.dst v') w'):wpList prog ops Q (o :: rest) a u:=by
 obtain⟨v',w',hr,h1,h2,h3,-,h5,h6⟩:=yw o.type C v l ax hC y0 k hk aT;exact Lib.wpList_append_run u hgd s y _ _ ho _ _ hs hy _ _ hr (h v' w' (hid h1) (hid h2) (hid h3) (hid h5) (hid h6))
theorem JS {u:World}{ops:Array Oper}{o:Oper}{a:Act}{K:Act->World->Prop}{Q:Exit->Act->World->Prop}{E:Prop}(hgd:o.guard=none)(s y:Operand)
 (ho:o.op=.call { callee:=.builtin .append,args:= #[s,y],argTypes:= #[45,45] })
 (C:Nat) (v:Value) (hs:a.eval s=v) (l:List An) (ax:gA C u v l) (hC:C<=u.heap.size) (y0:Value) (hy:a.eval y=y0) (k:List An) (hk:Zy.jt u y0 k) (aT:l.length+k.length<=100000)
 (h:∀v' w',Hid (gA C w' v' (l++k))->bS [60] u w'->Below C u w'->gR u w'->K (a.put o.dst v') w') :
 if Region.wanted o (yielded ops a.tmps)=true then Oper.wp prog o a u K Q else E:=by
 have hw:Region.wanted o (yielded ops a.tmps)=true:=by simp[Region.wanted,hgd]
 rw[if_pos hw];obtain⟨v',w',hr,h1,h2,h3,h4⟩:=Cc o.type C v l ax hC y0 k hk aT;exact Lib.wp_append_run u s y _ _ ho _ _ hs hy _ _ hr (h v' w' (hid h1) h2 h3 h4)
end Zn
end Go.Proofs.YtbgdlokegibkmaaGreat
