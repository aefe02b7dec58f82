/-
  A part of the proof of VisitPlays.
-/
import Derived.Test.YtbgdlokegibkmaaGreatMpAf
import Derived.Test.YtbgdlokegibkmaaGreatMpBg
set_option maxRecDepth 100000
namespace Go.Proofs.YtbgdlokegibkmaaGreat
open Go.RowKit
open Tryz
open Lib (hid)
namespace Zo
open Zx (Rw Tb Tk aq ak dK ar af cG bn)
open Zq (cX ae aj ai)
open Zj (ni kt Hu OI IY)
open Zr (dh add ft qL)
theorem Rl (l:List Int)(p:Option Addr)(c:Nat)(m:Int)(u:World)(hl:l.length<=1000)(hi:cX u p l) :
 Calls prog 145 #[.slice p l.length c,.int .i64 m] u fun e w'=>e=.returned (.tuple #[.int .i64 (ni l m),.bool (decide (1<=m/\m<=(l.length:Int)))])/\Below u.heap.size u w':=by
 by_cases h:1<=m/\m<=(l.length:Int)
 ·rcases hi with h0 | ⟨b,o,rfl,hc⟩
  ·subst h0
   simp only[List.length_nil] at h;omega
  ·rw [decide_eq_true h]
   exact OI b o c l m u hl h.1 h.2 hc
 ·rw [decide_eq_false h,show ni l m=0 by unfold ni;rw[if_neg h]]
  refine(IY p l.length c m u h).mono ?_;rintro e w' ⟨rfl,rfl⟩;exact⟨rfl,Below.refl _ _⟩
theorem GI (g h s eO m R S:Int)(ok:Bool)(ps p:Option Addr)(n cs k c:Nat)(w:World)
 (hm:∀u,Calls prog 146 #[.int .i64 (n:Int)] u fun e w'=>e=.returned (.int .i64 m)/\u=w')
 (ab6:∀u,Below w.heap.size w u->Calls prog 145 #[.slice ps n cs,.int .i64 m] u fun e w'=>e=.returned (.tuple #[.int .i64 R,.bool ok])/\Below u.heap.size u w')
 (ha:∀(u:World) (b:Nat),b=u.heap.size->Calls prog 88 #[.slice (some ⟨b,0,none⟩) 2 2] (u.alloc (.cells #[.int .i64 R,.int .i64 eO] 3)) fun e w'=>e=.returned (.int .i64 S)/\u.alloc (.cells #[.int .i64 R,.int .i64 eO] 3)=w')
 (U:Int) (hU:(ok=false/\U= -1)∨(ok=true/\R<0/\U= -1)∨(ok=true/\¬R<0/\U=S)) :
 Calls prog 101 #[.agg #[.int .i64 g,.int .i64 h,.slice ps n cs,.int .i64 s,.slice p k c],.int .i64 eO] w fun e w'=>e=.returned (.int .i64 U)/\Below w.heap.size w w':=by
 have M0:=hid ((Mem.start w).box #[.int .i64 g,.int .i64 h,.slice ps n cs,.int .i64 s,.slice p k c] 30);obtain⟨b0,b1,b2,b3,b4⟩:=bQ (M0.out.boxes 0 _ _ _ rfl);rcases hU with ⟨rfl,rfl⟩ | ⟨rfl,hR,rfl⟩ | ⟨rfl,hR,rfl⟩
 all_goals
  go_enter func101,ntmps101
  go_wp2;generalize w.alloc (.cells #[.int .i64 g,.int .i64 h,.slice ps n cs,.int .i64 s,.slice p k c] 30)=W at *;go_region_held3 (fun u=>u.cell? ⟨w.heap.size,2,none⟩=some (.slice ps n cs)) (first | assumption | go_keep) (first | (go_at_call 146;(with_reducible refine(hm _).mono ?_);rintro e w1 ⟨rfl,rfl⟩) | (go_at_call 145;(with_reducible refine(ab6 _ (M0.out.drew.below)).mono ?_);rintro e w1 ⟨rfl,hb⟩;have M1:=hid (M0.out.drew.on hb);have SL:=(bQ (M1.out.boxes 0 _ _ _ rfl)).2.2.1;clear hb))
  all_goals
   go_wp2_with (go_at_call 88;(with_reducible refine(ha _ _ ?hb).mono ?_);(case hb=>simp);rintro e w1 ⟨rfl,rfl⟩)
   go_ret
   first
    | exact⟨rfl,M1.out.below⟩
    | exact⟨rfl,M1.out.below.alloc M1.out.below.size _⟩
theorem GJ (t:Tk)(ps:Option Addr)(cs:Nat)(p:Option Addr)(c:Nat)(eO:Int)(w:World)(hn:t.stamps.length<=1000)(hi:cX w ps t.stamps) :
 Calls prog 101 #[aS t ps cs p c,.int .i64 eO] w fun e w'=>e=.returned (.int .i64 (mP t.stamps eO))/\Below w.heap.size w w':=by
 unfold aS;refine GI t.gen t.bP t.table.start eO (kt t.stamps.length) (ni t.stamps (kt t.stamps.length)) (add [ni t.stamps (kt t.stamps.length),eO]) (decide (1<=kt t.stamps.length/\kt t.stamps.length<=(t.stamps.length:Int))) ps p t.stamps.length cs _ c w (fun u=>Hu _ u (by omega)) (fun u hu=>Rl t.stamps ps cs _ u hn (hi.below hu)) (fun u b hb=>qL _ _ u b hb) _ ?_
 by_cases h:1<=kt t.stamps.length/\kt t.stamps.length<=(t.stamps.length:Int)
 ·by_cases h2:ni t.stamps (kt t.stamps.length)<0
  ·exact .inr (.inl ⟨decide_eq_true h,h2,Eu h.1 h.2 h2⟩)
  ·exact .inr (.inr ⟨decide_eq_true h,h2,I8 h.1 h.2 (by omega)⟩)
 ·exact .inl ⟨decide_eq_false h,Mp h⟩
theorem GK (g h s now eO F U:Int)(ps p:Option Addr)(n cs k c:Nat)(w:World)
 (hf:∀u,Calls prog 100 #[.int .i64 now] u fun e w'=>e=.returned (.int .i64 F)/\u=w')
 (hu:∀u,Below w.heap.size w u->Calls prog 101 #[.agg #[.int .i64 g,.int .i64 h,.slice ps n cs,.int .i64 s,.slice p k c],.int .i64 eO] u fun e w'=>e=.returned (.int .i64 U)/\Below u.heap.size u w') :
 Calls prog 54 #[.agg #[.int .i64 g,.int .i64 h,.slice ps n cs,.int .i64 s,.slice p k c],.int .i64 now,.int .i64 eO] w (cG w (decide (F<=U))):=by
 have M0:=hid ((Mem.start w).box #[.int .i64 g,.int .i64 h,.slice ps n cs,.int .i64 s,.slice p k c] 30);obtain⟨b0,b1,b2,b3,b4⟩:=bQ (M0.out.boxes 0 _ _ _ rfl);go_enter func54,ntmps54
 go_wp2;generalize w.alloc (.cells #[.int .i64 g,.int .i64 h,.slice ps n cs,.int .i64 s,.slice p k c] 30)=W at *;go_region_held3 (fun u=>u.cell? ⟨w.heap.size,0,none⟩=some (.int .i64 g)/\u.cell? ⟨w.heap.size,1,none⟩=some (.int .i64 h)/\u.cell? ⟨w.heap.size,2,none⟩=some (.slice ps n cs)/\u.cell? ⟨w.heap.size,3,none⟩=some (.int .i64 s)/\u.cell? ⟨w.heap.size,4,none⟩=some (.slice p k c)) (first | assumption | exact⟨b0,b1,b2,b3,b4⟩ | go_keep) (first | (go_at_call 100;(with_reducible refine(hf _).mono ?_);rintro e w1 ⟨rfl,rfl⟩) | (go_at_call 101;(with_reducible refine(hu _ (M0.out.drew.below)).mono ?_);rintro e w1 ⟨rfl,hb⟩;have M1:=hid (M0.out.drew.on hb);have SL:=bQ (M1.out.boxes 0 _ _ _ rfl);clear hb))
 all_goals
  go_wp2;go_ret;exact⟨rfl,M1.out.below⟩
theorem GL (t:Tk)(ps:Option Addr)(cs:Nat)(p:Option Addr)(c:Nat)(now eO:Int)(w:World)(hn:t.stamps.length<=1000)(hi:cX w ps t.stamps) :
 Calls prog 54 #[aS t ps cs p c,.int .i64 now,.int .i64 eO] w (cG w (fW t.stamps now eO)):=by
 rw[Ev];have hu:=fun (u:World) (hb:Below w.heap.size w u)=>GJ t ps cs p c eO u hn (hi.below hb)
 unfold aS at hu ⊢;exact GK t.gen t.bP t.table.start now eO (dh now) (mP t.stamps eO) ps p t.stamps.length cs t.table.rows.length c w (fun u=>ft now u) hu
end Zo
end Go.Proofs.YtbgdlokegibkmaaGreat
