/-
  A part of the proof of VisitPlays.
-/
import Derived.Sort.OwnSortedInts
import Derived.Lib.OwnBridge
import Derived.Test.YtbgdlokegibkmaaGreatMpBt
import Derived.Test.YtbgdlokegibkmaaGreatShelf
set_option maxRecDepth 100000
set_option maxHeartbeats 1000000
namespace Go.Proofs.YtbgdlokegibkmaaGreat
open Tryz
open Lib (hid)
namespace Zz
open Go.RowKit Go.Maps Go.Shelf Go.Sort
open Zq (ae aj ai aI)
open Zp (aL bX af aD)
theorem qy (zs:List Int):Zp.cells bX zs=zs.map (Value.int .i64):=by
 induction zs with
 | nil=>rfl
 | cons x zs ih=>rw [Zp.fM,ih];rfl
theorem gJ {B:Nat}{u:World}{v:Value}{zs:List Int}:Zp.Own bX 3 B u v zs↔u.ownsRow B 3 1 v zs.length (zs.map (Value.int .i64)):=by
 unfold Zp.Own;rw[qy];exact Iff.rfl
theorem oV {B:Nat}{u:World}{v:Value}{zs:List Int}(ho:Zp.Own bX 3 B u v zs)(hB:B<=u.heap.size)(hl:zs.length<=1000) :
 Calls prog 148 #[v] u fun e u'=>e=.returned (.tuple #[])/\Zp.Own bX 3 B u' v (zs.mergeSort fun x y=>decide (x<=y))/\Below B u u':=by
 have hl2:(zs.mergeSort fun x y=>decide (x<=y)).length=zs.length:=List.length_mergeSort _
 have hown':=gJ.1 ho;rcases hown'.2 with ⟨rfl,h0⟩ | ⟨g,cap,cur,rfl,hbase,hblk,h1,h2,h3,h4⟩
 ·have hz:=List.eq_nil_of_length_eq_zero h0
  subst hz;refine(Tryz.slices_Sort_int_none none 0 u).mono ?_;rintro e u' ⟨rfl,rfl⟩;exact⟨rfl,by simpa using ho,Below.refl _ _⟩
 ·obtain ⟨g',cap',e,_,aC,_,_,_,hH⟩:=Lib.holds_of_ownsRow (enc:=Value.int .i64) hown' (by simp)
  cases e;refine(Tryz.slices_Sort_int g 0 cap zs u hH aC (by omega)).mono ?_
  rintro e u' ⟨rfl,n,os,rfl⟩;refine⟨rfl,gJ.2 ?_,(Below.refl B u).grown (grownBy_sortedI _) hB (fun j hj=>by cases hj;exact hbase)⟩
  have:=ownsRow_sortedI (n:=n) (os:=os) hl2 hbase hblk h1 h2 h3;rw[hl2];exact this
theorem UQ {T:TypeId}{B:Nat}{w:World}{p:Option Addr}{n c:Nat}{l:List Int}(h:Zp.Own bX T B w (.slice p n c) l):p=none->c=0:=by
 rintro rfl;rcases h.2 with ⟨e,-⟩ | ⟨g,cap,cur,e,-⟩
 ·simp only[Value.slice.injEq] at e
  exact e.2.2
 ·simp at e
theorem tA {xs L:List Int}(hr:L.Pairwise (·<·))(hp:xs.Perm L):(xs.mergeSort fun x y=>decide (x<=y))=L:=by
 have Lr:=(List.mergeSort_perm xs (fun x y=>decide (x<=y))).trans hp
 have hs:(xs.mergeSort fun x y=>decide (x<=y)).Pairwise (·<=·):=by
  have:=List.pairwise_mergeSort (le:=fun x y:Int=>decide (x<=y)) (fun a b c h1 h2=>by simp at *;omega) (fun a b=>by simp;omega) xs
  exact this.imp fun h=>by simpa using h
 exact List.Perm.eq_of_pairwise (le:=fun a b:Int=>a<=b) (fun a b _ _ hab hba=>by omega) hs (hr.imp fun {a b} h=>by omega) Lr
theorem qz {L:List Nt}(aT:(aR L).length<=1000)(Bm:Nat)(w0 w:World)(hb0:Below w0.heap.size w0 w)
 (hseq:SeqStopsK Fence.wide 5 prog 227 #[.pointer (some ⟨Bm,0,none⟩)] (fun x:Int=> #[.int .i64 x]) KeepsWalks (fun xs=>xs.Perm (aR L)) (fun _=>True) (aR L).length w0) :
 Calls prog 197 #[.func (.func 227) #[] #[.pointer (some ⟨Bm,0,none⟩)]] w fun e w' =>
  ∃p c,e=.returned (.slice p (aR L).length c)/\(aL bX w' p (aR L)/\(p=none->c=0))/\Below w.heap.size w w':=by
 have ha:=n9 aT Bm w0 w hb0 hseq;have hs:=hid (fun(u:World) (v:Value) (xs:List Int) (hb:Below w.heap.size w u) (ho:Zp.Own bX 3 w.heap.size u v xs) (hp:xs.Perm (aR L))=>(oV ho hb.size (by rw[hp.length_eq];exact aT)))
 have HR:=hid (fun(xs:List Int) (hp:xs.Perm (aR L))=>tA (eX L) hp)
 clear hseq aT;generalize aR L=R at *;go_enter func197,ntmps197
 go_wp2_with (first
  |(go_at_call 226;refine ha.mono ?_;clear ha;rintro e u ⟨v,xs,rfl,hp,ho,hb⟩)
  |(go_at_call 148;refine(hs.out _ _ _ hb ho hp).mono ?_;clear hs;rintro e u2 ⟨rfl,ko,hb2⟩;rw[HR.out _ hp] at ko;obtain⟨p,c,rfl,hl⟩:=Zp.Own.gi ko;have hni:=UQ ko))
 go_ret;exact⟨p,c,rfl,⟨hl,hni⟩,hb.trans hb2⟩
theorem oW {B q:Nat}{w:World}{l:List Nt}(h:Pm B w q l)(aT:l.length<=800) :
 Calls prog 160 #[.pointer (some ⟨q,0,none⟩)] w fun e w'=>∃p c,e=.returned (.slice p (aR l).length c)/\(aL bX w' p (aR l)/\(p=none->c=0))/\Below w.heap.size w w':=by
 obtain⟨m,hc,-,hm⟩:=h.cell;have hv:=callsIn_wide.1 (LV 5 m w);have hb1:=cQ w (.cells #[.map m] 198);have hz:=(MapKept.heap_alloc w (.cells #[.map m] 198)).1;have hs:=qz (L:=l) (by have:=fB l;omega) w.heap.size _ _ (Below.refl _ _) (He 5 (by decide) (hm.below hb1) (by rw[cell_of_row _ _ 0 _ _ (0,0) hz];rfl) (by simp))
 generalize aR l=R at *;clear hz aT h hm;go_enter func160,ntmps160
 go_wp2_with (first
  |(go_at_call 198;refine hv.mono ?_;clear hv;rintro e u ⟨rfl,rfl⟩)
  |(go_at_call 197;refine hs.mono ?_;clear hs;rintro e u2 ⟨p,c,rfl,hl,hb2⟩))
 go_ret;exact⟨p,c,rfl,hl,hb1.trans (hb2.mono hb1.size)⟩
end Zz
end Go.Proofs.YtbgdlokegibkmaaGreat
