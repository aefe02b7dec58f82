/-
  The program's wanted and Wants, of any edge that is kept well.
  The program's Wants, of any edge that is kept well.
-/
import Derived.Test.YtbgdlokegibkmaaGreatMmAn
import Derived.Test.YtbgdlokegibkmaaGreatMmAd
import Derived.Test.YtbgdlokegibkmaaGreatMmBi
import Derived.Test.YtbgdlokegibkmaaGreatMmBk
namespace Go.Proofs.YtbgdlokegibkmaaGreat.Edge
open Go.RowKit
open _root_.Go.Proofs.YtbgdlokegibkmaaGreat.Codec (lt_of_heap frozen_of heap_set)
open _root_.Go.Proofs.YtbgdlokegibkmaaGreat.Kit (Enc Lies At Kept Laid Off cell_on lt_heap take_snoc below_drewN own_keep box5 ints)
open _root_.Go.Proofs.YtbgdlokegibkmaaGreat.Lease (Lz Num spend)
open _root_.Go.Proofs.YtbgdlokegibkmaaGreat.Queue (It take)
open _root_.Go.Proofs.YtbgdlokegibkmaaGreat.Demand (Nt)
/-- How much the program says is wanted. -/
def am (c : Cf) (e : Eg) (k : Int) : Int := Demand.want (Demand.of e.D k) (Queue.sum e.Q k) (rb c k)
section
variable {R : Nat → Prop} {B q qw qq qd : Nat} {w w' u u' : World} {y : Value} {c : Cf} {e e' e2 : Eg}
set_option maxRecDepth 100000 in
set_option maxHeartbeats 8000000 in
theorem wanted_any (h : In R B w q y qw qq qd c e) (hg : Good c e) (hf : Lens e) {key : Int} (hk : Num key) :
    Calls Tryz.prog 161 #[.pointer (some ⟨q, 0, none⟩), .int .i64 key] w fun x w' => x = .returned (.int .i64 (am c e key)) ∧ Below w.heap.size w w' := by
  obtain ⟨p, k, rfl, hl⟩ := h.rates
  have HK := Lib.hid (fun u (hu : Below w.heap.size w u) => prate_any k (hl.below hu) key)
  have HS := Lib.hid (fun u (hu : Below w.heap.size w u) => Queue.way12.sum (h.below hu).qu hg.q hf.2.1 key hk)
  have HW := Lib.hid (fun u (qs b : Int) (hu : Below w.heap.size w u) => Demand.pwant_any (h.below hu).dm hk qs b)
  have HX := Lib.hid (fun u (hu : Below w.heap.size w u) => (h.below hu).sees)
  obtain ⟨k0, k1, k2, k3, k4, k5, k6, k7, k8, k9, k10, k11⟩ := h.sees
  rw [show am c e key = Demand.want (Demand.of e.D key) (Queue.sum e.Q key) (rb c key) from rfl]
  generalize ra c key = vra at *
  generalize rb c key = vrb at *
  generalize c.rate key = kk at *
  generalize Queue.sum e.Q key = qs at *
  simp only [Cf.val] at *
  clear h hl hg hf k0 k10 k11
  go_enter Tryz.func161, Tryz.ntmps161
  go_wp2_with (first
    | (go_at_call 83; (with_reducible refine (HK.out _ (Below.refl _ _)).mono ?_); rintro e1 w1 ⟨rfl, hb⟩; have HB1 := Lib.hid hb; clear hb HK))
  have hbx := HB1.out.trans ((lay w1 (.cells #[.int .i64 vra, .int .i64 vrb] 77)).mono HB1.out.size)
  have HB2 := Lib.hid hbx
  have hbk := heap_alloc_new w1 (.cells #[.int .i64 vra, .int .i64 vrb] 77)
  have hb1 : (w1.alloc (.cells #[.int .i64 vra, .int .i64 vrb] 77)).cell? ⟨w1.heap.size, 1, none⟩ = some (.int .i64 vrb) := by rw [cell_of_row _ _ 1 _ _ (0, 0) hbk]; rfl
  clear hbx hbk HB1 k1 k2 k3 k4 k5 k6 k7 k8 k9
  generalize w1.heap.size = g at *
  generalize w1.alloc (.cells #[.int .i64 vra, .int .i64 vrb] 77) = w2 at *
  have HY := Lib.hid (fun u (hu : Below w2.heap.size w2 u) => show Below w2.heap.size w2 u ∧ u.cell? ⟨q, 10, none⟩ = some (.pointer (some ⟨qq, 0, none⟩)) ∧ u.cell? ⟨q, 11, none⟩ = some (.pointer (some ⟨qd, 0, none⟩)) ∧ u.cell? ⟨g, 1, none⟩ = some (.int .i64 vrb) from
    ⟨hu, (HX.out u (HB2.out.trans (hu.mono HB2.out.size))).k10, (HX.out u (HB2.out.trans (hu.mono HB2.out.size))).k11, cell_on hb1 hu⟩)
  have y0 := HY.out _ (Below.refl w2.heap.size w2).drew
  clear hb1
  go_region_held3 (fun u => Below w2.heap.size w2 u ∧ u.cell? ⟨q, 10, none⟩ = some (.pointer (some ⟨qq, 0, none⟩)) ∧ u.cell? ⟨q, 11, none⟩ = some (.pointer (some ⟨qd, 0, none⟩)) ∧ u.cell? ⟨g, 1, none⟩ = some (.int .i64 vrb)) (first | with_reducible assumption) (first
    | (go_at_call 200; (with_reducible refine (HS.out _ (s_low (by with_reducible assumption) HB2.out)).mono ?_); rintro e1 w3 ⟨rfl, hb⟩; have y3 := HY.out _ (s_next (by with_reducible assumption) hb))
    | (go_at_call 199; (with_reducible refine (HW.out _ _ _ (s_low (by with_reducible assumption) HB2.out)).mono ?_); rintro e1 w4 ⟨rfl, hb⟩; have y4 := HY.out _ (s_next (by with_reducible assumption) hb)))
  go_wp2
  go_ret
  exact ⟨rfl, HB2.out.trans (y4.1.mono HB2.out.size)⟩
theorem am_amount (c : Cf) (e : Eg) (k : Int) : (0 < am c e k ↔ 0 < amount c e k) ∧ (0 < am c e k → am c e k = amount c e k) := by
  unfold am amount rb
  by_cases h : 0 ≤ c.rate k
  · rw [if_pos h, if_pos h]
    exact ⟨Iff.rfl, fun _ => rfl⟩
  · rw [if_neg h, if_neg h]
    have : Demand.want (Demand.of e.D k) (Queue.sum e.Q k) 0 ≤ 0 := by
      unfold Demand.want
      have : Sat.fit 0 = 0 := by decide
      rw [this]
      omega
    exact ⟨⟨fun h => by omega, fun h => by omega⟩, fun h => by omega⟩
end
end Go.Proofs.YtbgdlokegibkmaaGreat.Edge

namespace Go.Proofs.YtbgdlokegibkmaaGreat.Edge
open Go.RowKit
open _root_.Go.Proofs.YtbgdlokegibkmaaGreat.Codec (lt_of_heap frozen_of heap_set)
open _root_.Go.Proofs.YtbgdlokegibkmaaGreat.Kit (Enc Lies At Kept Laid Off cell_on lt_heap take_snoc below_drewN own_keep box5 ints)
open _root_.Go.Proofs.YtbgdlokegibkmaaGreat.Lease (Lz Num spend)
open _root_.Go.Proofs.YtbgdlokegibkmaaGreat.Queue (It take)
open _root_.Go.Proofs.YtbgdlokegibkmaaGreat.Demand (Nt)
theorem merge_mem (x : Int) : ∀ (a b : List Int), x ∈ merge a b ↔ x ∈ a ∨ x ∈ b
  | [], b => by simp [merge]
  | a :: l, [] => by simp [merge]
  | a :: l, b :: m => by
    have h1 := merge_mem x l (b :: m)
    have h2 := merge_mem x l m
    have h3 := merge_mem x (a :: l) m
    rw [merge]
    split
    · rw [List.mem_cons, h1]
      simp only [List.mem_cons, or_assoc]
    · split
      · rename_i e
        subst e
        rw [List.mem_cons, h2]
        simp only [List.mem_cons]
        constructor
        · rintro (h | h | h) <;> simp [h]
        · rintro ((h | h) | h | h) <;> simp [h]
      · rw [List.mem_cons, h3]
        simp only [List.mem_cons]
        constructor
        · rintro (h | (h | h) | h) <;> simp [h]
        · rintro ((h | h) | h | h) <;> simp [h]
theorem merge_rise : ∀ (a b : List Int), a.Pairwise (· < ·) → b.Pairwise (· < ·) → (merge a b).Pairwise (· < ·)
  | [], b, _, h => by simpa [merge] using h
  | a :: l, [], h, _ => by simpa [merge] using h
  | a :: l, b :: m, ha, hb => by
    obtain ⟨a1, a2⟩ := List.pairwise_cons.1 ha
    obtain ⟨b1, b2⟩ := List.pairwise_cons.1 hb
    have h1 := merge_rise l (b :: m) a2 hb
    have h2 := merge_rise l m a2 b2
    have h3 := merge_rise (a :: l) m ha b2
    rw [merge]
    split
    · rename_i h
      refine List.pairwise_cons.2 ⟨fun x hx => ?_, h1⟩
      rcases (merge_mem x _ _).1 hx with hx | hx
      · exact a1 x hx
      · rcases List.mem_cons.1 hx with rfl | hx
        · exact h
        · have := b1 x hx; omega
    · split
      · rename_i e
        refine List.pairwise_cons.2 ⟨fun x hx => ?_, h2⟩
        rcases (merge_mem x _ _).1 hx with hx | hx
        · have := a1 x hx; omega
        · exact b1 x hx
      · refine List.pairwise_cons.2 ⟨fun x hx => ?_, h3⟩
        rcases (merge_mem x _ _).1 hx with hx | hx
        · rcases List.mem_cons.1 hx with rfl | hx
          · omega
          · have := a1 x hx; omega
        · exact b1 x hx
/-- What Sort and Compact leave of both lists of keys. -/
theorem keys_one (e : Eg) : Lib.compact ((Queue.keys e.Q ++ Demand.keys e.D).mergeSort fun x y => decide (x ≤ y)) = keys e := by
  have hp := List.mergeSort_perm (Queue.keys e.Q ++ Demand.keys e.D) (fun x y => decide (x ≤ y))
  have hs : ((Queue.keys e.Q ++ Demand.keys e.D).mergeSort fun x y => decide (x ≤ y)).Pairwise (· ≤ ·) := by
    have := List.pairwise_mergeSort (le := fun x y : Int => decide (x ≤ y)) (fun a b c h1 h2 => by simp at *; omega) (fun a b => by simp; omega) (Queue.keys e.Q ++ Demand.keys e.D)
    exact this.imp fun h => by simpa using h
  generalize ((Queue.keys e.Q ++ Demand.keys e.D).mergeSort fun x y => decide (x ≤ y)) = zs at *
  obtain ⟨c1, c2⟩ := Queue.compact_spec hs zs.length (Nat.le_refl _)
  refine Queue.rise_eq c1 (merge_rise _ _ (Queue.keys_spec _ e.Q rfl).1 (Demand.keys_rise e.D)) fun x => ?_
  have := c2 x
  rw [List.take_length, hp.mem_iff, List.mem_append] at this
  exact this.trans (merge_mem x _ _).symm
theorem keys_num {c : Cf} {e : Eg} (hg : Good c e) (hn : ∀ x ∈ e.D, Num x.key) (x : Int) (hx : x ∈ keys e) : Num x := by
  rcases (merge_mem x _ _).1 hx with h | h
  · have h2 := (Queue.keys_spec _ e.Q rfl).2 x |>.1 h
    obtain ⟨i, hi, rfl⟩ := List.mem_map.1 h2
    exact (hg.q.each i hi).2.2.1
  · obtain ⟨-, z, hz, rfl⟩ := ((Demand.some_spec e.D e.D).2 x).1 h
    exact hn z hz
section
variable {R : Nat → Prop} {B q qw qq qd : Nat} {w w' u u' : World} {y : Value} {c : Cf} {e e' e2 : Eg}
theorem laidW : Laid Tryz.prog pair 174 171 := ⟨Tryz.underlying171, .agg #[.int .i64 0, .int .i64 0], 16, by kernel_rfl, rfl, by decide⟩
theorem concat_new {w2 : World} {la lb : List Int} {pa pb : Option Addr} {ca cb : Nat} {T : TypeId} (ha : Lies ints w2 pa la) (hb : Lies ints w2 pb lb) (na : pa = none → ca = 0) (nb : pb = none → cb = 0) (la' : la.length ≤ 300) (lb' : lb.length ≤ 700) :
    Calls Tryz.prog 158 #[.slice (some ⟨w2.heap.size, 0, none⟩) 2 2] (w2.alloc (.cells #[.slice pa la.length ca, .slice pb lb.length cb] T)) fun e w' => ∃ v, e = .returned v ∧ Kit.Own ints 3 w2.heap.size w' v (la ++ lb) ∧ Below w2.heap.size w2 w' := by
  have hbx := lay w2 (.cells #[.slice pa la.length ca, .slice pb lb.length cb] T)
  have k := heap_alloc_new w2 (.cells #[.slice pa la.length ca, .slice pb lb.length cb] T)
  refine (concat_any (g := w2.heap.size) (ca := ca) (cb := cb) (by rw [cell_of_row _ _ 0 _ _ (0, 0) k]; rfl) (by rw [cell_of_row _ _ 1 _ _ (0, 0) k]; rfl) (ha.below hbx) (hb.below hbx) na nb la' lb').mono ?_
  rintro e w' ⟨v, he, ho, hb2⟩
  exact ⟨v, he, Kit.Own.lower ho hbx.size, hbx.trans (hb2.mono hbx.size)⟩
set_option maxRecDepth 100000 in
set_option maxHeartbeats 8000000 in
theorem pwants_any (h : In R B w q y qw qq qd c e) (hg : Good c e) (hf : Lens e) (hn : ∀ x ∈ e.D, Num x.key) :
    Calls Tryz.prog 107 #[.pointer (some ⟨q, 0, none⟩)] w fun x w' => ∃ p k, x = .returned (.slice p (wants c e).length k) ∧ Lies pair w' p (wants c e) ∧ Typed w' p 174 ∧ Below w.heap.size w w' := by
  have HX := Lib.hid (fun u (hu : Below w.heap.size w u) => (h.below hu).sees)
  have HQ := Lib.hid (fun u (hu : Below w.heap.size w u) => Queue.pkeys_any (h.below hu).qu hf.2.1)
  have HD := Lib.hid (fun u (hu : Below w.heap.size w u) => Demand.pkeys_any (h.below hu).dm (by have := hf.2.2; omega))
  have HWD := Lib.hid (fun u key (hu : Below w.heap.size w u) (hk : Num key) => wanted_any (h.below hu) hg hf hk)
  have hl1 := Queue.keys_len e.Q
  have hl2 := Demand.keys_len e.D
  have HCC := Lib.hid (fun (u : World) (pa pb : Option Addr) (ca cb : Nat) (T : TypeId) (ha : Lies ints u pa (Queue.keys e.Q)) (hb : Lies ints u pb (Demand.keys e.D)) (na : pa = none → ca = 0) (nb : pb = none → cb = 0) => concat_new (ca := ca) (cb := cb) (T := T) ha hb na nb (by have := hf.2.1; omega) (by have := hf.2.2; omega))
  have hkl : (Queue.keys e.Q ++ Demand.keys e.D).length ≤ 800 := by rw [List.length_append]; have := hf.2.1; have := hf.2.2; omega
  have HSO := Lib.hid (fun (B' : Nat) (u : World) (v : Value) (ho : Kit.Own ints 3 B' u v (Queue.keys e.Q ++ Demand.keys e.D)) (hu : B' ≤ u.heap.size) => Queue.sort_ints ho hu (by omega))
  have HCO := Lib.hid (fun (B' : Nat) (u : World) (v : Value) (ho : Kit.Own ints 3 B' u v ((Queue.keys e.Q ++ Demand.keys e.D).mergeSort fun x y => decide (x ≤ y))) (hu : B' ≤ u.heap.size) => Queue.compact_ints ho hu (by rw [List.length_mergeSort]; omega))
  rw [keys_one e] at HCO
  have HW := Lib.hid (show wants c e = wantsOf c e ((keys e).take (keys e).length) by rw [List.take_length]; rfl)
  have HKN := Lib.hid (fun x (hx : x ∈ keys e) => keys_num hg hn x hx)
  have hkk : (keys e).length ≤ 1000 := Nat.le_trans (merge_len _ _) (by have := hf.2.1; have := hf.2.2; omega)
  generalize ((Queue.keys e.Q ++ Demand.keys e.D).mergeSort fun x y => decide (x ≤ y)) = zs at *
  generalize Queue.keys e.Q ++ Demand.keys e.D = ls at *
  generalize Queue.keys e.Q = la at *
  generalize Demand.keys e.D = lb at *
  generalize wants c e = WW at *
  generalize keys e = l at *
  have WS := Lib.hid (fun (j : Nat) (hj : j < l.length) => wants_at (c := c) (e := e) hj)
  have WL := Lib.hid (fun j => wants_len c e (l.take j))
  have W0 := Lib.hid (show wantsOf c e (l.take 0) = [] from rfl)
  have HY := Lib.hid (fun u (hu : Below w.heap.size w u) => show Below w.heap.size w u ∧ u.cell? ⟨q, 10, none⟩ = some (.pointer (some ⟨qq, 0, none⟩)) ∧ u.cell? ⟨q, 11, none⟩ = some (.pointer (some ⟨qd, 0, none⟩)) from ⟨hu, (HX.out u hu).k10, (HX.out u hu).k11⟩)
  have y0 := HY.out _ (Below.refl w.heap.size w).drew
  clear h hg hf hn hl1 hl2 HX
  go_enter Tryz.func107, Tryz.ntmps107
  go_wp2_with fail
  go_region_held3 (fun u => Below w.heap.size w u ∧ u.cell? ⟨q, 10, none⟩ = some (.pointer (some ⟨qq, 0, none⟩)) ∧ u.cell? ⟨q, 11, none⟩ = some (.pointer (some ⟨qd, 0, none⟩))) (first | with_reducible assumption | exact HY.out _ (s_alloc (by with_reducible assumption) _)) (first
    | (go_at_call 159; (with_reducible refine (HQ.out _ (And.left (by with_reducible assumption))).mono ?_); rintro e1 w1 ⟨p1, d1, rfl, hli1, hb⟩; have HLA := Lib.hid hli1; have y1 := HY.out _ (s_next (by with_reducible assumption) hb))
    | (go_at_call 160; (with_reducible refine (HD.out _ (And.left (by with_reducible assumption))).mono ?_); rintro e1 w2 ⟨p2, d2, rfl, hli2, hb⟩; have HLB := Lib.hid hli2; have HLA2 := Lib.hid (HLA.out.1.below hb); have y2 := HY.out _ (s_next (by with_reducible assumption) hb))
    | (go_at_call 158; (refine (HCC.out w2 _ _ _ _ _ HLA2.out HLB.out.1 HLA.out.2 HLB.out.2).mono ?_); rintro e1 w3 ⟨v3, rfl, ho, hb⟩; have HO3 := Lib.hid ho; have HB3 := Lib.hid hb; have y3 := HY.out _ (s_next (by with_reducible assumption) hb)))
  have HBW2 := Lib.hid y2.1
  clear y0 y1 y2 y3 HQ HD HCC HLA HLB HLA2 HY
  go_wp2_with (first
    | (go_at_call 148; (with_reducible refine (HSO.out _ _ _ HO3.out HB3.out.size).mono ?_); rintro e1 w4 ⟨rfl, ho, hb⟩; have HO4 := Lib.hid ho; have HB4 := Lib.hid (HB3.out.trans hb); clear ho hb HSO)
    | (go_at_call 149; (with_reducible refine (HCO.out _ _ _ HO4.out HB4.out.size).mono ?_); rintro e1 w5 ⟨p5, d5, rfl, ⟨hl5, -⟩, hb⟩; have HL5 := Lib.hid hl5; have HB5 := Lib.hid (HB4.out.trans hb); clear hl5 hb HCO))
  have HBW5 := Lib.hid (HBW2.out.trans (HB5.out.mono HBW2.out.size))
  clear HO3 HO4 HB3 HB4 HB5 HBW2
  go_loopw [4, 27] (fun o i wr => ∃ (j : Nat) (pq : Option Addr) (d n : Nat), j ≤ l.length ∧ i = .int .i64 (j : Int) ∧ o = .slice pq n d ∧ Hid (Kit.Own pair 174 w5.heap.size wr o (wantsOf c e (l.take j))) ∧ Hid ((wantsOf c e (l.take j)).length = n) ∧ Hid (Below w5.heap.size w5 wr)) (fun _ i _ => l.length - (intOf i).toNat)
  case atStart => exact ⟨0, none, 0, 0, by omega, rfl, rfl, by rw [W0.out]; exact Lib.hid (Kit.Own.none _ _ _ _), by rw [W0.out]; exact Lib.hid rfl, Lib.hid (Below.refl _ _)⟩
  case round =>
    obtain ⟨j, pq, d, n, hj, rfl, rfl, hown, hn, hbw⟩ := hrel
    by_cases hlt : j < l.length
    · have hlt' : (j : Int) < (l.length : Int) := by omega
      obtain ⟨b, o, rfl, hk0⟩ := ints_at (HL5.out.below hbw.out) hlt
      have hn5 : n ≤ 1000 := by rw [← hn.out]; exact Nat.le_trans (WL.out j) (by simp; omega)
      have HWS := Lib.hid (WS.out j hlt)
      have HKJ := Lib.hid (HKN.out _ (List.getElem_mem hlt))
      have hge : l[j] = l.getD j 0 := by simp [List.getD, hlt]
      rw [hge] at HKJ
      have c6 := HWD.out wr _ (HBW5.out.trans (hbw.out.mono HBW5.out.size)) HKJ.out
      have hAM := am_amount c e (l.getD j 0)
      clear hge HKN WS WL W0 HW HWD
      generalize wantsOf c e (l.take j) = WJ at *
      generalize l.getD j 0 = key at *
      generalize am c e key = a1 at *
      generalize amount c e key = a2 at *
      by_cases ham : 0 < a1
      · obtain rfl := hAM.2 ham
        have HE := Lib.hid (show wantsOf c e (l.take (j + 1)) = WJ ++ [(key, a1)] by rw [HWS.out, if_pos ham])
        clear HWS hAM
        go_wp2_with (first
          | (go_at_call 161; (with_reducible refine c6.mono ?_); rintro e1 w6 ⟨rfl, hb⟩; have HB6 := Lib.hid (hbw.out.trans (hb.mono hbw.out.size)); have HO6 := Lib.hid (hown.out.on hb); clear hb c6)
          | (at_builtin; refine Kit.push laidW rfl _ _ rfl w5 w6 (.slice pq n d) rfl WJ n hn.out HO6.out HB6.out (lay _ _) w6.heap.size (key, a1) rfl (heap_alloc_new _ _) (by omega) ?_; intro p7 c7 w7 R7 B7))
        go_roundw
        case rel => exact ⟨j + 1, p7, c7, n + 1, by omega, by go_num, rfl, by rw [HE.out]; exact R7, by rw [HE.out]; exact Lib.hid (by rw [List.length_append, hn.out]; rfl), Lib.hid B7⟩
        case measure => simp only [intOf]; omega
      · have ham2 : ¬ 0 < a2 := fun h => ham (hAM.1.2 h)
        have HE := Lib.hid (show wantsOf c e (l.take (j + 1)) = WJ by rw [HWS.out, if_neg ham2])
        clear HWS hAM ham2
        go_wp2_with (go_at_call 161; (with_reducible refine c6.mono ?_); rintro e1 w6 ⟨rfl, hb⟩; have HB6 := Lib.hid (hbw.out.trans (hb.mono hbw.out.size)); have HO6 := Lib.hid (hown.out.on hb); clear hb c6)
        go_roundw
        case rel => exact ⟨j + 1, pq, d, n, by omega, by go_num, rfl, by rw [HE.out]; exact HO6, by rw [HE.out]; exact hn, HB6⟩
        case measure => simp only [intOf]; omega
    · have hlt' : ¬ (j : Int) < (l.length : Int) := by omega
      have HE := Lib.hid (show WW = wantsOf c e (l.take j) by rw [HW.out]; have e : j = l.length := by omega
                                                              subst e; rfl)
      generalize wantsOf c e (l.take j) = WJ at *
      clear WS WL W0 HW HWD HKN
      go_wp2
      have e1 := hn.out
      have e2 := HE.out
      subst e2 e1
      refine bodyPost_ret (v := .slice pq WW.length d) (by simp [results, Tryz.results107, go_sem]) rfl ?_
      obtain ⟨q', d', e', hlq⟩ := Kit.Own.lies hown.out
      rw [Value.slice.injEq] at e'
      obtain ⟨rfl, -, rfl⟩ := e'
      refine ⟨_, ⟨_, rfl⟩, hlq, ?_, HBW5.out.trans (hbw.out.mono HBW5.out.size)⟩
      rintro a rfl
      rcases hown.out.2 with ⟨e, -⟩ | ⟨g, cap, cur, e, -, k, -⟩
      · simp at e
      · simp only [Value.slice.injEq, Option.some.injEq] at e
        obtain ⟨rfl, -, -⟩ := e
        exact ⟨_, _, k⟩
end
end Go.Proofs.YtbgdlokegibkmaaGreat.Edge
