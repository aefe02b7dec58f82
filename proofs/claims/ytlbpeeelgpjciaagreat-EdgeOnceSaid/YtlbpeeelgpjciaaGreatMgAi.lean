/-
  The document's Note, of any estimates of up to 900 notes.
  The document's Grant, Close, Drop, Expire, Refuse of an edge.
  The document's Refuse and Crash of an edge.
  The document's Crash of an edge.
  conf.Rate and the document's Rate of any configuration and key: the rate of the key's policy and true, or a zero rate and false; which one it is, or -1; of what lay nothing has turned.
-/
import Derived.Test.YtlbpeeelgpjciaaGreatMgAh
import Derived.Test.YtlbpeeelgpjciaaGreatMgAg
import Derived.Test.YtlbpeeelgpjciaaGreatMgAd
namespace Go.Proofs.YtlbpeeelgpjciaaGreat.Demand2
open _root_.Go.Proofs.YtlbpeeelgpjciaaGreat.Demand
variable {ov : Nat}
open Go.RowKit
open _root_.Go.Proofs.YtlbpeeelgpjciaaGreat.Codec (lt_of_heap frozen_of heap_set below_new)
open _root_.Go.Proofs.YtlbpeeelgpjciaaGreat.Kit (Enc Lies Own At Kept Laid cell_on lt_heap take_snoc below_drewN box5 ints)

set_option maxRecDepth 100000 in
set_option maxHeartbeats 4000000 in
theorem rnote_any {B v : Nat} {l : List Nt} {w : World} (h : Dm B w v ov l) (hB : B ≤ w.heap.size) (hl : l.length ≤ 900) (key spent : Int) :
    Calls Tryz.prog 73 #[.pointer (some ⟨v, ov, none⟩), .int .i64 key, .int .i64 spent] w fun e w' => e = .returned (.int .i64 (of (l ++ [⟨key, spent⟩]) key)) ∧ Step B w v ov (l ++ [⟨key, spent⟩]) w' := by
  have HV := Lib.hid h
  have HBB := Lib.hid hB
  obtain ⟨p, c, c1, lx, cn⟩ := h.cell
  have hv := h.lt
  have LX := Lib.hid (lx.below ((Below.refl _ _).alloc (Nat.le_refl _) (.cells #[] 178)))
  have CN := Lib.hid cn
  have HA := Lib.hid ((Below.refl w.heap.size w).alloc (Nat.le_refl _) (.cells #[] 178))
  have OM := Lib.hid (Kit.own_made (E := note) (T := 178) w w.heap.size (Nat.le_refl _))
  have HO := Lib.hid (fun u (hs : Dm B u v ov (l ++ [⟨key, spent⟩])) => rof_any hs (by simp; omega) key)
  clear lx cn h
  go_enter Tryz.func73, Tryz.ntmps73
  go_wp2_with (first
    | (at_builtin; refine Kit.pushes laidN rfl _ _ rfl w _ _ rfl [] 0 rfl OM.out HA.out (Below.refl _ _) l l.length c p rfl rfl LX.out CN.out (by omega) ?_; intro p4 c4 w4 R4 B4; have R5 := Lib.hid (show Own note 178 w.heap.size w4 (.slice p4 l.length c4) l from by (have := R4.out; rw [Nat.zero_add] at this; exact this)); have B5 := Lib.hid B4; clear R4 B4 OM LX CN c1)
    | (at_builtin; refine Kit.push laidN rfl _ _ rfl w w4 (.slice p4 l.length c4) rfl l l.length rfl R5.out B5.out ((Below.refl _ _).alloc (Nat.le_refl _) _) w4.heap.size ⟨key, spent⟩ rfl (heap_alloc_new _ _) (by omega) ?_; intro p6 c6 w6 R6 B6; obtain ⟨f0, ⟨u0, k0⟩, D⟩ := HV.out.store HBB.out B6 R6.out)
    | (go_at_call 125; (with_reducible refine (HO.out _ D.out.dm).mono ?_); rintro e w7 ⟨rfl, hb⟩))
  go_ret
  exact ⟨rfl, D.out.on hb (Nat.le_trans HBB.out D.out.size)⟩
end Go.Proofs.YtlbpeeelgpjciaaGreat.Demand2

namespace Go.Proofs.YtlbpeeelgpjciaaGreat.Edge
open Go.RowKit
open _root_.Go.Proofs.YtlbpeeelgpjciaaGreat.Codec (lt_of_heap frozen_of heap_set below_new)
open _root_.Go.Proofs.YtlbpeeelgpjciaaGreat.Kit (Enc Lies At Kept Laid Off cell_on lt_heap take_snoc below_drewN)
open _root_.Go.Proofs.YtlbpeeelgpjciaaGreat.Lease (Lz spend)
open _root_.Go.Proofs.YtlbpeeelgpjciaaGreat.Queue (It take)
open _root_.Go.Proofs.YtlbpeeelgpjciaaGreat.Demand (Nt)

theorem rput_ed {w : World} {B v : Nat} {c : Cf} {e : Eg} (h : Ed B w v c e) (hB : B ≤ w.heap.size) (hf : e.L.length ≤ 1000) (x : Lz) :
    Calls Tryz.prog 70 #[.pointer (some ⟨v, 9, none⟩), Lease.val x] w fun e' w' => e' = .returned (.int .i64 (Lease.put e.L x).2) ∧ EStep B w v c ⟨(Lease.put e.L x).1, e.Q, e.D⟩ w' :=
  (Lease2.rput_any h.wl hB hf x).mono fun _ _ ⟨he, hs⟩ => ⟨he, h.step_l hs⟩
theorem rclose_ed {w : World} {B v : Nat} {c : Cf} {e : Eg} (h : Ed B w v c e) (hB : B ≤ w.heap.size) (hf : e.L.length ≤ 1000) (key gen : Int) :
    Calls Tryz.prog 72 #[.pointer (some ⟨v, 9, none⟩), .int .i64 key, .int .i64 gen] w fun e' w' => e' = .returned (.int .i64 (Lease.close e.L key gen).2) ∧ EStep B w v c ⟨(Lease.close e.L key gen).1, e.Q, e.D⟩ w' :=
  (Lease2.rclose_any h.wl hB hf key gen).mono fun _ _ ⟨he, hs⟩ => ⟨he, h.step_l hs⟩
theorem rnote_ed {w : World} {B v : Nat} {c : Cf} {e : Eg} (h : Ed B w v c e) (hB : B ≤ w.heap.size) (hf : e.D.length ≤ 900) (key spent : Int) :
    Calls Tryz.prog 73 #[.pointer (some ⟨v, 12, none⟩), .int .i64 key, .int .i64 spent] w fun e' w' => e' = .returned (.int .i64 (Demand.of (e.D ++ [⟨key, spent⟩]) key)) ∧ EStep B w v c ⟨e.L, e.Q, e.D ++ [⟨key, spent⟩]⟩ w' :=
  (Demand2.rnote_any h.dm hB hf key spent).mono fun _ _ ⟨he, hs⟩ => ⟨he, h.step_d hs⟩
theorem rexpire_ed {w : World} {B v : Nat} {c : Cf} {e : Eg} (h : Ed B w v c e) (hB : B ≤ w.heap.size) (hf : e.Q.length ≤ 1000) (now : Int) :
    Calls Tryz.prog 76 #[.pointer (some ⟨v, 10, none⟩), .int .i64 now] w fun e' w' => ∃ p k, e' = .returned (.slice p (Queue.expire e.Q now).2.length k) ∧ Lies Queue.item w' p (Queue.expire e.Q now).2 ∧ EStep B w v c ⟨e.L, (Queue.expire e.Q now).1, e.D⟩ w' :=
  (Queue2.rexpire_any h.qu hB hf now).mono fun _ _ ⟨p, k, he, hl, hs⟩ => ⟨p, k, he, hl, h.step_q hs⟩
theorem rdrop_ed {w : World} {B v : Nat} {c : Cf} {e : Eg} (h : Ed B w v c e) (hB : B ≤ w.heap.size) (hf : e.L.length ≤ 1000) (gen : Int) :
    Calls Tryz.prog 33 #[.pointer (some ⟨v, 9, none⟩), .int .i64 gen] w fun e' w' => e' = .returned (.int .i64 (Lease.drop e.L gen).2) ∧ EStep B w v c (drop e gen) w' :=
  (Lease2.rdrop_any h.wl hB hf gen).mono fun _ _ ⟨he, hs⟩ => ⟨he, h.step_l hs⟩
theorem good_put {c : Cf} {e : Eg} (h : Good c e) {x : Lz} (hx : Lease.Nums x) : Good c ⟨(Lease.put e.L x).1, e.Q, e.D⟩ := ⟨Lease.good_put h.l hx, h.q, h.until'⟩
set_option maxRecDepth 100000 in
set_option maxHeartbeats 4000000 in
theorem rgrant_any {B v : Nat} {c : Cf} {e : Eg} {w : World} (h : Ed B w v c e) (hB : B ≤ w.heap.size) (hg : Good c e) (hf : e.L.length ≤ 150 ∧ e.Q.length ≤ 150 ∧ e.D.length ≤ 150) (x : Lz) (hx : Lease.Nums x) (now : Int) :
    Calls Tryz.prog 31 #[.pointer (some ⟨v, 0, none⟩), Lease.val x, .int .i64 now] w fun e' w' => ∃ y, e' = .returned y ∧ Told w' y (grant e x now).2 ∧ EStep B w v c (grant e x now).1 w' := by
  have c1 := fun u (hu : Below w.heap.size w u) => rput_ed (h.below hB hu) (Nat.le_trans hB hu.size) (by omega) x
  have c2 := fun u (hs : Ed B u v c ⟨(Lease.put e.L x).1, e.Q, e.D⟩) (hb : B ≤ u.heap.size) => rserve_any hs hb (good_put hg hx) ⟨by have := Lease.len_put e.L x; simp only; omega, by simp only; omega, by simp only; omega⟩ x.key now
  have hG : grant e x now = if (Lease.put e.L x).2 = 0 then serve ⟨(Lease.put e.L x).1, e.Q, e.D⟩ x.key now else (e, []) := rfl
  have hno : (Lease.put e.L x).2 ≠ 0 → (Lease.put e.L x).1 = e.L := by
    unfold Lease.put
    split
    · intro _; rfl
    · split
      · intro _; rfl
      · intro h0; exact absurd rfl h0
  have HS := Lib.hid (fun u (hu : Below w.heap.size w u) => EStep.same h hB hu)
  have HB := Lib.hid hB
  generalize grant e x now = R at *
  generalize Lease.put e.L x = P at *
  obtain ⟨L', f⟩ := P
  simp only at *
  have HX := Lib.hid (lay w (.cells #[.int .i64 x.key, .int .i64 x.gen, .int .i64 x.amount, .int .i64 x.spent, .int .i64 x.til] 93))
  obtain ⟨b0, b1, b2, b3, b4⟩ := Kit.box5 (heap_alloc_new w (.cells #[.int .i64 x.key, .int .i64 x.gen, .int .i64 x.amount, .int .i64 x.spent, .int .i64 x.til] 93))
  have HK := Lib.hid (heap_alloc_new w (.cells #[.int .i64 x.key, .int .i64 x.gen, .int .i64 x.amount, .int .i64 x.spent, .int .i64 x.til] 93))
  have HVL := Lib.hid h.lt
  obtain ⟨xk, xg, xa, xs, xt⟩ := x
  simp only [Lease.val] at *
  clear h hg hf hx
  have five := fun (u : World) (h : u.heap[w.heap.size]? = some (.cells #[.int .i64 xk, .int .i64 xg, .int .i64 xa, .int .i64 xs, .int .i64 xt] 93 (0, 0))) => Kit.box5 h
  have HF := Lib.hid five
  clear five
  by_cases hf : f = 0
  · subst hf
    rw [if_pos rfl] at hG
    subst hG
    clear hno
    go_enter Tryz.func31, Tryz.ntmps31
    go_wp2
    generalize w.alloc (.cells #[.int .i64 xk, .int .i64 xg, .int .i64 xa, .int .i64 xs, .int .i64 xt] 93) = w0 at *
    go_region_held3 (fun u => u.cell? ⟨w.heap.size, 0, none⟩ = some (.int .i64 xk) ∧ u.cell? ⟨w.heap.size, 1, none⟩ = some (.int .i64 xg) ∧ u.cell? ⟨w.heap.size, 2, none⟩ = some (.int .i64 xa) ∧ u.cell? ⟨w.heap.size, 3, none⟩ = some (.int .i64 xs) ∧ u.cell? ⟨w.heap.size, 4, none⟩ = some (.int .i64 xt)) (first | assumption | exact ⟨b0, b1, b2, b3, b4⟩) (first
      | (go_at_call 70; (with_reducible refine (c1 _ HX.out.drew).mono ?_); rintro e1 w1 ⟨rfl, h1⟩; have H1 := Lib.hid h1; have K1 := Lib.hid ((h1.only w.heap.size (by have := HVL.out; omega) (lt_of_heap HK.out)).trans HK.out); have y1 := HF.out _ K1.out; clear h1 c1))
    clear b0 b1 b2 b3 b4
    obtain ⟨b0, b1, b2, b3, b4⟩ := y1
    have hb1 := Lib.hid (Nat.le_trans HB.out (Nat.le_trans HX.out.drew.size H1.out.size))
    go_wp2_with (go_at_call 71; (with_reducible refine (c2 _ H1.out.ed hb1.out).mono ?_); rintro e1 w2 ⟨y, rfl, ht, h2⟩; have H2 := Lib.hid h2; have HT := Lib.hid ht; clear h2 ht c2)
    go_ret
    exact ⟨y, rfl, HT.out, (HS.out _ HX.out.drew).trans (H1.out.trans H2.out)⟩
  · rw [if_neg hf] at hG
    subst hG
    obtain rfl := hno hf
    have hf2 : (f != 0) = true := by simp [hf]
    clear hno c2
    go_enter Tryz.func31, Tryz.ntmps31
    go_wp2
    generalize w.alloc (.cells #[.int .i64 xk, .int .i64 xg, .int .i64 xa, .int .i64 xs, .int .i64 xt] 93) = w0 at *
    go_region_held3 (fun u => u.cell? ⟨w.heap.size, 0, none⟩ = some (.int .i64 xk) ∧ u.cell? ⟨w.heap.size, 1, none⟩ = some (.int .i64 xg) ∧ u.cell? ⟨w.heap.size, 2, none⟩ = some (.int .i64 xa) ∧ u.cell? ⟨w.heap.size, 3, none⟩ = some (.int .i64 xs) ∧ u.cell? ⟨w.heap.size, 4, none⟩ = some (.int .i64 xt)) (first | assumption | exact ⟨b0, b1, b2, b3, b4⟩) (first
      | (go_at_call 70; (with_reducible refine (c1 _ HX.out.drew).mono ?_); rintro e1 w1 ⟨rfl, h1⟩; have H1 := Lib.hid h1; have K1 := Lib.hid ((h1.only w.heap.size (by have := HVL.out; omega) (lt_of_heap HK.out)).trans HK.out); have y1 := HF.out _ K1.out; clear h1 c1))
    clear b0 b1 b2 b3 b4
    go_wp2
    go_ret
    exact ⟨_, rfl, told_none _, (HS.out _ HX.out.drew).trans H1.out⟩
set_option maxRecDepth 100000 in
set_option maxHeartbeats 4000000 in
theorem rclose_any {B v : Nat} {c : Cf} {e : Eg} {w : World} (h : Ed B w v c e) (hB : B ≤ w.heap.size) (hf : e.L.length ≤ 150 ∧ e.Q.length ≤ 150 ∧ e.D.length ≤ 150) (key gen : Int) :
    Calls Tryz.prog 32 #[.pointer (some ⟨v, 0, none⟩), .int .i64 key, .int .i64 gen] w fun e' w' => e' = .returned (.int .i64 (close e key gen).2) ∧ EStep B w v c (close e key gen).1 w' := by
  have c1 := rclose_ed h hB (by omega) key gen
  have c2 := fun u (hs : Ed B u v c ⟨(Lease.close e.L key gen).1, e.Q, e.D⟩) (hb : B ≤ u.heap.size) => rnote_ed hs hb (by simp only; omega) key (Lease.close e.L key gen).2
  have hG : close e key gen = (⟨(Lease.close e.L key gen).1, e.Q, if 0 ≤ (Lease.close e.L key gen).2 then e.D ++ [⟨key, (Lease.close e.L key gen).2⟩] else e.D⟩, (Lease.close e.L key gen).2) := rfl
  have HB := Lib.hid hB
  generalize close e key gen = R at *
  generalize Lease.close e.L key gen = P at *
  obtain ⟨L', n⟩ := P
  simp only at *
  clear h hf
  by_cases hn : 0 ≤ n
  · rw [if_pos hn] at hG
    subst hG
    generalize Demand.of (e.D ++ [⟨key, n⟩]) key = dv at *
    go_enter Tryz.func32, Tryz.ntmps32
    go_wp2_with (first
      | (go_at_call 72; (with_reducible refine c1.mono ?_); rintro e1 w1 ⟨rfl, h1⟩; have H1 := Lib.hid h1; clear h1 c1)
      | (go_at_call 73; (with_reducible refine (c2 _ H1.out.ed (Nat.le_trans HB.out H1.out.size)).mono ?_); rintro e1 w2 ⟨rfl, h2⟩; have H2 := Lib.hid h2; clear h2 c2))
    go_ret
    exact ⟨rfl, H1.out.trans H2.out⟩
  · rw [if_neg hn] at hG
    subst hG
    clear c2
    go_enter Tryz.func32, Tryz.ntmps32
    go_wp2_with (go_at_call 72; (with_reducible refine c1.mono ?_); rintro e1 w1 ⟨rfl, h1⟩; have H1 := Lib.hid h1; clear h1 c1)
    go_ret
    exact ⟨rfl, H1.out⟩
set_option maxRecDepth 100000 in
theorem rexpire_any {B v : Nat} {c : Cf} {e : Eg} {w : World} (h : Ed B w v c e) (hB : B ≤ w.heap.size) (hf : e.Q.length ≤ 150) (now : Int) :
    Calls Tryz.prog 34 #[.pointer (some ⟨v, 0, none⟩), .int .i64 now] w fun e' w' => ∃ y, e' = .returned y ∧ Told w' y (expire e now).2 ∧ EStep B w v c (expire e now).1 w' := by
  have c1 := rexpire_ed h hB (by omega) now
  have hlen : (Queue.expire e.Q now).2.length ≤ 1000 := Nat.le_trans (List.length_filter_le _ _) (by omega)
  have c2 := fun u p k (hl : Lies Queue.item u p (Queue.expire e.Q now).2) => rall_any (d := k) hl hlen 3
  have hG : expire e now = (⟨e.L, (Queue.expire e.Q now).1, e.D⟩, all (Queue.expire e.Q now).2 3) := rfl
  have HB := Lib.hid hB
  rw [hG]
  generalize all (Queue.expire e.Q now).2 3 = A at *
  generalize Queue.expire e.Q now = P at *
  obtain ⟨Q', l⟩ := P
  simp only at *
  clear h hf hG
  go_enter Tryz.func34, Tryz.ntmps34
  go_wp2_with (first
    | (go_at_call 76; (with_reducible refine c1.mono ?_); rintro e1 w1 ⟨p, k, rfl, hl, h1⟩; have H1 := Lib.hid h1; have HL := Lib.hid hl; clear h1 hl c1)
    | (go_at_call 75; (with_reducible refine (c2 _ _ _ HL.out).mono ?_); rintro e1 w2 ⟨y, rfl, ht, hb⟩; have HT := Lib.hid ht; have HB2 := Lib.hid hb; clear ht hb c2))
  go_ret
  exact ⟨y, rfl, HT.out, H1.out.on (Nat.le_trans HB.out H1.out.size) HB2.out⟩
end Go.Proofs.YtlbpeeelgpjciaaGreat.Edge

namespace Go.Proofs.YtlbpeeelgpjciaaGreat.Edge
open Go.RowKit
open _root_.Go.Proofs.YtlbpeeelgpjciaaGreat.Codec (lt_of_heap frozen_of heap_set below_new)
open _root_.Go.Proofs.YtlbpeeelgpjciaaGreat.Kit (Enc Lies At Kept Laid Off cell_on lt_heap take_snoc below_drewN)
open _root_.Go.Proofs.YtlbpeeelgpjciaaGreat.Lease (Lz spend)
open _root_.Go.Proofs.YtlbpeeelgpjciaaGreat.Queue (It take)
open _root_.Go.Proofs.YtlbpeeelgpjciaaGreat.Demand (Nt)

theorem without_at {Q l : List It} {j : Nat} (h : j < l.length) : without Q (l.take (j + 1)) = (take (without Q (l.take j)) (l.getD j Queue.z).id).1 := by
  unfold without
  rw [take_snoc Queue.z h, List.foldl_append]
  rfl
theorem without_len (Q : List It) : ∀ l : List It, (without Q l).length ≤ Q.length := by
  intro l
  induction l generalizing Q with
  | nil => exact Nat.le_refl _
  | cons x l ih =>
    refine Nat.le_trans (ih (take Q x.id).1) ?_
    unfold take
    split
    · exact Nat.le_refl _
    · exact (List.eraseIdx_sublist _ _).length_le
set_option maxRecDepth 100000 in
set_option maxHeartbeats 4000000 in
theorem rrefuse_any {B v : Nat} {c : Cf} {e : Eg} {w : World} (h : Ed B w v c e) (hB : B ≤ w.heap.size) (hf : e.Q.length ≤ 150) (key why : Int) :
    Calls Tryz.prog 35 #[.pointer (some ⟨v, 0, none⟩), .int .i64 key, .int .i64 why] w fun e' w' => ∃ y, e' = .returned y ∧ Told w' y (refuse e key why).2 ∧ EStep B w v c (refuse e key why).1 w' := by
  have HBB := Lib.hid hB
  have HV := Lib.hid h
  have c0 := Queue2.rof_own h.qu (by omega) key
  have hlen := Queue.of_len e.Q key
  have SV := Lib.hid (show refuse e key why = (⟨e.L, without e.Q (Queue.of e.Q key), e.D⟩, all (Queue.of e.Q key) why) from rfl)
  generalize refuse e key why = R at *
  generalize Queue.of e.Q key = l at *
  have c2 := fun u p k (hl : Lies Queue.item u p l) => rall_any (d := k) hl (by omega) why
  have SS := Lib.hid (fun (j : Nat) (hj : j < l.length) => without_at (Q := e.Q) hj)
  have S0 := Lib.hid (show without e.Q (l.take 0) = e.Q from rfl)
  have SL := Lib.hid (show without e.Q l = without e.Q (l.take l.length) by rw [List.take_length])
  have SN := Lib.hid (fun j => Nat.le_trans (without_len e.Q (l.take j)) (show e.Q.length ≤ 1000 by omega))
  generalize all l why = A at *
  clear h hB
  go_enter Tryz.func35, Tryz.ntmps35
  go_wp2_with (go_at_call 77; (with_reducible refine c0.mono ?_); rintro e1 w1 ⟨p, d, rfl, ho, hb⟩; have HO := Lib.hid ho; have HB1 := Lib.hid hb; clear ho hb c0)
  have HV1 := Lib.hid (HV.out.below HBB.out HB1.out)
  have HB2 := Lib.hid (Nat.le_trans HBB.out HB1.out.size)
  have HS0 := Lib.hid (EStep.same HV.out HBB.out HB1.out)
  go_loopw [8] (fun i wr => ∃ (j : Nat), j ≤ l.length ∧ i = .int .i64 (j : Int) ∧ Hid (EStep B w1 v c ⟨e.L, without e.Q (l.take j), e.D⟩ wr)) (fun i _ => l.length - (intOf i).toNat)
  case atStart => exact ⟨0, by omega, rfl, by rw [S0.out]; exact Lib.hid (EStep.same HV1.out HB2.out (Below.refl _ _))⟩
  case round =>
    obtain ⟨j, hj, rfl, hst⟩ := hrel
    by_cases hlt : j < l.length
    · have hlt' : (j : Int) < (l.length : Int) := by omega
      obtain ⟨g, cs, rfl, hblk, hats⟩ := own_row HO.out (by omega)
      have HAT := Lib.hid (fun u e' (hu : EStep B w1 v c e' u) => Queue.at5 (at_step (by decide) hblk (hats j hlt) HV1.out hu))
      obtain ⟨k0, k1, k2, k3, k4⟩ := HAT.out _ _ hst.out
      have HSS := Lib.hid (SS.out j hlt)
      have hEB := Lib.hid (Nat.le_trans HB2.out hst.out.size)
      have R2 := Lib.hid (fun u (hu : Ed B u v c ⟨e.L, without e.Q (l.take j), e.D⟩) (hb : B ≤ u.heap.size) => rtake_ed hu hb (SN.out j) (l.getD j Queue.z).id)
      simp only [show Queue.item.n = 5 from rfl, show Queue.item.z = Queue.z from rfl] at k0 k1 k2 k3 k4 HAT
      clear hats hblk SS SN S0 SL k1 k2 k3 k4
      generalize l.getD j Queue.z = x at *
      obtain ⟨xi, xk, xc, xs, xt⟩ := x
      simp only at *
      go_wp2
      have hsd := Lib.hid (EStep.on hst.out hEB.out (Below.refl _ wr).drew)
      go_region_held3 (fun u => u.cell? ⟨g, j * 5, none⟩ = some (.int .i64 xi)) (first | assumption) (first
        | (go_at_call 78; (with_reducible refine (R2.out _ hsd.out.ed (Nat.le_trans HB2.out hsd.out.size)).mono ?_); rintro e1 w4 ⟨rfl, h4⟩; have T4 := Lib.hid (hsd.out.trans h4); have y4 := (HAT.out _ _ T4.out).1; clear h4 R2))
      go_wp2
      go_roundw
      case rel => exact ⟨j + 1, by omega, by go_num, by rw [HSS.out]; exact T4⟩
      case measure => simp only [intOf]; omega
    · have hlt' : ¬ (j : Int) < (l.length : Int) := by omega
      obtain rfl : j = l.length := by omega
      have HR := Lib.hid (show R = (⟨e.L, without e.Q (l.take l.length), e.D⟩, A) by rw [SV.out, SL.out])
      have HOW := Lib.hid (own_step HO.out HV1.out hst.out)
      obtain ⟨p', k', e', hl'⟩ := Kit.Own.lies HOW.out
      simp only [Value.slice.injEq] at e'
      obtain ⟨rfl, -, rfl⟩ := e'
      have HLI := Lib.hid hl'
      clear SV SL SS SN S0 hl'
      go_wp2_with (go_at_call 75; (with_reducible refine (c2 _ _ _ HLI.out).mono ?_); rintro e1 w5 ⟨y, rfl, ht, hb⟩; have HT := Lib.hid ht; have HB5 := Lib.hid hb; clear ht hb c2)
      go_ret
      exact ⟨y, rfl, by rw [HR.out]; exact HT.out, by rw [HR.out]; exact HS0.out.trans (hst.out.on (Nat.le_trans HB2.out hst.out.size) HB5.out)⟩
end Go.Proofs.YtlbpeeelgpjciaaGreat.Edge

namespace Go.Proofs.YtlbpeeelgpjciaaGreat.Edge
open Go.RowKit
open _root_.Go.Proofs.YtlbpeeelgpjciaaGreat.Codec (lt_of_heap frozen_of heap_set below_new)
open _root_.Go.Proofs.YtlbpeeelgpjciaaGreat.Kit (Enc Lies At Kept Laid Off cell_on lt_heap take_snoc below_drewN)
open _root_.Go.Proofs.YtlbpeeelgpjciaaGreat.Lease (Lz spend)
open _root_.Go.Proofs.YtlbpeeelgpjciaaGreat.Queue (It take)
open _root_.Go.Proofs.YtlbpeeelgpjciaaGreat.Demand (Nt)

/-- Three cells are emptied. -/
theorem Ed.emptied {w : World} {B v : Nat} {c : Cf} {e : Eg} (h : Ed B w v c e) (_ : B ≤ w.heap.size) : EStep B w v c e0 (((w.setCell ⟨v, 11, none⟩ (.slice none 0 0)).setCell ⟨v, 9, none⟩ (.slice none 0 0)).setCell ⟨v, 12, none⟩ (.slice none 0 0)) := by
  obtain ⟨h0, cs, p, k, yL, yQ, yD, h1, h2, h3, h4, h5, h6, h7, h8, h9, h10⟩ := h
  have l9 : 9 < cs.size := (Array.getElem?_eq_some_iff.1 h4).1
  have l11 : 11 < cs.size := (Array.getElem?_eq_some_iff.1 h7).1
  have l12 : 12 < cs.size := (Array.getElem?_eq_some_iff.1 h9).1
  have e3 := heap_set v 12 _ (.slice none 0 0) (heap_set v 9 _ (.slice none 0 0) (heap_set v 11 _ (.slice none 0 0) h1))
  have hb : Below B w (((w.setCell ⟨v, 11, none⟩ (.slice none 0 0)).setCell ⟨v, 9, none⟩ (.slice none 0 0)).setCell ⟨v, 12, none⟩ (.slice none 0 0)) :=
    (((Below.refl B w).setCell (p := ⟨v, 11, none⟩) h0 _).setCell (p := ⟨v, 9, none⟩) h0 _).setCell (p := ⟨v, 12, none⟩) h0 _
  refine ⟨⟨h0, _, p, k, .slice none 0 0, .slice none 0 0, .slice none 0 0, e3, h2.on fun i hi => ?_, h3.on hb, ?_, World.ownsRow_nil _ _ _ _, ?_, ?_, Kit.Own.none _ _ _ _, ?_, Kit.Own.none _ _ _ _⟩, fun g hn hg => ?_, hb, by simp⟩
  · rw [Array.getElem?_setIfInBounds, if_neg (by omega), Array.getElem?_setIfInBounds, if_neg (by omega), Array.getElem?_setIfInBounds, if_neg (by omega)]
  · simp [l9]
  · simpa [Array.getElem?_setIfInBounds] using h6
  · simp [l11]
  · simp [l12]
  · exact (Below.heap_setCell _ _ _ _ hn).trans ((Below.heap_setCell _ _ _ _ hn).trans (Below.heap_setCell _ _ _ _ hn))
set_option maxRecDepth 100000 in
set_option maxHeartbeats 4000000 in
theorem rcrash_any {B v : Nat} {c : Cf} {e : Eg} {w : World} (h : Ed B w v c e) (hB : B ≤ w.heap.size) (hf : e.Q.length ≤ 150) :
    Calls Tryz.prog 36 #[.pointer (some ⟨v, 0, none⟩)] w fun e' w' => ∃ y, e' = .returned y ∧ Told w' y (crash e).2 ∧ EStep B w v c (crash e).1 w' := by
  have HE := Lib.hid (h.emptied hB)
  have HB := Lib.hid hB
  have HLQ := Lib.hid (fun u e' (hu : EStep B w v c e' u) => show ∃ p d, w.cell? ⟨v, 11, none⟩ = some (.slice p e.Q.length d) ∧ Lies Queue.item u p e.Q from by
    obtain ⟨h0, cs, p, k, yL, yQ, yD, h1, h2, h3, h4, h5, h6, h7, h8, h9, h10⟩ := h
    have h8' := own_step h8 ⟨h0, cs, p, k, yL, yQ, yD, h1, h2, h3, h4, h5, h6, h7, h8, h9, h10⟩ hu
    obtain ⟨q, d, rfl, hl⟩ := Kit.Own.lies h8'
    exact ⟨q, d, by rw [cell_of_row w v 11 _ _ (0, 0) h1, h7], hl⟩)
  have hG : crash e = (e0, all e.Q 8) := rfl
  rw [hG]
  obtain ⟨p, d, w11, hl⟩ := HLQ.out _ _ HE.out
  have HL := Lib.hid hl
  obtain ⟨f11, u9, d9, f9, u12, d12, f12⟩ : w.frozen? ⟨v, 11, none⟩ = false ∧ ∃ u9, (w.setCell ⟨v, 11, none⟩ (.slice none 0 0)).cell? ⟨v, 9, none⟩ = some u9 ∧ (w.setCell ⟨v, 11, none⟩ (.slice none 0 0)).frozen? ⟨v, 9, none⟩ = false ∧
      ∃ u12, ((w.setCell ⟨v, 11, none⟩ (.slice none 0 0)).setCell ⟨v, 9, none⟩ (.slice none 0 0)).cell? ⟨v, 12, none⟩ = some u12 ∧ ((w.setCell ⟨v, 11, none⟩ (.slice none 0 0)).setCell ⟨v, 9, none⟩ (.slice none 0 0)).frozen? ⟨v, 12, none⟩ = false := by
    obtain ⟨h0, cs, p, k, yL, yQ, yD, h1, h2, h3, h4, h5, h6, h7, h8, h9, h10⟩ := h
    have e1 := heap_set v 11 _ (.slice none 0 0) h1
    have e2 := heap_set v 9 _ (.slice none 0 0) e1
    refine ⟨frozen_of h1, yL, ?_, frozen_of e1, yD, ?_, frozen_of e2⟩
    · rw [cell_of_row _ v 9 _ _ (0, 0) e1, Array.getElem?_setIfInBounds, if_neg (by omega)]
      exact h4
    · rw [cell_of_row _ v 12 _ _ (0, 0) e2, Array.getElem?_setIfInBounds, if_neg (by omega), Array.getElem?_setIfInBounds, if_neg (by omega)]
      exact h9
  have c2 := fun u p k (hl : Lies Queue.item u p e.Q) => rall_any (d := k) hl (by omega) 8
  have hvl := h.lt
  generalize all e.Q 8 = A at *
  generalize e.Q = Q at *
  clear h hl HLQ hG
  go_enter Tryz.func36, Tryz.ntmps36
  go_wp2_with (go_at_call 75; (with_reducible refine (c2 _ _ _ HL.out).mono ?_); rintro e1 w5 ⟨y, rfl, ht, hb⟩; have HT := Lib.hid ht; have HB5 := Lib.hid hb; clear ht hb c2)
  go_ret
  exact ⟨y, rfl, HT.out, HE.out.on (Nat.le_trans HB.out HE.out.size) HB5.out⟩
end Go.Proofs.YtlbpeeelgpjciaaGreat.Edge

namespace Go.Proofs.YtlbpeeelgpjciaaGreat.Conf
open Go.RowKit Ring

set_option maxRecDepth 100000 in
set_option maxHeartbeats 1000000 in
theorem rate_none (n sk tl va lo he ke qu : Int) (p : Option Addr) (l c : Nat) (key : Int) (w : World) (h : within key 0 524287 = false ∨ (within key 0 524287 = true ∧ 0 ≤ key ∧ key ≤ 524287 ∧ (l : Int) ≤ key / 65536)) :
    Calls Tryz.prog 96 #[.agg #[.int .i64 n, .int .i64 sk, .int .i64 tl, .int .i64 va, .int .i64 lo, .int .i64 he, .int .i64 ke, .int .i64 qu, .slice p l c], .int .i64 key] w fun e w' => e = .returned (.tuple #[.agg #[.int .i64 0, .int .i64 0], .bool false]) ∧ Below w.heap.size w w' := by
  rcases h with h | ⟨h, h1, h1', h2⟩
  all_goals
    go_enter Tryz.func96, Tryz.ntmps96
    go_wp2_with (go_at_call 135; refine (right_any _ _).mono ?_; rintro e w' ⟨rfl, rfl⟩)
    refine bodyPost_ret (v := .tuple #[.agg #[.int .i64 0, .int .i64 0], .bool false]) (by simp [results, Tryz.results96, go_sem]) rfl ⟨rfl, (below_new _ _).trans ((below_new _ _).mono (by simp))⟩

set_option maxRecDepth 100000 in
set_option maxHeartbeats 1000000 in
theorem rate_some (n sk tl va lo he ke qu : Int) (b o l c k : Nat) (key x y : Int) (w : World) (h : within key 0 524287 = true) (h0 : 0 ≤ key) (h0' : key ≤ 524287) (hk : key / 65536 = (k : Int)) (hl : (k : Int) < (l : Int))
    (g1 : w.cell? ⟨b, o + k * 2, none⟩ = some (.int .i64 x)) (g2 : w.cell? ⟨b, o + k * 2 + 1, none⟩ = some (.int .i64 y)) :
    Calls Tryz.prog 96 #[.agg #[.int .i64 n, .int .i64 sk, .int .i64 tl, .int .i64 va, .int .i64 lo, .int .i64 he, .int .i64 ke, .int .i64 qu, .slice (some ⟨b, o, none⟩) l c], .int .i64 key] w fun e w' => e = .returned (.tuple #[.agg #[.int .i64 x, .int .i64 y], .bool true]) ∧ Below w.heap.size w w' := by
  have g3 := cell_stays (below_new w (.cells #[.int .i64 n, .int .i64 sk, .int .i64 tl, .int .i64 va, .int .i64 lo, .int .i64 he, .int .i64 ke, .int .i64 qu, .slice (some ⟨b, o, none⟩) l c] 24)) g1
  have g4 := cell_stays (below_new w (.cells #[.int .i64 n, .int .i64 sk, .int .i64 tl, .int .i64 va, .int .i64 lo, .int .i64 he, .int .i64 ke, .int .i64 qu, .slice (some ⟨b, o, none⟩) l c] 24)) g2
  have g5 := cell_stays (below_new _ (.cells #[.int .i64 0, .int .i64 0] 82)) g3
  have g6 := cell_stays (below_new _ (.cells #[.int .i64 0, .int .i64 0] 82)) g4
  clear g1 g2 g3 g4
  go_enter Tryz.func96, Tryz.ntmps96
  go_wp2_with (go_at_call 135; refine (right_any _ _).mono ?_; rintro e w' ⟨rfl, rfl⟩)
  refine bodyPost_ret (v := .tuple #[.agg #[.int .i64 x, .int .i64 y], .bool true]) (by simp [results, Tryz.results96, go_sem]) rfl ⟨rfl, (below_new _ _).trans ((below_new _ _).mono (by simp))⟩

set_option maxRecDepth 100000 in
set_option maxHeartbeats 1000000 in
theorem refrate_none (n sk tl va lo he ke qu : Int) (p : Option Addr) (l c : Nat) (key : Int) (w : World) (h : within key 0 524287 = false ∨ (within key 0 524287 = true ∧ 0 ≤ key ∧ key ≤ 524287 ∧ (l : Int) ≤ key / 65536)) :
    Calls Tryz.prog 81 #[.agg #[.int .i64 n, .int .i64 sk, .int .i64 tl, .int .i64 va, .int .i64 lo, .int .i64 he, .int .i64 ke, .int .i64 qu, .slice p l c], .int .i64 key] w fun e w' => e = .returned (.int .i64 (-1)) ∧ Below w.heap.size w w' := by
  rcases h with h | ⟨h, h1, h1', h2⟩
  all_goals
    go_enter Tryz.func81, Tryz.ntmps81
    go_wp2_with (go_at_call 79; refine (refright_any _ _).mono ?_; rintro e w' ⟨rfl, rfl⟩)
    go_ret
    exact ⟨rfl, below_new _ _⟩

set_option maxRecDepth 100000 in
set_option maxHeartbeats 1000000 in
theorem refrate_some (n sk tl va lo he ke qu : Int) (p : Option Addr) (l c k : Nat) (key : Int) (w : World) (h : within key 0 524287 = true) (h0 : 0 ≤ key) (h0' : key ≤ 524287) (hk : key / 65536 = (k : Int)) (hl : (k : Int) < (l : Int)) :
    Calls Tryz.prog 81 #[.agg #[.int .i64 n, .int .i64 sk, .int .i64 tl, .int .i64 va, .int .i64 lo, .int .i64 he, .int .i64 ke, .int .i64 qu, .slice p l c], .int .i64 key] w fun e w' => e = .returned (.int .i64 (k : Int)) ∧ Below w.heap.size w w' := by
  go_enter Tryz.func81, Tryz.ntmps81
  go_wp2_with (go_at_call 79; refine (refright_any _ _).mono ?_; rintro e w' ⟨rfl, rfl⟩)
  go_ret
  exact ⟨ret_int hk, below_new _ _⟩
end Go.Proofs.YtlbpeeelgpjciaaGreat.Conf
