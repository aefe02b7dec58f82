/-
  An act on the program's edge (annonalaw14's step), of any act.
  The document's at, of any wallet of up to 1000 leases; of what lay when the call began nothing has turned.
  The document's gone, of any wallet of up to 1000 leases and any place in it.
  The document's Left and Close, of any good wallet of up to 1000 leases.
  The document's Same, of any two lists of leases; the law's Of.
-/
import Derived.Deep.QuietTactic
import Derived.BigQuiet
import Derived.Laws.StructEq
import Derived.Test.YtlbpeeelgpjciaaGreatMgAl
import Derived.Test.YtlbpeeelgpjciaaGreatMgAd
namespace Go.Proofs.YtlbpeeelgpjciaaGreat.Edge
open Go.RowKit
open _root_.Go.Proofs.YtlbpeeelgpjciaaGreat.Codec (lt_of_heap frozen_of heap_set below_new)
open _root_.Go.Proofs.YtlbpeeelgpjciaaGreat.Kit (Enc Lies At Kept Laid Off cell_on lt_heap take_snoc below_drewN)
open _root_.Go.Proofs.YtlbpeeelgpjciaaGreat.Lease (Lz Num)
open _root_.Go.Proofs.YtlbpeeelgpjciaaGreat.Queue (It)

def actVal (a : Ac) : Value := .agg #[.int .u8 a.kind, .int .i64 a.r.id, .int .i64 a.r.key, .int .i64 a.r.cost, .int .i64 a.r.cls, .int .i64 a.r.wait, .int .i64 a.l.key, .int .i64 a.l.gen, .int .i64 a.l.amount, .int .i64 a.l.spent, .int .i64 a.l.til, .int .i64 a.why, .int .i64 a.now]
def actBox (a : Ac) : Obj := .cells #[.int .u8 a.kind, .int .i64 a.r.id, .int .i64 a.r.key, .int .i64 a.r.cost, .int .i64 a.r.cls, .int .i64 a.r.wait, .int .i64 a.l.key, .int .i64 a.l.gen, .int .i64 a.l.amount, .int .i64 a.l.spent, .int .i64 a.l.til, .int .i64 a.why, .int .i64 a.now] 43
theorem kinds {k : Int} (_ : 0 ≤ k) : k % 10 = 4 ∨ k % 10 = 5 ∨ k % 10 = 6 ∨ k % 10 = 7 ∨ k % 10 = 8 ∨ k % 10 = 9 ∨ (k % 10 = 0 ∨ k % 10 = 1 ∨ k % 10 = 2 ∨ k % 10 = 3) := by omega
theorem Moved.lift {PW : Pw} {B q : Nat} {c : Cf} {e : Eg} {w u w' : World} (hB : B ≤ w.heap.size) (hb : Below w.heap.size w u) (h : Moved PW B u q c e w') : Moved PW B w q c e w' :=
  ⟨h.pw, (Off.of_below hb).trans h.off, (hb.mono hB).trans h.below⟩
/-- The thirteen cells of an act. -/
structure Box (w : World) (b : Nat) (a : Ac) : Prop where
  k0 : w.cell? ⟨b, 0, none⟩ = some (.int .u8 a.kind)
  k1 : w.cell? ⟨b, 1, none⟩ = some (.int .i64 a.r.id)
  k2 : w.cell? ⟨b, 2, none⟩ = some (.int .i64 a.r.key)
  k3 : w.cell? ⟨b, 3, none⟩ = some (.int .i64 a.r.cost)
  k4 : w.cell? ⟨b, 4, none⟩ = some (.int .i64 a.r.cls)
  k5 : w.cell? ⟨b, 5, none⟩ = some (.int .i64 a.r.wait)
  k6 : w.cell? ⟨b, 6, none⟩ = some (.int .i64 a.l.key)
  k7 : w.cell? ⟨b, 7, none⟩ = some (.int .i64 a.l.gen)
  k8 : w.cell? ⟨b, 8, none⟩ = some (.int .i64 a.l.amount)
  k9 : w.cell? ⟨b, 9, none⟩ = some (.int .i64 a.l.spent)
  k10 : w.cell? ⟨b, 10, none⟩ = some (.int .i64 a.l.til)
  k11 : w.cell? ⟨b, 11, none⟩ = some (.int .i64 a.why)
  k12 : w.cell? ⟨b, 12, none⟩ = some (.int .i64 a.now)
theorem box_new (w : World) (a : Ac) : Box (w.alloc (actBox a)) w.heap.size a := by
  have h := heap_alloc_new w (actBox a)
  unfold actBox at h ⊢
  exact ⟨by rw [cell_of_row _ _ 0 _ _ (0, 0) h]; rfl, by rw [cell_of_row _ _ 1 _ _ (0, 0) h]; rfl, by rw [cell_of_row _ _ 2 _ _ (0, 0) h]; rfl, by rw [cell_of_row _ _ 3 _ _ (0, 0) h]; rfl, by rw [cell_of_row _ _ 4 _ _ (0, 0) h]; rfl, by rw [cell_of_row _ _ 5 _ _ (0, 0) h]; rfl, by rw [cell_of_row _ _ 6 _ _ (0, 0) h]; rfl,
    by rw [cell_of_row _ _ 7 _ _ (0, 0) h]; rfl, by rw [cell_of_row _ _ 8 _ _ (0, 0) h]; rfl, by rw [cell_of_row _ _ 9 _ _ (0, 0) h]; rfl, by rw [cell_of_row _ _ 10 _ _ (0, 0) h]; rfl, by rw [cell_of_row _ _ 11 _ _ (0, 0) h]; rfl, by rw [cell_of_row _ _ 12 _ _ (0, 0) h]; rfl⟩
theorem act4 {c : Cf} {e : Eg} {a : Ac} (h : a.kind % 10 = 4) : actOf c e a = ((grant e a.l a.now).1, (grant e a.l a.now).2, 0) := if_pos h
theorem act5 {c : Cf} {e : Eg} {a : Ac} (h : a.kind % 10 = 5) : actOf c e a = ((close e a.l.key a.l.gen).1, [], (close e a.l.key a.l.gen).2) := (if_neg (by omega)).trans (if_pos h)
theorem act6 {c : Cf} {e : Eg} {a : Ac} (h : a.kind % 10 = 6) : actOf c e a = (drop e a.l.gen, [], 0) := (if_neg (by omega)).trans ((if_neg (by omega)).trans (if_pos h))
theorem act7 {c : Cf} {e : Eg} {a : Ac} (h : a.kind % 10 = 7) : actOf c e a = ((expire e a.now).1, (expire e a.now).2, 0) := (if_neg (by omega)).trans ((if_neg (by omega)).trans ((if_neg (by omega)).trans (if_pos h)))
theorem act8 {c : Cf} {e : Eg} {a : Ac} (h : a.kind % 10 = 8) : actOf c e a = ((refuse e a.l.key a.why).1, (refuse e a.l.key a.why).2, 0) := (if_neg (by omega)).trans ((if_neg (by omega)).trans ((if_neg (by omega)).trans ((if_neg (by omega)).trans (if_pos h))))
theorem act9 {c : Cf} {e : Eg} {a : Ac} (h : a.kind % 10 = 9) : actOf c e a = ((crash e).1, (crash e).2, 0) := (if_neg (by omega)).trans ((if_neg (by omega)).trans ((if_neg (by omega)).trans ((if_neg (by omega)).trans ((if_neg (by omega)).trans (if_pos h)))))
theorem act0 {c : Cf} {e : Eg} {a : Ac} (h : a.kind % 10 = 0 ∨ a.kind % 10 = 1 ∨ a.kind % 10 = 2 ∨ a.kind % 10 = 3) : actOf c e a = ((ask c e a.r a.now).1, (ask c e a.r a.now).2, 0) :=
  (if_neg (by omega)).trans ((if_neg (by omega)).trans ((if_neg (by omega)).trans ((if_neg (by omega)).trans ((if_neg (by omega)).trans (if_neg (by omega))))))
set_option maxRecDepth 100000 in
set_option maxHeartbeats 8000000 in
/-- The program's step. -/
theorem step_way {PW : Pw} (P : Way14 PW) {B q : Nat} {c : Cf} {w : World} {e : Eg} (h : PW B w q c e) (hB : B ≤ w.heap.size) (hg : Good c e) (hl : Lens e) (a : Ac) (ha : AcNum a) :
    Calls Tryz.prog 8 #[.pointer (some ⟨q, 0, none⟩), actVal a] w fun x w' => ∃ y, x = .returned (.tuple #[y, .int .i64 (actOf c e a).2.2]) ∧ Says w' y (actOf c e a).2.1 ∧ Moved PW B w q c (actOf c e a).1 w' := by
  have hb := lay w (actBox a)
  have hh := P.below h hb
  have hB2 := Nat.le_trans hB hb.size
  obtain ⟨⟨k0, k1⟩, n1, n2, n3, n4⟩ := ha
  have cg := P.grant hh hB2 hg hl a.l n2 a.now n4
  have cc := P.close hh hB2 hg hl a.l.key a.l.gen n2.1 n2.2.1
  have cd := P.drop hh hB2 hg hl a.l.gen n2.2.1
  have ce := P.expire hh hB2 hg hl a.now n4
  have cr := P.refuse hh hB2 hg hl a.l.key a.why n2.1 n3
  have cx := P.crash hh hB2 hg hl
  have ca := P.ask hh hB2 hg hl a.r n1 a.now n4
  obtain ⟨b0, b1, b2, b3, b4, b5, b6, b7, b8, b9, b10, b11, b12⟩ := box_new w a
  have LF := Lib.hid (fun (e' : Eg) (w' : World) (hm : Moved PW B _ q c e' w') => Moved.lift hB hb hm)
  have hk := kinds k0
  have A4 := Lib.hid (act4 (c := c) (e := e) (a := a))
  have A5 := Lib.hid (act5 (c := c) (e := e) (a := a))
  have A6 := Lib.hid (act6 (c := c) (e := e) (a := a))
  have A7 := Lib.hid (act7 (c := c) (e := e) (a := a))
  have A8 := Lib.hid (act8 (c := c) (e := e) (a := a))
  have A9 := Lib.hid (act9 (c := c) (e := e) (a := a))
  have A0 := Lib.hid (act0 (c := c) (e := e) (a := a))
  generalize actOf c e a = R at *
  generalize grant e a.l a.now = R4 at *
  generalize close e a.l.key a.l.gen = R5 at *
  generalize drop e a.l.gen = R6 at *
  generalize expire e a.now = R7 at *
  generalize refuse e a.l.key a.why = R8 at *
  generalize crash e = R9 at *
  generalize ask c e a.r a.now = R0 at *
  obtain ⟨kind, ⟨ri, rk, rc, rs, rw'⟩, ⟨xk, xg, xa, xs, xt⟩, why, now⟩ := a
  simp only [Lease.val, rval, actBox] at *
  clear P h hB hg hl hh hB2 hb n1 n2 n3 n4
  simp only [actVal]
  rcases hk with hk | hk | hk | hk | hk | hk | hk
  · obtain rfl := A4.out hk
    clear A4 A5 A6 A7 A8 A9 A0 cc cd ce cr cx ca
    go_enter Tryz.func8, Tryz.ntmps8
    go_wp2_with (go_at_call 20; (with_reducible refine cg.mono ?_); rintro e' u1 ⟨y, rfl, ht, hm⟩; have H1 := Lib.hid (LF.out _ _ hm); have T1 := Lib.hid ht; clear hm ht cg)
    refine bodyPost_ret (v := .tuple #[y, .int .i64 0]) (by simp [results, Tryz.results8, go_sem]) rfl ?_
    exact ⟨y, rfl, T1.out, H1.out⟩
  · obtain rfl := A5.out hk
    clear A4 A5 A6 A7 A8 A9 A0 cg cd ce cr cx ca
    go_enter Tryz.func8, Tryz.ntmps8
    go_wp2_with (go_at_call 25; (with_reducible refine cc.mono ?_); rintro e' u1 ⟨rfl, hm⟩; have H1 := Lib.hid (LF.out _ _ hm); clear hm cc)
    refine bodyPost_ret (v := .tuple #[.slice none 0 0, .int .i64 R5.2]) (by simp [results, Tryz.results8, go_sem]) rfl ?_
    exact ⟨_, rfl, says_none _, H1.out⟩
  · obtain rfl := A6.out hk
    clear A4 A5 A6 A7 A8 A9 A0 cg cc ce cr cx ca
    go_enter Tryz.func8, Tryz.ntmps8
    go_wp2_with (go_at_call 18; (with_reducible refine cd.mono ?_); rintro e' u1 ⟨rfl, hm⟩; have H1 := Lib.hid (LF.out _ _ hm); clear hm cd)
    refine bodyPost_ret (v := .tuple #[.slice none 0 0, .int .i64 0]) (by simp [results, Tryz.results8, go_sem]) rfl ?_
    exact ⟨_, rfl, says_none _, H1.out⟩
  · obtain rfl := A7.out hk
    clear A4 A5 A6 A7 A8 A9 A0 cg cc cd cr cx ca
    go_enter Tryz.func8, Tryz.ntmps8
    go_wp2_with (go_at_call 22; (with_reducible refine ce.mono ?_); rintro e' u1 ⟨y, rfl, ht, hm⟩; have H1 := Lib.hid (LF.out _ _ hm); have T1 := Lib.hid ht; clear hm ht ce)
    refine bodyPost_ret (v := .tuple #[y, .int .i64 0]) (by simp [results, Tryz.results8, go_sem]) rfl ?_
    exact ⟨y, rfl, T1.out, H1.out⟩
  · obtain rfl := A8.out hk
    clear A4 A5 A6 A7 A8 A9 A0 cg cc cd ce cx ca
    go_enter Tryz.func8, Tryz.ntmps8
    go_wp2_with (go_at_call 23; (with_reducible refine cr.mono ?_); rintro e' u1 ⟨y, rfl, ht, hm⟩; have H1 := Lib.hid (LF.out _ _ hm); have T1 := Lib.hid ht; clear hm ht cr)
    refine bodyPost_ret (v := .tuple #[y, .int .i64 0]) (by simp [results, Tryz.results8, go_sem]) rfl ?_
    exact ⟨y, rfl, T1.out, H1.out⟩
  · obtain rfl := A9.out hk
    clear A4 A5 A6 A7 A8 A9 A0 cg cc cd ce cr ca
    go_enter Tryz.func8, Tryz.ntmps8
    go_wp2_with (go_at_call 24; (with_reducible refine cx.mono ?_); rintro e' u1 ⟨y, rfl, ht, hm⟩; have H1 := Lib.hid (LF.out _ _ hm); have T1 := Lib.hid ht; clear hm ht cx)
    refine bodyPost_ret (v := .tuple #[y, .int .i64 0]) (by simp [results, Tryz.results8, go_sem]) rfl ?_
    exact ⟨y, rfl, T1.out, H1.out⟩
  · obtain rfl := A0.out hk
    clear A4 A5 A6 A7 A8 A9 A0 cg cc cd ce cr cx
    rcases hk with hk | hk | hk | hk
    all_goals
      go_enter Tryz.func8, Tryz.ntmps8
      go_wp2_with (go_at_call 19; (with_reducible refine ca.mono ?_); rintro e' u1 ⟨y, rfl, ht, hm⟩; have H1 := Lib.hid (LF.out _ _ hm); have T1 := Lib.hid ht; clear hm ht ca)
      refine bodyPost_ret (v := .tuple #[y, .int .i64 0]) (by simp [results, Tryz.results8, go_sem]) rfl ?_
      exact ⟨y, rfl, T1.out, H1.out⟩
end Go.Proofs.YtlbpeeelgpjciaaGreat.Edge

namespace Go.Proofs.YtlbpeeelgpjciaaGreat.Lease
open Go.RowKit
open _root_.Go.Proofs.YtlbpeeelgpjciaaGreat.Codec (lt_of_heap frozen_of heap_set below_new)
open _root_.Go.Proofs.YtlbpeeelgpjciaaGreat.Ledger (spot spot_at spot_none)

set_option maxRecDepth 100000 in
theorem rat_any {B v : Nat} {l : List Lz} {w : World} (h : Wl B w v l) (hl : l.length ≤ 1000) (key : Int) :
    Calls Tryz.prog 124 #[.pointer (some ⟨v, 0, none⟩), .int .i64 key] w fun e w' => e = .returned (.int .i64 (place l key)) ∧ Below w.heap.size w w' := by
  obtain ⟨p, c, c1, hr⟩ := h.cell
  have HPL := Lib.hid (show place l key = spot (fun x => x.key == key) l from rfl)
  generalize place l key = R at HPL ⊢
  have HR := Lib.hid hr
  have HB := Lib.hid (Below.refl w.heap.size w)
  clear hr h
  go_enter Tryz.func124, Tryz.ntmps124
  go_wp2
  go_loop [5] (fun i => ∃ j : Nat, j ≤ l.length ∧ i = .int .i64 (j : Int) ∧ Hid (∀ i, i < j → (l.getD i z).key ≠ key)) (fun i => l.length - (intOf i).toNat)
  case atStart => exact ⟨0, by omega, rfl, fun i hi => by omega⟩
  case round =>
    obtain ⟨j, hj, rfl, hne⟩ := hrel
    by_cases hlt : j < l.length
    · obtain ⟨b, o, rfl, k0, -⟩ := lies_at HR.out hlt
      have hlt' : (j : Int) < (l.length : Int) := by omega
      by_cases hk : (l.getD j z).key = key
      · have HE := Lib.hid (show R = (j : Int) by rw [HPL.out]; exact spot_at _ z l j hlt (fun i hi => by simpa using hne.out i hi) (by simpa using hk))
        rw [hk] at k0
        clear hne HPL HR hk
        go_wp2
        go_ret
        exact ⟨by rw [HE.out]; rfl, HB.out⟩
      · have HN : Hid (∀ i, i < j + 1 → (l.getD i z).key ≠ key) := fun i hi => by
          by_cases e : i < j
          · exact hne.out i e
          · rw [show i = j by omega]; exact hk
        generalize (l.getD j z).key = y at k0 hk
        clear hne HPL HR
        go_wp2
        go_round
        case rel => exact ⟨j + 1, by omega, by go_num, HN⟩
        case measure => simp only [intOf]; omega
    · have HE := Lib.hid (show R = -1 by rw [HPL.out]; exact spot_none _ z l (fun i hi => by simpa using hne.out i (by omega)))
      have hlt' : ¬ (j : Int) < (l.length : Int) := by omega
      clear hne HPL HR
      go_wp2
      go_ret
      exact ⟨by rw [HE.out]; rfl, HB.out⟩
end Go.Proofs.YtlbpeeelgpjciaaGreat.Lease

namespace Go.Proofs.YtlbpeeelgpjciaaGreat.Lease
open Go.RowKit
open _root_.Go.Proofs.YtlbpeeelgpjciaaGreat.Codec (lt_of_heap frozen_of heap_set below_new)

theorem take_snoc {l : List Lz} {j : Nat} (h : j < l.length) : l.take (j + 1) = l.take j ++ [l.getD j z] := by
  rw [List.take_add_one]
  simp [List.getD, h]
/-- What is kept of the first j. -/
theorem erase_at {l : List Lz} {i j : Nat} (h : j < l.length) (e : j = i) : (l.take (j + 1)).eraseIdx i = (l.take j).eraseIdx i := by
  subst e
  have hl : (l.take j).length = j := by simp; omega
  rw [take_snoc h, List.eraseIdx_append_of_length_le (by omega), hl, Nat.sub_self, List.eraseIdx_of_length_le (l := l.take j) (by omega)]
  simp
theorem erase_not {l : List Lz} {i j : Nat} (h : j < l.length) (e : j ≠ i) : (l.take (j + 1)).eraseIdx i = (l.take j).eraseIdx i ++ [l.getD j z] := by
  have hl : (l.take j).length = j := by simp; omega
  rw [take_snoc h]
  by_cases hij : i < j
  · rw [List.eraseIdx_append_of_lt_length (by omega)]
  · rw [List.eraseIdx_append_of_length_le (by omega), hl, List.eraseIdx_of_length_le (l := l.take j) (by omega), List.eraseIdx_of_length_le (by simp; omega)]

set_option maxRecDepth 100000 in
set_option maxHeartbeats 4000000 in
theorem rgone_any {B v : Nat} {l : List Lz} {w : World} (h : Wl B w v l) (hB : B ≤ w.heap.size) (hl : l.length ≤ 1000) (i : Nat) :
    Calls Tryz.prog 74 #[.pointer (some ⟨v, 0, none⟩), .int .i64 (i : Int)] w fun e w' => e = .returned (.tuple #[]) ∧ Step B w v (l.eraseIdx i) w' := by
  have HV := Lib.hid h
  have HBB := Lib.hid hB
  clear h hB
  go_enter Tryz.func74, Tryz.ntmps74
  go_wp2
  go_loopw [4, 5] (fun y k wr => ∃ (j : Nat) (p : Option Addr) (c n : Nat), j ≤ l.length ∧ k = .int .i64 (j : Int) ∧ y = .slice p n c ∧ Hid (Own 93 w.heap.size wr y ((l.take j).eraseIdx i)) ∧ Hid (((l.take j).eraseIdx i).length = n) ∧ Below w.heap.size w wr) (fun _ k _ => l.length - (intOf k).toNat)
  case atStart => exact ⟨0, none, 0, 0, by omega, rfl, rfl, Own.none _ _ _, Lib.hid (by simp), Below.refl _ _⟩
  case round =>
    obtain ⟨j, p, c, n, hj, rfl, rfl, hown, hn, hbw⟩ := hrel
    obtain ⟨q, cq, c1, hr⟩ := (HV.out.below hbw).cell
    have HR := Lib.hid hr
    have HBW := Lib.hid hbw
    clear hr hbw
    by_cases hlt : j < l.length
    · obtain ⟨b, o, rfl, k0, k1, k2, k3, k4⟩ := lies_at HR.out hlt
      have hlt' : (j : Int) < (l.length : Int) := by omega
      by_cases hk : j = i
      · have HE := Lib.hid (erase_at hlt hk)
        have hk' : ((j : Int) != (i : Int)) = false := by simp [hk]
        clear k0 k1 k2 k3 k4 HR hk
        go_wp2
        go_roundw
        case rel => exact ⟨j + 1, p, c, n, by omega, by go_num, rfl, by rw [HE.out]; exact hown, by rw [HE.out]; exact hn, HBW.out⟩
        case measure => simp [intOf]; omega
      · have HE := Lib.hid (erase_not hlt hk)
        have hk' : ((j : Int) != (i : Int)) = true := by simp; omega
        have hn1 : ((l.take j).eraseIdx i).length ≤ 1000 := Nat.le_trans (List.eraseIdx_sublist _ _).length_le (by simp; omega)
        have hn2 : n ≤ 1000 := hn.out ▸ hn1
        clear hn1
        generalize hx : l.getD j z = x at k0 k1 k2 k3 k4 HE
        generalize (l.take j).eraseIdx i = L at *
        obtain ⟨xk, xg, xa, xs, xt⟩ := x
        simp only at k0 k1 k2 k3 k4
        clear HR hk hx
        go_wp2_with (at_builtin; refine push_lease rfl (.tmp 18) (.tmp 26) rfl w wr (.slice p n c) rfl L n hn.out hown.out HBW.out (Below.refl _ _) wr.heap.size ⟨xk, xg, xa, xs, xt⟩ rfl (heap_alloc_new _ _) (by omega) ?_; intro p4 c4 w4 R4 B4)
        go_roundw
        case rel => exact ⟨j + 1, p4, c4, n + 1, by omega, by go_num, rfl, by rw [HE.out]; exact R4, Lib.hid (by rw [HE.out]; simp [hn.out]), B4⟩
        case measure => simp [intOf]; omega
    · have hlt' : ¬ (j : Int) < (l.length : Int) := by omega
      have HO := Lib.hid (show Own 93 w.heap.size wr (.slice p n c) (l.eraseIdx i) by have := hown.out; rwa [List.take_of_length_le (by omega)] at this)
      obtain ⟨f0, ⟨u0, d0⟩, D⟩ := HV.out.store HBB.out HBW.out HO.out
      clear HR hown hn HO HV
      go_wp2
      go_end0
      exact ⟨rfl, D.out⟩
end Go.Proofs.YtlbpeeelgpjciaaGreat.Lease

namespace Go.Proofs.YtlbpeeelgpjciaaGreat.Lease
open Go.RowKit
open _root_.Go.Proofs.YtlbpeeelgpjciaaGreat.Codec (lt_of_heap frozen_of heap_set below_new)

theorem below_drewN (w : World) (n : Nat) : Below w.heap.size w (w.drewN n) := ⟨rfl, rfl, rfl, Nat.le_refl _, fun _ _ => rfl⟩

set_option maxRecDepth 100000 in
set_option maxHeartbeats 4000000 in
theorem rleft_any {B v : Nat} {l : List Lz} {w : World} (h : Wl B w v l) (hg : Good l) (hl : l.length ≤ 1000) (key now : Int) :
    Calls Tryz.prog 127 #[.pointer (some ⟨v, 0, none⟩), .int .i64 key, .int .i64 now] w fun e w' => e = .returned (.int .i64 (left l key now)) ∧ Below w.heap.size w w' := by
  have HA := rat_any h hl key
  have HV := Lib.hid h
  have HL := Lib.hid (show left l key now = if place l key < 0 ∨ (the l key).til ≤ now then 0 else (the l key).amount - (the l key).spent from rfl)
  generalize left l key now = R at *
  by_cases hp : place l key < 0
  · have HE := Lib.hid (show R = 0 by rw [HL.out, if_pos (.inl hp)])
    generalize place l key = P at *
    clear HL h
    go_enter Tryz.func127, Tryz.ntmps127
    go_wp2_with (go_at_call 124; (with_reducible refine HA.mono ?_); rintro e w1 ⟨rfl, hb⟩; have HB := Lib.hid hb; obtain ⟨p, c, c1, -⟩ := (HV.out.below hb).cell; clear hb HA)
    go_ret
    exact ⟨by rw [HE.out]; rfl, HB.out⟩
  · obtain ⟨hj, hk, hm⟩ := place_some (l := l) (k := key) (by omega)
    obtain ⟨g0, g1, g2⟩ := hg.each _ hm
    have HC : Hid (∀ u, Below w.heap.size w u → ∃ b o c, u.cell? ⟨v, 0, none⟩ = some (.slice (some ⟨b, o, none⟩) l.length c) ∧ At u b (o + (place l key).toNat * 5) (the l key)) := fun u hu => by
      obtain ⟨p, c, c1, hr⟩ := (HV.out.below hu).cell
      obtain ⟨b, o, rfl, ha⟩ := lies_at hr hj
      exact ⟨b, o, c, c1, ha⟩
    obtain ⟨P, hP⟩ : ∃ P : Nat, place l key = (P : Int) := ⟨(place l key).toNat, by omega⟩
    rw [hP] at HA HL hj
    simp only [hP] at HC
    simp only [Int.toNat_natCast] at HC hj
    have hlt' : (P : Int) < (l.length : Int) := by omega
    generalize the l key = x at *
    obtain ⟨xk, xg, xa, xs, xt⟩ := x
    unfold Nums Num at g2
    simp only at g0 g1 g2 HL
    by_cases ht : xt ≤ now
    · have HE := Lib.hid (show R = 0 by rw [HL.out, if_pos (.inr ht)])
      clear HL h hm hg hk hP hp
      go_enter Tryz.func127, Tryz.ntmps127
      go_wp2_with (go_at_call 124; (with_reducible refine HA.mono ?_); rintro e w1 ⟨rfl, hb⟩; have HB := Lib.hid hb; obtain ⟨b, o, c, c1, k0, k1, k2, k3, k4⟩ := HC.out _ hb; simp only at k0 k1 k2 k3 k4; clear hb HA HC)
      go_ret
      exact ⟨by rw [HE.out]; rfl, HB.out⟩
    · have HE := Lib.hid (show R = xa - xs by rw [HL.out, if_neg (by omega)])
      have hw1 : IntKind.i64.wrap (xa - xs) = xa - xs := IntWalk.i64_in _ (by omega)
      clear HL h hm hg hk hP hp
      go_enter Tryz.func127, Tryz.ntmps127
      go_wp2_with (go_at_call 124; (with_reducible refine HA.mono ?_); rintro e w1 ⟨rfl, hb⟩; have HB := Lib.hid hb; obtain ⟨b, o, c, c1, k0, k1, k2, k3, k4⟩ := HC.out _ hb; simp only at k0 k1 k2 k3 k4; clear hb HA HC)
      go_quiet (fail)
      go_wp2
      go_ret
      exact ⟨by rw [HE.out]; rfl, HB.out.trans ((below_drewN _ _).mono HB.out.size)⟩

set_option maxRecDepth 100000 in
set_option maxHeartbeats 4000000 in
theorem rclose_any {B v : Nat} {l : List Lz} {w : World} (h : Wl B w v l) (hB : B ≤ w.heap.size) (hl : l.length ≤ 1000) (key gen : Int) :
    Calls Tryz.prog 72 #[.pointer (some ⟨v, 0, none⟩), .int .i64 key, .int .i64 gen] w fun e w' => e = .returned (.int .i64 (close l key gen).2) ∧ Step B w v (close l key gen).1 w' := by
  have HA := rat_any h hl key
  have HV := Lib.hid h
  have HBB := Lib.hid hB
  have HL := Lib.hid (show close l key gen = if place l key < 0 then (l, -1) else (l.eraseIdx (place l key).toNat, if (the l key).gen = gen then (the l key).spent else -1) from rfl)
  generalize close l key gen = R at *
  by_cases hp : place l key < 0
  · have HE := Lib.hid (show R = (l, -1) by rw [HL.out, if_pos hp])
    have HS := Lib.hid (fun u (hu : Below w.heap.size w u) => Step.same h hB hu)
    generalize place l key = P at *
    clear HL h
    go_enter Tryz.func72, Tryz.ntmps72
    go_wp2_with (go_at_call 124; (with_reducible refine HA.mono ?_); rintro e w1 ⟨rfl, hb⟩; have HB := Lib.hid (HS.out _ hb); clear hb HA)
    go_ret
    exact ⟨by rw [HE.out]; rfl, by rw [HE.out]; exact HB.out⟩
  · obtain ⟨hj, hk, hm⟩ := place_some (l := l) (k := key) (by omega)
    have HC : Hid (∀ u, Below w.heap.size w u → ∃ b o c, u.cell? ⟨v, 0, none⟩ = some (.slice (some ⟨b, o, none⟩) l.length c) ∧ At u b (o + (place l key).toNat * 5) (the l key)) := fun u hu => by
      obtain ⟨p, c, c1, hr⟩ := (HV.out.below hu).cell
      obtain ⟨b, o, rfl, ha⟩ := lies_at hr hj
      exact ⟨b, o, c, c1, ha⟩
    obtain ⟨P, hP⟩ : ∃ P : Nat, place l key = (P : Int) := ⟨(place l key).toNat, by omega⟩
    have hp0 : ¬ (P : Int) < 0 := by omega
    rw [hP, if_neg hp0, Int.toNat_natCast] at HL
    rw [hP] at HA hj
    simp only [hP] at HC
    simp only [Int.toNat_natCast] at HC hj
    have hlt' : (P : Int) < (l.length : Int) := by omega
    have HG := Lib.hid (fun u (hu : Below w.heap.size w u) => rgone_any (h.below hu) (Nat.le_trans hB hu.size) hl P)
    have HS := Lib.hid (fun u (hu : Below w.heap.size w u) => Step.same h hB hu)
    generalize the l key = x at *
    obtain ⟨xk, xg, xa, xs, xt⟩ := x
    simp only at HL
    have hcase : (xg = gen ∧ R = (l.eraseIdx P, xs)) ∨ (xg ≠ gen ∧ R = (l.eraseIdx P, -1)) := by
      by_cases e : xg = gen
      · exact .inl ⟨e, by rw [HL.out, if_pos e]⟩
      · exact .inr ⟨e, by rw [HL.out, if_neg e]⟩
    clear HL h hm hk hP hp
    rcases hcase with ⟨hgen, hR⟩ | ⟨hgen, hR⟩
    all_goals
      have HE := Lib.hid hR
      clear hR
      go_enter Tryz.func72, Tryz.ntmps72
      go_wp2_with (first
        | (go_at_call 124; (with_reducible refine HA.mono ?_); rintro e w1 ⟨rfl, hb⟩; have HB := Lib.hid hb; obtain ⟨b, o, c, c1, k0, k1, k2, k3, k4⟩ := HC.out _ hb; simp only at k0 k1 k2 k3 k4; clear hb HA HC)
        | (go_at_call 74; (with_reducible refine (HG.out _ (HB.out.alloc HB.out.size _)).mono ?_); rintro e w2 ⟨rfl, hs⟩; have K2 := hs.kept.block w1.heap.size _ _ _ (heap_alloc_new _ _) (by decide); obtain ⟨b0, b1, b2, b3, b4⟩ := box5 K2; have S2 := Lib.hid (Step.trans (HS.out _ (HB.out.alloc HB.out.size _)) hs); clear hs K2))
      go_ret
      exact ⟨by rw [HE.out]; rfl, by rw [HE.out]; exact S2.out⟩
end Go.Proofs.YtlbpeeelgpjciaaGreat.Lease

namespace Go.Proofs.YtlbpeeelgpjciaaGreat.Lease
open Go.RowKit
open _root_.Go.Proofs.YtlbpeeelgpjciaaGreat.Codec (lt_of_heap frozen_of heap_set below_new own_below)

/-- Are they the same? -/
def same5 (a b : Lz) : Bool := a.key == b.key && (a.gen == b.gen && (a.amount == b.amount && (a.spent == b.spent && a.til == b.til)))
theorem same5_iff {a b : Lz} : same5 a b = true ↔ a = b := by
  obtain ⟨a1, a2, a3, a4, a5⟩ := a
  obtain ⟨b1, b2, b3, b4, b5⟩ := b
  simp [same5]
theorem eq5 (a b : Lz) (w : World) : (Op.equalIn 10000 93 (val a) (val b)).run Tryz.prog w = .ok (same5 a b) w := by
  obtain ⟨a1, a2, a3, a4, a5⟩ := a
  obtain ⟨b1, b2, b3, b4, b5⟩ := b
  unfold val same5
  rw [run_equalIn_agg w 9999 _ _ _ (by kernel_rfl) (by kernel_rfl)]
  have e : ∀ (a b : Int) (w : World), (Op.equalIn 9999 3 (.int .i64 a) (.int .i64 b)).run Tryz.prog w = .ok (a == b) w := fun a b w => run_equalIn_int w 9998 _ _ _ a b Tryz.underlying3
  by_cases h1 : a1 = b1
  · by_cases h2 : a2 = b2
    · by_cases h3 : a3 = b3
      · by_cases h4 : a4 = b4
        · by_cases h5 : a5 = b5
          · simp [Program.fieldsOf, Tryz.underlying93, Op.eqFields, part, isAgg, run_underlying Tryz.underlying3, e, h1, h2, h3, h4, h5]
          · simp [Program.fieldsOf, Tryz.underlying93, Op.eqFields, part, isAgg, run_underlying Tryz.underlying3, e, h1, h2, h3, h4, h5]
        · simp [Program.fieldsOf, Tryz.underlying93, Op.eqFields, part, isAgg, run_underlying Tryz.underlying3, e, h1, h2, h3, h4]
      · simp [Program.fieldsOf, Tryz.underlying93, Op.eqFields, part, isAgg, run_underlying Tryz.underlying3, e, h1, h2, h3]
    · simp [Program.fieldsOf, Tryz.underlying93, Op.eqFields, part, isAgg, run_underlying Tryz.underlying3, e, h1, h2]
  · simp [Program.fieldsOf, Tryz.underlying93, Op.eqFields, part, isAgg, run_underlying Tryz.underlying3, e, h1]
theorem neq5 (a b : Lz) (w : World) : (binOp .neq 93 (val a) (val b)).run Tryz.prog w = .ok (.bool (!same5 a b)) w := by
  have := eq5 a b w
  unfold val at this ⊢
  rw [run_neq_struct, this]; rfl

/-- Two lists that lie are the same list: Same says so. -/
theorem rsame_any {l m : List Lz} {p q : Option Addr} {c d : Nat} {w : World} (h : Lies w p l) (h' : Lies w q m) (e : l = m) (hl : l.length ≤ 1000) :
    Calls Tryz.prog 14 #[.slice p l.length c, .slice q m.length d] w fun e w' => e = .returned (.bool true) ∧ Below w.heap.size w w' := by
  subst e
  have HB := Lib.hid (Below.refl w.heap.size w)
  have HL := Lib.hid h
  have HM := Lib.hid h'
  clear h h'
  have hne : ((l.length : Int) != (l.length : Int)) = false := by simp
  go_enter Tryz.func14, Tryz.ntmps14
  go_wp2
  go_loopw [5] (fun i wr => ∃ j : Nat, j ≤ l.length ∧ i = .int .i64 (j : Int) ∧ Hid (Below w.heap.size w wr)) (fun i _ => l.length - (intOf i).toNat)
  case atStart => exact ⟨0, by omega, rfl, HB⟩
  case round =>
    obtain ⟨j, hj, rfl, hbw⟩ := hrel
    by_cases hlt : j < l.length
    · obtain ⟨b, o, rfl, k0, k1, k2, k3, k4⟩ := lies_at (HL.out.below hbw.out) hlt
      obtain ⟨b', o', rfl, x0, x1, x2, x3, x4⟩ := lies_at (HM.out.below hbw.out) hlt
      have hlt' : (j : Int) < (l.length : Int) := by omega
      have heq := fun i => neq5 (l.getD j z) (l.getD j z) (wr.drewN i)
      rw [same5_iff.2 rfl] at heq
      generalize l.getD j z = x at *
      obtain ⟨xk, xg, xa, xs, xt⟩ := x
      simp only [val, Bool.not_true] at heq k0 k1 k2 k3 k4 x0 x1 x2 x3 x4
      clear HL HM
      go_wp2
      go_quiet (fail)
      go_wp2
      go_roundw
      case rel => exact ⟨j + 1, by omega, by go_num, Lib.hid (hbw.out.trans ((below_drewN _ _).mono hbw.out.size))⟩
      case measure => simp only [intOf]; omega
    · have hlt' : ¬ (j : Int) < (l.length : Int) := by omega
      clear HL HM
      go_wp2
      go_ret
      exact ⟨rfl, hbw.out⟩

set_option maxRecDepth 100000 in
set_option maxHeartbeats 4000000 in
/-- Of: the program's leases, as the document has them. -/
theorem of_any {l : List Lz} {p : Option Addr} {c : Nat} {w : World} (h : Lies w p l) (hl : l.length ≤ 1000) :
    Calls Tryz.prog 15 #[.slice p l.length c] w fun e w' => ∃ q d, e = .returned (.slice q l.length d) ∧ Lies w' q l ∧ Below w.heap.size w w' := by
  have HL := Lib.hid h
  clear h
  go_enter Tryz.func15, Tryz.ntmps15
  go_wp2
  go_loopw [3, 4] (fun y i wr => ∃ (j : Nat) (q : Option Addr) (d : Nat), j ≤ l.length ∧ i = .int .i64 (j : Int) ∧ y = .slice q j d ∧ Hid (Own 93 w.heap.size wr y (l.take j)) ∧ Below w.heap.size w wr) (fun _ i _ => l.length - (intOf i).toNat)
  case atStart => exact ⟨0, none, 0, by omega, rfl, rfl, Lib.hid (Own.none _ _ _), Below.refl _ _⟩
  case round =>
    obtain ⟨j, q, d, hj, rfl, rfl, hown, hbw⟩ := hrel
    have HBW := Lib.hid hbw
    by_cases hlt : j < l.length
    · obtain ⟨b, o, rfl, k0, k1, k2, k3, k4⟩ := lies_at (HL.out.below hbw) hlt
      have hlt' : (j : Int) < (l.length : Int) := by omega
      have HT := Lib.hid (take_snoc hlt)
      have HN := Lib.hid (show (l.take j).length = j by simp; omega)
      generalize l.getD j z = x at *
      generalize l.take j = L at *
      obtain ⟨xk, xg, xa, xs, xt⟩ := x
      simp only at k0 k1 k2 k3 k4
      clear hbw
      have HU := Lib.hid (fun (o : Obj) => (Below.refl wr.heap.size wr).alloc (Nat.le_refl _) o)
      have HG := Lib.hid (fun (o o' : Obj) => show ((wr.alloc o).alloc o').heap[wr.heap.size + 1]? = some o' from by have := heap_alloc_new (wr.alloc o) o'; simpa using this)
      go_wp2_with (at_builtin; refine push_lease rfl (.tmp 16) (.tmp 28) rfl w wr (.slice q j d) rfl L j HN.out hown.out HBW.out (HU.out _) (wr.heap.size + 1) ⟨xk, xg, xa, xs, xt⟩ rfl (HG.out _ _) (by omega) ?_; intro p4 c4 w4 R4 B4)
      go_roundw
      case rel => exact ⟨j + 1, p4, c4, by omega, by go_num, rfl, by rw [HT.out]; exact R4, B4⟩
      case measure => simp only [intOf]; omega
    · have hlt' : ¬ (j : Int) < (l.length : Int) := by omega
      have e : j = l.length := by omega
      have hw := hown.out
      rw [List.take_of_length_le (by omega)] at hw
      obtain ⟨q', d', hq, hlies⟩ := hw.lies
      simp only [Value.slice.injEq] at hq
      obtain ⟨rfl, -, rfl⟩ := hq
      have HQ := Lib.hid hlies
      clear hlies hw hown
      go_wp2
      subst e
      refine bodyPost_ret (v := .slice q l.length d) (by simp [results, Tryz.results15, go_sem]) rfl ⟨q, ⟨d, rfl⟩, HQ.out, HBW.out⟩
end Go.Proofs.YtlbpeeelgpjciaaGreat.Lease
