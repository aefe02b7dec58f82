/-
  What an act leaves of an edge that is kept well; how many leases, items, notes there are then. Plain functions, no program.
  The document's Drop, of any wallet of up to 1000 leases.
  The document's Expire, of any queue of up to 1000 items.
  The document's numbers (annonaref01): Fit, Two, Sub, Add, Mul return what the plain functions of SatPlain give, and leave the world as it was; any ints, and for Add any slice of up to 100000 cells that are ints.
  The document's Of and Want, of any estimates of up to 1000 notes.
-/
import Derived.WalkKit
import Derived.ProofKit
import Derived.Outline
import Derived.Lib.Hide
import Derived.IntWalk
import Derived.Deep.QuietTactic
import Derived.BigQuiet
import Derived.Lib.MinMax
import Derived.Test.YtlbpeeelgpjciaaGreatMgAg
import Derived.Test.YtlbpeeelgpjciaaGreatMgAf
import Derived.Test.YtlbpeeelgpjciaaGreatChecked
import Derived.Test.YtlbpeeelgpjciaaGreatMgAa
import Derived.Test.YtlbpeeelgpjciaaGreatMgAe
namespace Go.Proofs.YtlbpeeelgpjciaaGreat.Edge
open _root_.Go.Proofs.YtlbpeeelgpjciaaGreat.Lease (Lz spend Num)
open _root_.Go.Proofs.YtlbpeeelgpjciaaGreat.Queue (It take)
open _root_.Go.Proofs.YtlbpeeelgpjciaaGreat.Demand (Nt)
open _root_.Go.Proofs.YtlbpeeelgpjciaaGreat.Kit (take_snoc)

def RqNum (r : Rq) : Prop := Num r.id ∧ Num r.key ∧ Num r.cost ∧ Num r.cls ∧ Num r.wait
def AcNum (a : Ac) : Prop := (0 ≤ a.kind ∧ a.kind ≤ 255) ∧ RqNum a.r ∧ Lease.Nums a.l ∧ Num a.why ∧ Num a.now
def zr : Rq := ⟨0, 0, 0, 0, 0⟩
def za : Ac := ⟨0, zr, Lease.z, 0, 0⟩
theorem num_add (l : List Int) : Num (Sat.add l) := by
  have := Sat.add_lo l
  have := Sat.add_hi l
  unfold Num; omega
theorem nums_item {r : Rq} (h : RqNum r) (now : Int) : Queue.Nums (item r now) := ⟨h.1, h.2.1, h.2.2.1, h.2.2.2.1, num_add _⟩
theorem mem_put {room : Int} {l : List It} {x y : It} (h : y ∈ (Queue.put room l x).1) : y ∈ l ∨ y = x := by
  unfold Queue.put at h
  split at h
  · exact .inl h
  · split at h
    · exact .inl h
    · split at h
      · exact .inl h
      · simpa using h
theorem good_wait {c : Cf} {e : Eg} (h : Good c e) {r : Rq} (hr : RqNum r) (now : Int) : Good c (wait c e r now).1 := by
  unfold wait
  split
  · exact h
  · split
    · exact ⟨h.l, Queue.good_put h.q (nums_item hr now), fun x hx => (mem_put hx).elim (h.until' x) (fun e => by rw [e]; exact Sat.add_hi _)⟩
    · exact h
theorem good_ask {c : Cf} {e : Eg} (h : Good c e) {r : Rq} (hr : RqNum r) (now : Int) : Good c (ask c e r now).1 := by
  unfold ask
  split
  · exact h
  · split
    · exact h
    · split
      · exact h
      · split
        · exact h
        · split
          · exact good_spend h _ _ _
          · exact good_wait h hr now
theorem good_sub {c : Cf} {e : Eg} (h : Good c e) {Q : List It} (s : List.Sublist Q e.Q) : Good c ⟨e.L, Q, e.D⟩ := ⟨h.l, Queue.good_sub h.q s, fun x hx => h.until' x (s.subset hx)⟩
theorem take_sublist (Q : List It) (id : Int) : List.Sublist (take Q id).1 Q := by
  unfold take
  split
  · exact List.Sublist.refl _
  · exact List.eraseIdx_sublist _ _
theorem without_sublist : ∀ (l Q : List It), List.Sublist (without Q l) Q
  | [], _ => List.Sublist.refl _
  | x :: l, Q => (without_sublist l _).trans (take_sublist Q x.id)
theorem good_e0 {c : Cf} (h : 0 ≤ c.qu) : Good c e0 := ⟨Lease.good_nil, Queue.good_nil h, fun x hx => by cases hx⟩
theorem good_grant {c : Cf} {e : Eg} (h : Good c e) {x : Lz} (hx : Lease.Nums x) (now : Int) : Good c (grant e x now).1 := by
  unfold grant
  split
  · exact good_serves _ _ _ ⟨Lease.good_put h.l hx, h.q, h.until'⟩
  · exact h
theorem good_act {c : Cf} (hq : 0 ≤ c.qu) {e : Eg} (h : Good c e) {a : Ac} (ha : AcNum a) : Good c (actOf c e a).1 := by
  unfold actOf
  split
  · exact good_grant h ha.2.2.1 _
  · split
    · exact ⟨Lease.good_close h.l _ _, h.q, h.until'⟩
    · split
      · exact ⟨Lease.good_drop h.l _, h.q, h.until'⟩
      · split
        · exact good_sub h List.filter_sublist
        · split
          · exact good_sub h (without_sublist _ _)
          · split
            · exact good_e0 hq
            · exact good_ask h ha.2.1 _
/-- Leases and notes, at most j. -/
def Fewer (e : Eg) (j : Nat) : Prop := e.L.length ≤ j ∧ e.D.length ≤ j
theorem ask_few (c : Cf) (e : Eg) (r : Rq) (now : Int) : (ask c e r now).1.L.length = e.L.length ∧ (ask c e r now).1.D = e.D := by
  unfold ask wait
  split
  · exact ⟨rfl, rfl⟩
  · split
    · exact ⟨rfl, rfl⟩
    · split
      · exact ⟨rfl, rfl⟩
      · split
        · exact ⟨rfl, rfl⟩
        · split
          · exact ⟨Lease.len_spend _ _ _ _, rfl⟩
          · split
            · exact ⟨rfl, rfl⟩
            · split
              · exact ⟨rfl, rfl⟩
              · exact ⟨rfl, rfl⟩
theorem few_act {c : Cf} {e : Eg} {j : Nat} (h : Fewer e j) (a : Ac) : Fewer (actOf c e a).1 (j + 1) := by
  obtain ⟨h1, h2⟩ := h
  unfold actOf
  split
  · unfold grant
    split
    · obtain ⟨k1, -, k3⟩ := len_serves a.l.key a.now (Queue.of e.Q a.l.key) ⟨(Lease.put e.L a.l).1, e.Q, e.D⟩
      have := Lease.len_put e.L a.l
      refine ⟨?_, ?_⟩
      · show (serves a.l.key a.now (Queue.of e.Q a.l.key) ⟨(Lease.put e.L a.l).1, e.Q, e.D⟩).1.L.length ≤ _
        rw [k1]; simp only; omega
      · show (serves a.l.key a.now (Queue.of e.Q a.l.key) ⟨(Lease.put e.L a.l).1, e.Q, e.D⟩).1.D.length ≤ _
        rw [k3]; simp only; omega
    · exact ⟨Nat.le_succ_of_le h1, Nat.le_succ_of_le h2⟩
  · split
    · have := Lease.len_close e.L a.l.key a.l.gen
      refine ⟨by simp only [close]; omega, ?_⟩
      simp only [close]
      split
      · simp; omega
      · omega
    · split
      · have := Lease.len_drop e.L a.l.gen
        exact ⟨by simp only [drop]; omega, by simp only [drop]; omega⟩
      · split
        · exact ⟨by simp only [expire]; omega, by simp only [expire]; omega⟩
        · split
          · exact ⟨by simp only [refuse]; omega, by simp only [refuse]; omega⟩
          · split
            · exact ⟨by simp [crash, e0], by simp [crash, e0]⟩
            · obtain ⟨k1, k2⟩ := ask_few c e a.r a.now
              exact ⟨by simp only [k1]; omega, by simp only [k2]; omega⟩
/-- The edge behind the first j acts. -/
def st (c : Cf) (l : List Ac) (j : Nat) : Eg := (l.take j).foldl (fun s a => (actOf c s a).1) e0
theorem st_zero (c : Cf) (l : List Ac) : st c l 0 = e0 := by simp [st]
theorem st_succ (c : Cf) (l : List Ac) {j : Nat} (h : j < l.length) : st c l (j + 1) = (actOf c (st c l j) (l.getD j za)).1 := by
  unfold st
  rw [take_snoc za h, List.foldl_append]
  rfl
theorem st_good {c : Cf} (hq : 0 ≤ c.qu) (l : List Ac) (hn : ∀ a ∈ l, AcNum a) : ∀ j, j ≤ l.length → Good c (st c l j) ∧ Fewer (st c l j) j
  | 0, _ => by rw [st_zero]; exact ⟨good_e0 hq, by simp [Fewer, e0]⟩
  | j + 1, h => by
    obtain ⟨h1, h2⟩ := st_good hq l hn j (by omega)
    have hm : l.getD j za ∈ l := by simp [List.getD, show j < l.length by omega]
    rw [st_succ c l (by omega)]
    exact ⟨good_act hq h1 (hn _ hm), few_act h2 _⟩
theorem good_few {c : Cf} {e : Eg} {j : Nat} (hg : Good c e) (hf : Fewer e j) (hq : c.qu ≤ 16) (hj : j ≤ 100) : e.L.length ≤ 100 ∧ e.Q.length ≤ 16 ∧ e.D.length ≤ 100 := by
  have := hg.q.room
  exact ⟨Nat.le_trans hf.1 hj, by omega, Nat.le_trans hf.2 hj⟩
theorem check_room {c : Cf} (h : c.check = 0) : 0 ≤ c.qu ∧ c.qu ≤ 16 := by
  unfold Cf.check Conf.check at h
  split at h
  · exact absurd h (by decide)
  · split at h
    · exact absurd h (by decide)
    · split at h
      · exact absurd h (by decide)
      · rename_i hr
        simp only [Conf.rooms, Conf.within, Bool.not_eq_false, Bool.and_eq_true, decide_eq_true_eq] at hr
        exact hr.2
end Go.Proofs.YtlbpeeelgpjciaaGreat.Edge

namespace Go.Proofs.YtlbpeeelgpjciaaGreat.Lease2
open _root_.Go.Proofs.YtlbpeeelgpjciaaGreat.Lease
variable {ov : Nat}
open Go.RowKit
open _root_.Go.Proofs.YtlbpeeelgpjciaaGreat.Codec (lt_of_heap frozen_of heap_set below_new)

/-- What is left, and how many are gone, behind those from j on. -/
def kept (l : List Lz) (g : Int) (j : Nat) : List Lz := l.take j ++ (l.drop j).filter fun x => !elder g x
def gones (l : List Lz) (g : Int) (j : Nat) : Nat := (l.drop j).countP (elder g)
theorem drop_at {l : List Lz} {j : Nat} (h : j < l.length) : l.drop j = l.getD j z :: l.drop (j + 1) := by
  rw [List.drop_eq_getElem_cons h]
  simp [List.getD, h]
theorem kept_get {l : List Lz} {g : Int} {j : Nat} (h : j < l.length) : (kept l g (j + 1)).getD j z = l.getD j z ∧ j < (kept l g (j + 1)).length := by
  have hl : (l.take (j + 1)).length = j + 1 := by simp; omega
  unfold kept
  refine ⟨?_, by simp; omega⟩
  simp only [List.getD]
  rw [List.getElem?_append_left (by omega)]
  simp
theorem kept_yes {l : List Lz} {g : Int} {j : Nat} (h : j < l.length) (e : elder g (l.getD j z) = true) : kept l g j = (kept l g (j + 1)).eraseIdx j ∧ gones l g j = gones l g (j + 1) + 1 := by
  have hl : (l.take j).length = j := by simp; omega
  unfold kept gones
  rw [drop_at h, take_snoc h, List.append_assoc, List.eraseIdx_append_of_length_le (by omega), hl, Nat.sub_self]
  generalize l.getD j z = x at *
  simp [e]
theorem kept_no {l : List Lz} {g : Int} {j : Nat} (h : j < l.length) (e : elder g (l.getD j z) = false) : kept l g j = kept l g (j + 1) ∧ gones l g j = gones l g (j + 1) := by
  unfold kept gones
  rw [drop_at h, take_snoc h]
  generalize l.getD j z = x at *
  simp [e]
theorem kept_len (l : List Lz) (g : Int) (j : Nat) : (kept l g j).length ≤ l.length := by
  unfold kept
  rw [List.length_append]
  have := List.length_filter_le (fun x => !elder g x) (l.drop j)
  simp only [List.length_take, List.length_drop] at *
  omega
theorem gones_len (l : List Lz) (g : Int) (j : Nat) : gones l g j ≤ l.length := by
  unfold gones
  have := List.countP_le_length (p := elder g) (l := l.drop j)
  simp only [List.length_drop] at this
  omega

set_option maxRecDepth 100000 in
set_option maxHeartbeats 4000000 in
theorem rdrop_any {B v : Nat} {l : List Lz} {w : World} (h : Wl B w v ov l) (hB : B ≤ w.heap.size) (hl : l.length ≤ 1000) (gen : Int) :
    Calls Tryz.prog 33 #[.pointer (some ⟨v, ov, none⟩), .int .i64 gen] w fun e w' => e = .returned (.int .i64 (drop l gen).2) ∧ Step B w v ov (drop l gen).1 w' := by
  have HBB := Lib.hid hB
  have S0 := Lib.hid (show Step B w v ov (kept l gen l.length) w by
    have : kept l gen l.length = l := by simp [kept]
    rw [this]
    exact Step.same h hB (Below.refl _ _))
  have HD := Lib.hid (show drop l gen = (kept l gen 0, ((gones l gen 0 : Nat) : Int)) by simp [drop, kept, gones])
  generalize drop l gen = R at *
  obtain ⟨p0, q0, c0, -⟩ := h.cell
  clear h
  have hw1 : IntKind.i64.wrap ((l.length : Int) - 1) = (l.length : Int) - 1 := IntWalk.i64_in _ (by omega)
  go_enter Tryz.func33, Tryz.ntmps33
  go_wp2
  go_loopw [5, 6] (fun n i wr => ∃ (j : Nat), j ≤ l.length ∧ i = .int .i64 ((j : Int) - 1) ∧ n = .int .i64 (gones l gen j : Int) ∧ Hid (Step B w v ov (kept l gen j) wr)) (fun _ i _ => (intOf i + 1).toNat)
  case atStart => exact ⟨l.length, by omega, by go_num, by simp [gones], S0⟩
  case round =>
    obtain ⟨j, hj, rfl, rfl, hst⟩ := hrel
    clear S0 c0
    obtain ⟨p, c, c1, hr⟩ := hst.out.wl.cell
    have HR := Lib.hid hr
    clear hr
    by_cases hlt : 0 < j
    · obtain ⟨k, rfl⟩ : ∃ k, j = k + 1 := ⟨j - 1, by omega⟩
      have hk : k < l.length := by omega
      obtain ⟨e1, e2⟩ := kept_get (g := gen) hk
      obtain ⟨b, o, rfl, x0, x1, x2, x3, x4⟩ := lies_at HR.out e2
      rw [e1] at x0 x1 x2 x3 x4
      have hi : ((k + 1 : Nat) : Int) - 1 = (k : Int) := by omega
      rw [hi]
      have hlk := kept_len l gen (k + 1)
      have hgk := gones_len l gen (k + 1)
      have HG := Lib.hid (fun u (hu : Below wr.heap.size wr u) => rgone_any (hst.out.wl.below hu) (Nat.le_trans HBB.out (Nat.le_trans hst.out.below.size hu.size)) (by omega) k)
      have e2' : (k : Int) < ((kept l gen (k + 1)).length : Int) := by omega
      by_cases he : elder gen (l.getD k z) = true
      · obtain ⟨f1, f2⟩ := kept_yes hk he
        have hlt2 : (l.getD k z).gen < gen := by simpa [elder] using he
        have HF1 := Lib.hid f1
        have HF2 := Lib.hid f2
        generalize l.getD k z = x at *
        generalize kept l gen (k + 1) = L at *
        generalize gones l gen (k + 1) = G at *
        clear f1 f2 he e1 HR hi
        go_wp2_with (go_at_call 74; (with_reducible refine (HG.out _ (Below.refl _ _)).mono ?_); rintro e w2 ⟨rfl, hs⟩; have S2 := Lib.hid (Step.trans hst.out hs); clear hs)
        go_roundw
        case rel => exact ⟨k, by omega, by go_num, by rw [HF2.out]; go_num, by rw [HF1.out]; exact S2⟩
        case measure => simp only [intOf]; omega
      · have he : elder gen (l.getD k z) = false := by simpa using he
        obtain ⟨f1, f2⟩ := kept_no hk he
        have hlt2 : ¬ (l.getD k z).gen < gen := by simpa [elder] using he
        have HF1 := Lib.hid f1
        have HF2 := Lib.hid f2
        generalize l.getD k z = x at *
        generalize kept l gen (k + 1) = L at *
        generalize gones l gen (k + 1) = G at *
        clear f1 f2 he e1 HR hi HG
        go_wp2
        go_roundw
        case rel => exact ⟨k, by omega, by go_num, by rw [HF2.out], by rw [HF1.out]; exact hst⟩
        case measure => simp only [intOf]; omega
    · obtain rfl : j = 0 := by omega
      clear HR c1
      go_wp2
      go_ret
      exact ⟨by rw [HD.out]; rfl, by rw [HD.out]; exact hst.out⟩
end Go.Proofs.YtlbpeeelgpjciaaGreat.Lease2

namespace Go.Proofs.YtlbpeeelgpjciaaGreat.Queue2
open _root_.Go.Proofs.YtlbpeeelgpjciaaGreat.Queue
variable {ov : Nat}
open Go.RowKit
open _root_.Go.Proofs.YtlbpeeelgpjciaaGreat.Codec (lt_of_heap frozen_of heap_set below_new)
open _root_.Go.Proofs.YtlbpeeelgpjciaaGreat.Kit (Enc Lies Own At Kept Laid Two cell_on lt_heap take_snoc below_drewN box5)

set_option maxRecDepth 100000 in
set_option maxHeartbeats 4000000 in
theorem rexpire_any {B v : Nat} {room : Int} {l : List It} {w : World} (h : Qu B w v ov room l) (hB : B ≤ w.heap.size) (hl : l.length ≤ 1000) (now : Int) :
    Calls Tryz.prog 76 #[.pointer (some ⟨v, ov, none⟩), .int .i64 now] w fun e w' => ∃ p c, e = .returned (.slice p (expire l now).2.length c) ∧ Lies item w' p (expire l now).2 ∧ Step B w v ov room (expire l now).1 w' := by
  have HV := Lib.hid h
  have HBB := Lib.hid hB
  have HE1 := Lib.hid (show (expire l now).1 = l.filter (fun x => !Queue.due now x) from rfl)
  have HE2 := Lib.hid (show (expire l now).2 = l.filter (Queue.due now) from rfl)
  have HD := Lib.hid (show Queue.due now = fun x => decide (x.til ≤ now) from rfl)
  generalize (expire l now).1 = R1 at *
  generalize (expire l now).2 = R2 at *
  generalize Queue.due now = D at *
  clear h hB
  go_enter Tryz.func76, Tryz.ntmps76
  go_wp2
  go_loopw [5, 6, 7] (fun y1 y2 k wr => ∃ (j : Nat) (p1 p2 : Option Addr) (d1 d2 n1 n2 : Nat), j ≤ l.length ∧ k = .int .i64 (j : Int) ∧ y1 = .slice p1 n1 d1 ∧ y2 = .slice p2 n2 d2 ∧ Hid (Two item 95 w.heap.size wr y1 y2 ((l.take j).filter D) ((l.take j).filter fun x => !D x)) ∧ Hid (((l.take j).filter D).length = n1 ∧ ((l.take j).filter fun x => !D x).length = n2) ∧ Hid (Below w.heap.size w wr)) (fun _ _ k _ => l.length - (intOf k).toNat)
  case atStart => exact ⟨0, none, none, 0, 0, 0, 0, by omega, rfl, rfl, rfl, Lib.hid (Two.none _ _ _ _), Lib.hid ⟨rfl, rfl⟩, Lib.hid (Below.refl _ _)⟩
  case round =>
    obtain ⟨j, p1, p2, d1, d2, n1, n2, hj, rfl, rfl, rfl, HT, HN, HB⟩ := hrel
    obtain ⟨q, cq, c1, hr, -⟩ := (HV.out.below HB.out).cell
    by_cases hlj : j < l.length
    · have hlj' : (j : Int) < (l.length : Int) := by omega
      obtain ⟨b, o, rfl, hat⟩ := lies_at hr hlj
      obtain ⟨k0, k1, k2, k3, k4⟩ := at5 hat
      have hn1 : n1 ≤ 1000 := by
        rw [← HN.out.1]
        exact Nat.le_trans (List.length_filter_le _ _) (by simp; omega)
      have hn2 : n2 ≤ 1000 := by
        rw [← HN.out.2]
        exact Nat.le_trans (List.length_filter_le _ _) (by simp; omega)
      have HY := Lib.hid (filter_yes (f := D) hlj)
      have HO := Lib.hid (filter_no (f := D) hlj)
      have HY2 := Lib.hid (filter_yes (f := fun x => !D x) hlj)
      have HO2 := Lib.hid (filter_no (f := fun x => !D x) hlj)
      have hdec : D (l.getD j z) = decide ((l.getD j z).til ≤ now) := by rw [HD.out]
      generalize l.getD j z = x at *
      generalize (l.take j).filter D = F1 at *
      generalize (l.take j).filter (fun x => !D x) = F2 at *
      clear hr hat
      obtain ⟨xi, xk, xc, xs, xt⟩ := x
      simp only at k0 k1 k2 k3 k4 hdec
      by_cases hx : xt ≤ now
      · have hd : D ⟨xi, xk, xc, xs, xt⟩ = true := by rw [hdec]; simp [hx]
        have E1 := Lib.hid (HY.out hd)
        have E2 := Lib.hid (HO2.out (by simp [hd]))
        clear hdec hd HY HO HY2 HO2
        go_wp2_with (at_builtin; refine Kit.push2 laidR rfl _ _ rfl w wr (.slice p1 n1 d1) (.slice p2 n2 d2) rfl F1 F2 n1 HN.out.1 HT.out HB.out ((Below.refl _ _).alloc (Nat.le_refl _) _) wr.heap.size ⟨xi, xk, xc, xs, xt⟩ rfl (heap_alloc_new _ _) (by omega) ?_; intro p4 c4 w4 R4 B4)
        go_roundw
        case rel => exact ⟨j + 1, p4, p2, c4, d2, n1 + 1, n2, by omega, by go_num, rfl, rfl, by rw [E1.out, E2.out]; exact R4, Lib.hid ⟨by rw [E1.out, List.length_append, HN.out.1]; rfl, by rw [E2.out]; exact HN.out.2⟩, Lib.hid B4⟩
        case measure => simp only [intOf]; omega
      · have hd : D ⟨xi, xk, xc, xs, xt⟩ = false := by rw [hdec]; simp; omega
        have E1 := Lib.hid (HO.out hd)
        have E2 := Lib.hid (HY2.out (by simp [hd]))
        clear hdec hd HY HO HY2 HO2
        go_wp2_with (at_builtin; refine Kit.push2 laidR rfl _ _ rfl w wr (.slice p2 n2 d2) (.slice p1 n1 d1) rfl F2 F1 n2 HN.out.2 HT.out.swap HB.out ((Below.refl _ _).alloc (Nat.le_refl _) _) wr.heap.size ⟨xi, xk, xc, xs, xt⟩ rfl (heap_alloc_new _ _) (by omega) ?_; intro p4 c4 w4 R4 B4)
        go_roundw
        case rel => exact ⟨j + 1, p1, p4, d1, c4, n1, n2 + 1, by omega, by go_num, rfl, rfl, by rw [E1.out, E2.out]; exact R4.swap, Lib.hid ⟨by rw [E1.out]; exact HN.out.1, by rw [E2.out, List.length_append, HN.out.2]; rfl⟩, Lib.hid B4⟩
        case measure => simp only [intOf]; omega
    · have hlj' : ¬ (j : Int) < (l.length : Int) := by omega
      rw [List.take_of_length_le (by omega), ← HE1.out, ← HE2.out] at HT HN
      obtain ⟨hn1, hn2⟩ := HN.out
      subst hn1
      have hown := HT.out.o1
      obtain ⟨f0, ⟨u0, k0⟩, DD⟩ := HV.out.store HBB.out HB.out HT.out.o2
      have HF := Lib.hid (fun u => Kit.Own.set (o := ov + 1) (u := u) hown HV.out.lt)
      clear hr hown hn2
      go_wp2
      obtain ⟨q', d', hq, hlies⟩ := (HF.out _).lies
      simp only [Value.slice.injEq] at hq
      obtain ⟨rfl, -, rfl⟩ := hq
      have HQ := Lib.hid hlies
      clear hlies
      refine bodyPost_ret (v := .slice p1 R2.length d1) (by simp [results, Tryz.results76, go_sem]) rfl ⟨p1, ⟨d1, rfl⟩, HQ.out, DD.out⟩
end Go.Proofs.YtlbpeeelgpjciaaGreat.Queue2

namespace Go.Proofs.YtlbpeeelgpjciaaGreat.Sat
open Go.RowKit

theorem rret_int {k : IntKind} {a b : Int} (h : a = b) : Ending.returned (.int k a) = .returned (.int k b) := by rw [h]
theorem rfit_any (x : Int) (w : World) :
    Calls Tryz.prog 128 #[.int .i64 x] w fun e w' => e = .returned (.int .i64 (fit x)) ∧ w = w' := by
  by_cases h1 : x < 0
  · go_enter Tryz.func128, Tryz.ntmps128
    go_wp2
    go_ret
    exact ⟨rret_int (by unfold fit; rw [if_pos h1]), rfl⟩
  · by_cases h2 : 4611686018427387904 < x
    · go_enter Tryz.func128, Tryz.ntmps128
      go_wp2
      go_ret
      exact ⟨rret_int (by unfold fit top; rw [if_neg (by omega), if_pos h2]), rfl⟩
    · go_enter Tryz.func128, Tryz.ntmps128
      go_wp2
      go_ret
      exact ⟨rret_int (by unfold fit top; rw [if_neg (by omega), if_neg (by omega)]), rfl⟩

theorem add_two (a b : Int) : add [a, b] = if 4611686018427387904 - fit a < fit b then 4611686018427387904 else fit a + fit b := by
  unfold add top; rw [sum_two]
  by_cases h : 4611686018427387904 < fit a + fit b
  · rw [if_pos h, if_pos (by omega)]
  · rw [if_neg h, if_neg (by omega)]
theorem rtwo_any (a b : Int) (w : World) :
    Calls Tryz.prog 85 #[.int .i64 a, .int .i64 b] w fun e w' => e = .returned (.int .i64 (add [a, b])) ∧ w = w' := by
  have a0 := fit_lo a; have a1 := fit_hi a; have b0 := fit_lo b; have b1 := fit_hi b
  have HE := Lib.hid (add_two a b)
  by_cases h : 4611686018427387904 - fit a < fit b
  · go_enter Tryz.func85, Tryz.ntmps85
    go_wp2_with (go_at_call 128; refine (rfit_any _ _).mono ?_; rintro e w' ⟨rfl, rfl⟩)
    go_ret
    exact ⟨rret_int (by rw [HE.out, if_pos h]), rfl⟩
  · go_enter Tryz.func85, Tryz.ntmps85
    go_wp2_with (go_at_call 128; refine (rfit_any _ _).mono ?_; rintro e w' ⟨rfl, rfl⟩)
    go_ret
    exact ⟨rret_int (by rw [HE.out, if_neg (by omega)]), rfl⟩



end Go.Proofs.YtlbpeeelgpjciaaGreat.Sat

namespace Go.Proofs.YtlbpeeelgpjciaaGreat.Demand2
open _root_.Go.Proofs.YtlbpeeelgpjciaaGreat.Demand
variable {ov : Nat}
open Go.RowKit
open _root_.Go.Proofs.YtlbpeeelgpjciaaGreat.Codec (lt_of_heap frozen_of heap_set below_new)
open _root_.Go.Proofs.YtlbpeeelgpjciaaGreat.Kit (Enc Lies Own At Kept Laid cell_on lt_heap take_snoc below_drewN)
open _root_.Go.Proofs.YtlbpeeelgpjciaaGreat.Sat (fit add fit_lo fit_hi)

theorem drop_cons {l : List Nt} {j : Nat} (h : j < l.length) : l.drop j = l.getD j z :: l.drop (j + 1) := by
  rw [List.drop_eq_getElem_cons h]
  simp [List.getD, h]
theorem bh_yes (k : Int) {l : List Nt} {j : Nat} (h : j < l.length) (e : (l.getD j z).key = k) : bh k (l.drop j) = (max (bh k (l.drop (j + 1))).1 (fit (l.getD j z).spent / 2 ^ min (bh k (l.drop (j + 1))).2 63), (bh k (l.drop (j + 1))).2 + 1) := by
  rw [drop_cons h]
  show (if (l.getD j z).key = k then _ else _) = _
  rw [if_pos e]
theorem bh_no (k : Int) {l : List Nt} {j : Nat} (h : j < l.length) (e : (l.getD j z).key ≠ k) : bh k (l.drop j) = bh k (l.drop (j + 1)) := by
  rw [drop_cons h]
  show (if (l.getD j z).key = k then _ else _) = _
  rw [if_neg e]
theorem halve (x : Int) (n : Nat) : x / 2 ^ (n + 1) = x / 2 ^ n / 2 := by
  rw [Int.ediv_ediv_of_nonneg (Int.le_of_lt (pow_pos' n)), ← Int.pow_succ]
set_option maxRecDepth 100000 in
set_option maxHeartbeats 4000000 in
theorem rof_any {B v : Nat} {l : List Nt} {w : World} (h : Dm B w v ov l) (hl : l.length ≤ 1000) (key : Int) :
    Calls Tryz.prog 125 #[.pointer (some ⟨v, ov, none⟩), .int .i64 key] w fun e w' => e = .returned (.int .i64 (of l key)) ∧ Below w.heap.size w w' := by
  obtain ⟨p, c, c1, hr, -⟩ := h.cell
  have HR := Lib.hid hr
  have HD := Lib.hid (of_bh l key)
  have HY := Lib.hid (fun (j : Nat) (hj : j < l.length) => bh_yes key hj)
  have HNO := Lib.hid (fun (j : Nat) (hj : j < l.length) => bh_no key hj)
  have HN := Lib.hid (fun j => bh_num key (l.drop j))
  have H0 := Lib.hid (show bh key (l.drop l.length) = (0, 0) by rw [List.drop_length]; rfl)
  have HB := Lib.hid (Below.refl w.heap.size w)
  have hsub : IntKind.i64.wrap ((l.length : Int) - 1) = (l.length : Int) - 1 := IntWalk.i64_in _ (by omega)
  generalize of l key = R at HD ⊢
  have HE := Lib.hid (show (bh key (l.drop 0)).1 = R by rw [List.drop_zero]; exact HD.out)
  generalize hK : (fun j => bh key (l.drop j)) = KB
  have hK' : ∀ j, bh key (l.drop j) = KB j := fun j => by rw [← hK]
  simp only [hK'] at HE HY HNO HN H0
  clear hr h hK hK' HD
  go_enter Tryz.func125, Tryz.ntmps125
  go_wp2
  go_loop [5, 6, 7] (fun bst hlf i => ∃ j : Nat, j ≤ l.length ∧ ((j = 0 ∧ i = .int .i64 (-1)) ∨ (∃ n : Nat, j = n + 1 ∧ i = .int .i64 (n : Int))) ∧ bst = .int .i64 (KB j).1 ∧ hlf = .int .i64 ((KB j).2 : Int)) (fun _ _ i => (intOf i + 1).toNat)
  case atStart =>
    refine ⟨l.length, Nat.le_refl _, ?_, by rw [H0.out], by rw [H0.out]; rfl⟩
    rcases hl0 : l.length with - | n
    · exact .inl ⟨rfl, by simp⟩
    · exact .inr ⟨n, rfl, by congr 1; omega⟩
  case round =>
    obtain ⟨j, hj, hi, rfl, rfl⟩ := hrel
    rcases hi with ⟨rfl, rfl⟩ | ⟨n, rfl, rfl⟩
    · have hn := HE.out
      generalize KB 0 = S at *
      obtain ⟨b0, h0⟩ := S
      simp only at hn
      subst hn
      go_wp2
      go_ret
      exact ⟨rfl, HB.out⟩
    · have hlt : n < l.length := by omega
      obtain ⟨b, o, rfl, hat⟩ := lies_at HR.out hlt
      obtain ⟨k0, k1⟩ := at2 hat
      have hdec : IntKind.i64.wrap ((n : Int) - 1) = (n : Int) - 1 := IntWalk.i64_in _ (by omega)
      obtain ⟨g0, g1, g2⟩ := HN.out (n + 1)
      have g3 : (KB (n + 1)).2 ≤ 1000 := Nat.le_trans g2 (by simp; omega)
      have HI := Lib.hid (show ((n = 0 ∧ Value.int .i64 ((n : Int) - 1) = .int .i64 (-1)) ∨ (∃ m : Nat, n = m + 1 ∧ Value.int .i64 ((n : Int) - 1) = .int .i64 (m : Int))) from by
        rcases n with - | m
        · exact .inl ⟨rfl, rfl⟩
        · exact .inr ⟨m, rfl, by congr 1; omega⟩)
      by_cases hk : (l.getD n z).key = key
      · have HQ := Lib.hid (HY.out n hlt hk)
        rw [hk] at k0
        have ct := _root_.Go.Proofs.YtlbpeeelgpjciaaGreat.Sat.rfit_any (l.getD n z).spent
        generalize KB (n + 1) = S at *
        generalize hS' : KB n = S' at *
        have HS' := Lib.hid hS'
        have f0 := fit_lo (l.getD n z).spent
        have f1 := fit_hi (l.getD n z).spent
        clear hat hk HY HNO HN H0 HE g2 hS'
        generalize (l.getD n z).spent = x at *
        generalize fit x = y at *
        obtain ⟨best, half⟩ := S
        simp only at g0 g1 g3 HQ
        go_wp2_with (go_at_call 128; (with_reducible refine (ct _).mono ?_); rintro e w2 ⟨rfl, rfl⟩)
        have HM := Lib.hid (show min half 63 ≤ half ∧ min half 63 ≤ 63 ∧ (min half 63 < half → min half 63 = 63) by omega)
        generalize hmn : min half 63 = M at *
        have HV := Lib.hid (fun t => halve y t)
        have HP := Lib.hid (show y / 2 ^ 0 = y by simp)
        have HZ := Lib.hid (fun t => Int.ediv_nonneg f0 (Int.le_of_lt (pow_pos' t)))
        have HT := Lib.hid (fun t => Int.le_trans (Int.ediv_le_self (2 ^ t) f0) f1)
        clear hmn
        generalize hX : (fun t : Nat => y / 2 ^ t) = X at *
        have hX' : ∀ t : Nat, y / 2 ^ t = X t := fun t => by rw [← hX]
        simp only [hX'] at HV HP HQ HZ HT
        clear hX hX'
        go_loop [8, 9] (fun x k => ∃ t : Nat, t ≤ M ∧ k = .int .i64 (t : Int) ∧ x = .int .i64 (X t)) (fun _ k => M - (intOf k).toNat)
        case atStart => exact ⟨0, by omega, rfl, by rw [HP.out]⟩
        case round =>
          obtain ⟨t, ht, rfl, rfl⟩ := hrel
          obtain ⟨m1, m2, m3⟩ := HM.out
          have z0 := HZ.out t
          have z1 := HT.out t
          by_cases htm : t < M
          · have h1 : (t : Int) < (half : Int) := by omega
            have h2 : (t : Int) < 63 := by omega
            have HVT := Lib.hid (HV.out t)
            clear HV HP HZ HT HQ
            generalize X t = xt at *
            go_wp2
            go_round
            case rel => exact ⟨t + 1, by omega, by go_num, by rw [HVT.out]⟩
            case measure => simp only [intOf]; omega
          · obtain rfl : t = M := by omega
            clear HV HP HZ HT
            generalize X t = xt at *
            by_cases h1 : (t : Int) < (half : Int)
            · have h2 : ¬ (t : Int) < 63 := by omega
              go_wp2
              go_round
              case rel => exact ⟨n, by omega, HI.out, by rw [HS'.out, HQ.out], by rw [HS'.out, HQ.out]; simp⟩
              case measure => simp only [intOf]; omega
            · go_wp2
              go_round
              case rel => exact ⟨n, by omega, HI.out, by rw [HS'.out, HQ.out], by rw [HS'.out, HQ.out]; simp⟩
              case measure => simp only [intOf]; omega
      · have HQ := Lib.hid (HNO.out n hlt hk)
        clear hat k1 HY HNO HN H0 HE g2
        generalize (l.getD n z).key = kk at *
        have hkk : (kk != key) = true := by simp [hk]
        generalize KB (n + 1) = S at *
        generalize hS' : KB n = S' at *
        have HS' := Lib.hid hS'
        clear hS' hk
        obtain ⟨best, half⟩ := S
        simp only at g0 g1 g3 HQ
        go_wp2
        go_round
        case rel => exact ⟨n, by omega, HI.out, by rw [HS'.out, HQ.out], by rw [HS'.out, HQ.out]⟩
        case measure => simp only [intOf]; omega
set_option maxRecDepth 100000 in
theorem rwant_any {B v : Nat} {l : List Nt} {w : World} (h : Dm B w v ov l) (hl : l.length ≤ 1000) (key queued most : Int) :
    Calls Tryz.prog 92 #[.pointer (some ⟨v, ov, none⟩), .int .i64 key, .int .i64 queued, .int .i64 most] w fun e w' => e = .returned (.int .i64 (want (of l key) queued most)) ∧ Below w.heap.size w w' := by
  have c1 := rof_any h hl key
  have c2 := _root_.Go.Proofs.YtlbpeeelgpjciaaGreat.Sat.rtwo_any (of l key) queued
  have c3 := _root_.Go.Proofs.YtlbpeeelgpjciaaGreat.Sat.rfit_any most
  have HX := Lib.hid (show min (add [of l key, queued]) (fit most) = want (of l key) queued most from rfl)
  generalize want (of l key) queued most = R at *
  generalize add [of l key, queued] = a at *
  generalize fit most = b at *
  generalize of l key = e at *
  clear h
  go_enter Tryz.func92, Tryz.ntmps92
  go_wp2_with (first
    | (go_at_call 125; (with_reducible refine c1.mono ?_); rintro e1 w1 ⟨rfl, hb⟩; have HB := Lib.hid hb; clear hb c1)
    | (go_at_call 85; (with_reducible refine (c2 _).mono ?_); rintro e1 w2 ⟨rfl, rfl⟩)
    | (go_at_call 128; (with_reducible refine (c3 _).mono ?_); rintro e1 w3 ⟨rfl, rfl⟩))
  go_ret
  exact ⟨by simp; exact HX.out, HB.out⟩
end Go.Proofs.YtlbpeeelgpjciaaGreat.Demand2
