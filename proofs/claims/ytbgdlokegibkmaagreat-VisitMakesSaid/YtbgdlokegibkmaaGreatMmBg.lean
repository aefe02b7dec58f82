/-
  The program's Of once more, and where its row lies; the program's Refuse, of any edge that is kept well.
-/
import Derived.Test.YtbgdlokegibkmaaGreatMmAm
import Derived.Test.YtbgdlokegibkmaaGreatMmBf
namespace Go.Proofs.YtbgdlokegibkmaaGreat.Queue
open Go.RowKit Go.Shelf Go.Sort
open _root_.Go.Proofs.YtbgdlokegibkmaaGreat.Codec (lt_of_heap frozen_of heap_set own_below)
open _root_.Go.Proofs.YtbgdlokegibkmaaGreat.Kit (Enc Lies Own At Kept Laid Off cell_on lt_heap take_snoc below_drewN box5 ints own_keep own_lt cells)
theorem own_ge {T : TypeId} {B : Nat} {w : World} {p : Option Addr} {n c : Nat} {l : List It} (h : Own item T B w (.slice p n c) l) : ∀ a, p = some a → B ≤ a.block := by
  rintro a rfl
  exact (World.ownsRow.lt h a.block rfl).1
set_option maxRecDepth 100000 in
set_option maxHeartbeats 2000000 in
theorem pof_own {F : Nat → Prop} {B q : Nat} {w : World} {room : Int} {l : List It} (h : Pq F B w q room l) (hg : Good room l) (hl : l.length ≤ 16) (key : Int) :
    Calls Tryz.prog 138 #[.pointer (some ⟨q, 0, none⟩), .int .i64 key] w fun e w' => ∃ p c, e = .returned (.slice p (of l key).length c) ∧ Lies item w' p (of l key) ∧ (∀ a, p = some a → w.heap.size ≤ a.block) ∧ Below w.heap.size w w' := by
  have hc : ∀ x ∈ l, 0 ≤ x.cls ∧ x.cls ≤ 2 := fun x hx => by have := (hg.each x hx).1; unfold wrong at this; omega
  have hs := sorted_of key hc
  have hbx := lay w (.cells #[.int .i64 key] 3)
  obtain ⟨y, hy⟩ := h
  have ha := pall_any (⟨y, hy.below hbx⟩ : Pq F B _ q room l) hl
  have hcell := cell_of_row _ w.heap.size 0 _ _ (0, 0) (heap_alloc_new w (.cells #[.int .i64 key] 3))
  have HB := Lib.hid hbx
  have HPK := Lib.hid (fun (u : World) (p : Option Addr) (d : Nat) (hp : Lies item u p l) (hu : Below (w.alloc (.cells #[.int .i64 key] 3)).heap.size (w.alloc (.cells #[.int .i64 key] 3)) u) => picked_any ent_of (gives_of w.heap.size key) (d := d) hp (by omega) (cell_on hcell hu))
  rw [show l.filter (isKey key) = l.filter (fun x => x.key == key) from rfl] at HPK
  have hml : (l.filter fun x => x.key == key).length ≤ 16 := Nat.le_trans (List.length_filter_le _ _) hl
  have hlen : (of l key).length = (l.filter fun x => x.key == key).length := by
    rw [← hs, Array.length_toList, (insertionSort_holds (lt := Go.Proofs.ltOf byCls) byCls_swo (l.filter fun x => x.key == key).toArray 0 (l.filter fun x => x.key == key).length (Nat.zero_le _) (by simp)).1.1]
    simp
  generalize (l.filter fun x => x.key == key) = m at *
  have HSO := Lib.hid (fun (u : World) (y : Value) (ho : Own item 136 w.heap.size u y m) (hu : w.heap.size ≤ u.heap.size) => sort_own ho hu hml)
  rw [hs] at HSO
  rw [hlen]
  generalize of l key = R at *
  clear hy hcell hbx hg hc hs
  go_enter Tryz.func138, Tryz.ntmps138
  go_wp2_with (first
    | (go_at_call 36; (with_reducible refine ha.mono ?_); rintro e u1 ⟨y1, rfl, ho, hb⟩; obtain ⟨p1, d1, rfl, hl1, -⟩ := own_slice ho; have HL1 := Lib.hid hl1; have HB1 := Lib.hid hb; clear ho hb hl1 ha)
    | (go_at_call 179; (with_reducible refine (HPK.out _ _ _ HL1.out HB1.out).mono ?_); rintro e u2 ⟨y2, rfl, ho, hb⟩; have HB2 := Lib.hid (HB.out.trans ((HB1.out.trans (hb.mono HB1.out.size)).mono HB.out.size)); have HO2 := Lib.hid (Own.lower ho (Nat.le_trans HB.out.size HB1.out.size)); clear ho hb HPK)
    | (go_at_call 181; (with_reducible refine (HSO.out _ _ HO2.out HB2.out.size).mono ?_); rintro e u3 ⟨rfl, ⟨p3, d3, rfl, hl3⟩, hb⟩; have HG3 := Lib.hid (own_ge HO2.out); have HB3 := Lib.hid (HB2.out.trans hb); have HL3 := Lib.hid hl3; clear hb hl3 HSO))
  go_ret
  exact ⟨_, _, rfl, HL3.out, HG3.out, HB3.out⟩
end Go.Proofs.YtbgdlokegibkmaaGreat.Queue
namespace Go.Proofs.YtbgdlokegibkmaaGreat.Edge
open Go.RowKit
open _root_.Go.Proofs.YtbgdlokegibkmaaGreat.Codec (lt_of_heap frozen_of heap_set)
open _root_.Go.Proofs.YtbgdlokegibkmaaGreat.Kit (Enc Lies At Kept Laid Off cell_on lt_heap take_snoc below_drewN own_keep box5)
open _root_.Go.Proofs.YtbgdlokegibkmaaGreat.Lease (Lz Num spend)
open _root_.Go.Proofs.YtbgdlokegibkmaaGreat.Queue (It take)
open _root_.Go.Proofs.YtbgdlokegibkmaaGreat.Demand (Nt)
section
variable {R : Nat → Prop} {B q qw qq qd : Nat} {w w' u u' : World} {y : Value} {c : Cf} {e e' e2 : Eg}
theorem good_without {c : Cf} {e : Eg} (h : Good c e) : ∀ l : List It, Good c ⟨e.L, without e.Q l, e.D⟩ := fun l => good_sub h (without_sublist l e.Q)
/-- A row of items that stays. -/
theorem row_stays {p : Option Addr} {l : List It} (h : Lies Queue.item w p l) (hp : ∀ a, p = some a → w'.heap[a.block]? = w.heap[a.block]?) : Lies Queue.item w' p l := by
  rcases h with h | ⟨b, o, rfl, hc⟩
  · exact .inl h
  · have e : w'.heap[b]? = w.heap[b]? := hp ⟨b, o, none⟩ rfl
    exact .inr ⟨b, o, rfl, fun j hj k v hv => (World.cell?_of_block (a := ⟨b, o + j * Queue.item.n + k, none⟩) e).trans (hc j hj k v hv)⟩
/-- Take, and what stays. -/
theorem etake2 (P : Queue.Way12 Queue.Pq) (h : In R B w q y qw qq qd c e) (hB : B ≤ w.heap.size) (hg : Queue.Good c.qu e.Q) (hl : e.Q.length ≤ 16) (id : Int) (hi : Queue.Num id) :
    Calls Tryz.prog 162 #[.pointer (some ⟨qq, 0, none⟩), .int .i64 id] w fun x' w' => x' = .returned (.tuple #[Queue.val (Queue.take e.Q id).2.1, .bool (Queue.take e.Q id).2.2]) ∧ Moves R B w q y qw qq qd c ⟨e.L, (Queue.take e.Q id).1, e.D⟩ w' ∧ ∀ g, R g → g < w.heap.size → w'.heap[g]? = w.heap[g]? :=
  (P.take (pq_notq h.qu) hB hg hl id hi).mono fun _ _ ⟨he, ht⟩ => ⟨he, h.step_q ht, fun g hr hg => ht.rest g (.inr hr) hg⟩
set_option maxRecDepth 100000 in
set_option maxHeartbeats 8000000 in
theorem prefuse_any (P : Queue.Way12 Queue.Pq) (h : In R B w q y qw qq qd c e) (hB : B ≤ w.heap.size) (hg : Good c e) (hf : Lens e) {key : Int} (_ : Num key) (why : Int) :
    Calls Tryz.prog 108 #[.pointer (some ⟨q, 0, none⟩), .int .i64 key, .int .i64 why] w fun x w' => ∃ v, x = .returned v ∧ Says w' v (refuse e key why).2 ∧ Moves R B w q y qw qq qd c (refuse e key why).1 w' := by
  have c0 := Queue.pof_own h.qu hg.q hf.2.1 key
  have hlen := Queue.of_len e.Q key
  have hlq := hf.2.1
  have SV := Lib.hid (show refuse e key why = (⟨e.L, without e.Q (Queue.of e.Q key), e.D⟩, all (Queue.of e.Q key) why) from rfl)
  have HQN := Lib.hid (fun x (hx : x ∈ Queue.of e.Q key) => (hg.q.each x (Queue.mem_of hx).1).2.1)
  generalize refuse e key why = RR at *
  generalize Queue.of e.Q key = l at *
  have c2 := Lib.hid (fun u p k (hl : Lies Queue.item u p l) => answered_any (d := k) hl (by omega) why)
  have SS := Lib.hid (fun (j : Nat) (hj : j < l.length) => without_at (Q := e.Q) hj)
  have S0 := Lib.hid (show without e.Q (l.take 0) = e.Q from rfl)
  have SL := Lib.hid (show without e.Q l = without e.Q (l.take l.length) by rw [List.take_length])
  have SN := Lib.hid (fun j => Nat.le_trans (without_len e.Q (l.take j)) hlq)
  have SG := Lib.hid (fun j => good_without hg (l.take j))
  have HBB := Lib.hid hB
  have HFL := Lib.hid (fun g (hg : R g) => h.low g hg)
  have HV := Lib.hid h
  have s10 := h.sees.k10
  generalize all l why = A at *
  clear h hB hg hf
  go_enter Tryz.func108, Tryz.ntmps108
  go_wp2_with (go_at_call 138; (with_reducible refine c0.mono ?_); rintro e1 w1 ⟨p, d, rfl, hl, hge, hb⟩; have HL := Lib.hid hl; have HGE := Lib.hid hge; have HB1 := Lib.hid hb; clear hl hge hb c0)
  have HI1 := Lib.hid (HV.out.grow HB1.out)
  have HM0 := Lib.hid (Moves.same HV.out HBB.out HB1.out)
  have HB2 := Lib.hid (Nat.le_trans HBB.out HB1.out.size)
  go_loopw [20] (fun i wr => ∃ (j : Nat), j ≤ l.length ∧ i = .int .i64 (j : Int) ∧ Hid (Moves (fun g => R g ∨ w.heap.size ≤ g ∧ g < w1.heap.size) B w1 q y qw qq qd c ⟨e.L, without e.Q (l.take j), e.D⟩ wr) ∧ Hid (∀ g, (R g ∨ w.heap.size ≤ g ∧ g < w1.heap.size) → wr.heap[g]? = w1.heap[g]?)) (fun i _ => l.length - (intOf i).toNat)
  case atStart => exact ⟨0, by omega, rfl, by rw [S0.out]; exact Lib.hid (Moves.same HI1.out HB2.out (Below.refl _ _)), Lib.hid fun _ _ => rfl⟩
  case round =>
    obtain ⟨j, hj, rfl, hst, hkp⟩ := hrel
    have HRL := Lib.hid (fun g (hg : R g) => Nat.lt_of_lt_of_le (HFL.out g hg) (Nat.le_trans HB1.out.size hst.out.off.size))
    by_cases hlt : j < l.length
    · have hlt' : (j : Int) < (l.length : Int) := by omega
      obtain ⟨b, o, rfl, ha1⟩ := Queue.lies_at HL.out hlt
      have hRb : R b ∨ w.heap.size ≤ b ∧ b < w1.heap.size := .inr ⟨HGE.out _ rfl, World.block_lt_of_cell? _ _ (ha1 0 _ rfl)⟩
      have ha : At Queue.item wr b (o + j * 5) (l.getD j Queue.z) := fun k v hv => (World.cell?_of_block (a := ⟨b, o + j * 5 + k, none⟩) (hkp.out b hRb)).trans (ha1 k v hv)
      obtain ⟨k0, k1, k2, k3, k4⟩ := Queue.at5 ha
      have HSS := Lib.hid (SS.out j hlt)
      have hid : Queue.Num (l.getD j Queue.z).id := by have := HQN.out _ (List.getElem_mem hlt); simpa [List.getD, hlt] using this
      have hBwr := Lib.hid (Nat.le_trans HB2.out hst.out.off.size)
      have HTK := Lib.hid (fun (R' : Nat → Prop) u (hu : In R' B u q y qw qq qd c ⟨e.L, without e.Q (l.take j), e.D⟩) (hb : B ≤ u.heap.size) => etake2 P hu hb (SG.out j).q (SN.out j) (l.getD j Queue.z).id hid)
      clear SS SN S0 SL SG HQN ha ha1 SV P
      generalize l.getD j Queue.z = x at *
      have HW2 := Lib.hid (lay wr (.cells #[.int .i64 x.id, .int .i64 x.key, .int .i64 x.cost, .int .i64 x.cls, .int .i64 x.til] 136))
      have HK2 := Lib.hid (heap_alloc_new wr (.cells #[.int .i64 x.id, .int .i64 x.key, .int .i64 x.cost, .int .i64 x.cls, .int .i64 x.til] 136))
      have s10' := (hst.out.inn.below HW2.out).sees.k10
      obtain ⟨xi, xk, xc, xs, xt⟩ := x
      simp only at k0 k1 k2 k3 k4 HTK HSS HW2 HK2 s10'
      have t0 := (box5 HK2.out).1
      clear s10
      go_wp2
      generalize wr.alloc (.cells #[.int .i64 xi, .int .i64 xk, .int .i64 xc, .int .i64 xs, .int .i64 xt] 136) = w2 at *
      have HI2 := Lib.hid ((hst.out.inn.grow HW2.out).below (Below.refl _ w2).drew)
      have c3 := HTK.out _ _ HI2.out (Nat.le_trans hBwr.out (HW2.out.drew).size)
      have hRX : (R wr.heap.size ∨ w.heap.size ≤ wr.heap.size ∧ wr.heap.size < w1.heap.size) ∨ wr.heap.size ≤ wr.heap.size ∧ wr.heap.size < w2.heap.size := .inr ⟨Nat.le_refl _, lt_of_heap HK2.out⟩
      go_region_held3 (fun u => u.cell? ⟨q, 10, none⟩ = some (.pointer (some ⟨qq, 0, none⟩)) ∧ u.cell? ⟨wr.heap.size, 0, none⟩ = some (.int .i64 xi)) (first | with_reducible assumption | exact ⟨s10', t0⟩) (first
        | (go_at_call 162; (with_reducible refine c3.mono ?_); rintro e1 w4 ⟨rfl, h4, hk4⟩; have H4 := Lib.hid h4; have HK4 := Lib.hid hk4; have y4 : _ ∧ _ := ⟨h4.inn.sees.k10, (box5 ((hk4 _ hRX (lt_of_heap HK2.out)).trans HK2.out)).1⟩; clear h4 hk4 c3))
      go_wp2
      go_roundw
      case rel => exact ⟨j + 1, by omega, by go_num, by rw [HSS.out]; exact Lib.hid ((hst.out.on HB2.out (HW2.out.trans ((Below.refl w2.heap.size w2).drew.mono HW2.out.size))).trans (H4.out.sub fun g hg => .inl hg)), Lib.hid fun g hg => (HK4.out g (.inl hg) (by rcases hg with hg | hg; exact Nat.lt_of_lt_of_le (HRL.out _ hg) HW2.out.size; exact Nat.lt_of_lt_of_le hg.2 (Nat.le_trans hst.out.off.size HW2.out.size))).trans ((HW2.out.block g (by rcases hg with hg | hg; exact HRL.out _ hg; exact Nat.lt_of_lt_of_le hg.2 hst.out.off.size)).trans (hkp.out g hg))⟩
      case measure => simp only [intOf]; omega
    · have hlt' : ¬ (j : Int) < (l.length : Int) := by omega
      obtain rfl : j = l.length := by omega
      have HR := Lib.hid (show RR = (⟨e.L, without e.Q (l.take l.length), e.D⟩, A) by rw [SV.out, SL.out])
      have HLI : Hid (Lies Queue.item wr p l) := by
        by_cases h0 : 0 < l.length
        · obtain ⟨b, o, rfl, ha1⟩ := Queue.lies_at HL.out h0
          have hRb : R b ∨ w.heap.size ≤ b ∧ b < w1.heap.size := .inr ⟨HGE.out _ rfl, World.block_lt_of_cell? _ _ (ha1 0 _ rfl)⟩
          exact Lib.hid (row_stays HL.out fun a ea => by cases ea; exact hkp.out b hRb)
        · exact Lib.hid (.inl (List.eq_nil_of_length_eq_zero (by omega)))
      clear SV SL SS SN S0
      go_wp2_with (go_at_call 35; (with_reducible refine (c2.out _ _ _ HLI.out).mono ?_); rintro e1 w5 ⟨v, rfl, ht, hb⟩; have HT := Lib.hid ht; have HB5 := Lib.hid hb; clear ht hb c2)
      go_ret
      exact ⟨v, rfl, by rw [HR.out]; exact HT.out, by rw [HR.out]; exact HM0.out.trans ((hst.out.sub fun _ h => .inl h).on HB2.out HB5.out)⟩
end
end Go.Proofs.YtbgdlokegibkmaaGreat.Edge
