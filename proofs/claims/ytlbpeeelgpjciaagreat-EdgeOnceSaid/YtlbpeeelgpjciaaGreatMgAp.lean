/-
  The document's Spend, of any good wallet of up to 1000 leases.
  The document's Drop, of any wallet of up to 1000 leases.
  What is asked of the program's wallet, whatever its blocks are: a predicate on memory, and what each call tells and leaves (Way11); the live question.
  A map of leases, as the program's wallet has one: how its entries read, what it holds of a list of leases (in whatever order), and what look-up, length, deletion and store tell and leave. No conditions beyond those that each names.
  The program's wallet in memory (Pm): its block, and the map that it has, or none; look-up, length, deletion of that map. No conditions beyond those that each names.
-/
import Derived.Laws.OwnMore
import Derived.Deep.RegionHeld3
import Derived.Lib.SlMapFilter
import Derived.Maps.OwnSet
import Derived.WalkArith
import Derived.Test.YtlbpeeelgpjciaaGreatMgAm
import Derived.Test.YtlbpeeelgpjciaaGreatMgAo
namespace Go.Proofs.YtlbpeeelgpjciaaGreat.Lease
open Go.RowKit
open _root_.Go.Proofs.YtlbpeeelgpjciaaGreat.Codec (lt_of_heap frozen_of heap_set below_new own_below)

theorem cells5_set : ∀ (l : List Lz) (i : Nat) (c : Int) (_ : i < l.length), (cells5 l).set (i * 5 + 3) (.int .i64 ((l.getD i z).spent + c)) = cells5 (l.set i (more (l.getD i z) c))
  | [], i, c, h => by simp at h
  | x :: l, 0, c, _ => by simp [cells5, more]
  | x :: l, i + 1, c, h => by
    have e : ∀ (y : Lz) (t : List Lz), cells5 (y :: t) = .int .i64 y.key :: .int .i64 y.gen :: .int .i64 y.amount :: .int .i64 y.spent :: .int .i64 y.til :: cells5 t := fun y t => by simp [cells5]
    have d : (x :: l).getD (i + 1) z = l.getD i z := by simp [List.getD]
    rw [d, List.set_cons_succ, e, e, ← cells5_set l i c (by simpa using h), show (i + 1) * 5 + 3 = (i * 5 + 3) + 1 + 1 + 1 + 1 + 1 by omega]
    simp
theorem own_news {w : World} {E : TypeId} {B : Nat} {b n c : Nat} {l : List Lz} (h : Own E B w (.slice (some ⟨b, 0, none⟩) n c) l) : ∀ j u, (cells5 l)[j]? = some u → w.cell? ((⟨b, 0, none⟩ : Addr).add j) = some u :=
  World.ownsRow.cells (g := b) h rfl
/-- All leases are copied. -/
theorem copy_leases {w : World} {ops : Array Oper} {rest : List Oper} {o : Oper} {a : Act} {Q : Exit → Act → World → Prop} (hgd : o.guard = none) (s y : Operand)
    (ho : o.op = .call { callee := .builtin .append, args := #[s, y], argTypes := #[53, 53] })
    (W : World) (B : Nat) (v : Value) (hs : a.eval s = v) (hown : Own 93 W.heap.size w v []) (b n c : Nat) (l : List Lz) (hn : l.length = n) (hy : a.eval y = .slice (some ⟨b, 0, none⟩) n c) (hl : Own 93 B w (.slice (some ⟨b, 0, none⟩) n c) l) (hlen : n ≤ 100000) (hb : Below W.heap.size W w)
    (h : ∀ p c' w', Hid (Own 93 W.heap.size w' (.slice p n c') l) → Below W.heap.size W w' → wpList Tryz.prog ops Q rest (a.put o.dst (.slice p n c')) w') : wpList Tryz.prog ops Q (o :: rest) a w := by
  subst hn
  obtain ⟨i0, hi, hz0, hz1, hz2⟩ := info_parts infoZ
  refine wpList_append_own _ hgd s y 53 ho W.heap.size 93 i0 (.agg #[.int .i64 0, .int .i64 0, .int .i64 0, .int .i64 0, .int .i64 0]) 5 40 Tryz.underlying53 hi hz0 hz1 hz2 rfl (by decide) v 0 [] hs hown ⟨b, 0, Option.none⟩ l.length c (cells5 l) hy (cells5_len l) (own_news hl) (cells5_one l) (by unfold maxLen; omega) (by omega) hb.size ?_
  intro v' w' ho2 hg2 _
  have hb2 := hb.grown hg2 hb.size (fun k hk => (World.ownsRow.lt hown k hk).1)
  have R : Own 93 W.heap.size w' v' l := by
    unfold Own
    rw [Nat.zero_add, List.nil_append] at ho2
    exact ho2
  obtain ⟨p, c', rfl⟩ : ∃ p c', v' = .slice p l.length c' := by
    obtain ⟨p, c', e, -⟩ := R.lies
    exact ⟨p, c', e⟩
  exact h p c' w' R hb2
/-- One of them is turned. -/
theorem own_turn {w : World} {E : TypeId} {B : Nat} {b n c : Nat} {l : List Lz} (h : Own E B w (.slice (some ⟨b, 0, none⟩) n c) l) (hn : l.length = n) {i : Nat} (hi : i < l.length) (k : Int) :
    Own E B (w.setCell ⟨b, i * 5 + 3, none⟩ (.int .i64 ((l.getD i z).spent + k))) (.slice (some ⟨b, 0, none⟩) n c) (l.set i (more (l.getD i z) k)) ∧ w.grownBy (w.setCell ⟨b, i * 5 + 3, none⟩ (.int .i64 ((l.getD i z).spent + k))) (some b) ∧ ∀ o, w.frozen? ⟨b, o, none⟩ = false := by
  subst hn
  obtain ⟨h1, h2⟩ := World.ownsRow.stored h (i * 5 + 3) (.int .i64 ((l.getD i z).spent + k))
  refine ⟨?_, h2, fun o => World.ownsRow.frozenAt h o⟩
  unfold Own
  rw [← cells5_set l i k hi, List.length_set]
  exact h1
theorem own_some {w : World} {E : TypeId} {B n c : Nat} {p : Option Addr} {l : List Lz} (h : Own E B w (.slice p n c) l) (hn : l.length = n) (hl : 0 < l.length) : ∃ g, p = some ⟨g, 0, none⟩ ∧ B ≤ g ∧ ∀ i, i < l.length → At w g (i * 5) (l.getD i z) := by
  obtain ⟨p', c', e, hlies⟩ := h.lies
  simp only [Value.slice.injEq] at e
  obtain ⟨rfl, -, -⟩ := e
  rcases h.2 with ⟨e, -⟩ | ⟨g, cap, cur, e, h1, -⟩
  · simp only [Value.slice.injEq] at e
    omega
  · simp only [Value.slice.injEq] at e
    obtain ⟨rfl, -, -⟩ := e
    refine ⟨g, rfl, h1, fun i hi => ?_⟩
    obtain ⟨b, o, e, ha⟩ := lies_at hlies hi
    simp only [Option.some.injEq, Addr.mk.injEq, and_true] at e
    obtain ⟨rfl, rfl⟩ := e
    rwa [Nat.zero_add] at ha
/-- All that Spend's stores ask and leave. -/
theorem spend_facts {B v n c : Nat} {w w3 : World} {p : Option Addr} {l : List Lz} (h : Wl B w v l) (hB : B ≤ w.heap.size) (hb : Below w.heap.size w w3) (R : Own 93 w.heap.size w3 (.slice p n c) l) (hn : l.length = n) {P : Nat} (hP : P < l.length) (k : Int) :
    ∃ g, p = some ⟨g, 0, none⟩ ∧ w3.cell? ⟨g, P * 5 + 3, none⟩ = some (.int .i64 (l.getD P z).spent) ∧ w3.frozen? ⟨g, P * 5 + 3, none⟩ = false ∧
      (w3.setCell ⟨g, P * 5 + 3, none⟩ (.int .i64 ((l.getD P z).spent + k))).frozen? ⟨v, 0, none⟩ = false ∧ (∃ u, (w3.setCell ⟨g, P * 5 + 3, none⟩ (.int .i64 ((l.getD P z).spent + k))).cell? ⟨v, 0, none⟩ = some u) ∧
      ((w3.setCell ⟨g, P * 5 + 3, none⟩ (.int .i64 ((l.getD P z).spent + k))).setCell ⟨v, 0, none⟩ (.slice (some ⟨g, 0, none⟩) n c)).cell? ⟨g, P * 5 + 1, none⟩ = some (.int .i64 (l.getD P z).gen) ∧
      Hid (Step B w v (l.set P (more (l.getD P z) k)) ((w3.setCell ⟨g, P * 5 + 3, none⟩ (.int .i64 ((l.getD P z).spent + k))).setCell ⟨v, 0, none⟩ (.slice (some ⟨g, 0, none⟩) n c))) := by
  obtain ⟨g, rfl, hg, ha⟩ := own_some R hn (by omega)
  obtain ⟨t1, t2, t3⟩ := own_turn R hn hP k
  have hb4 : Below w.heap.size w (w3.setCell ⟨g, P * 5 + 3, none⟩ (.int .i64 ((l.getD P z).spent + k))) := hb.setCell (p := ⟨g, P * 5 + 3, none⟩) hg _
  obtain ⟨f0, hu, S⟩ := h.store hB hb4 t1
  have t5 := Own.set (o := 0) (u := .slice (some ⟨g, 0, none⟩) n c) t1 h.lt
  obtain ⟨g', e, -, ha5⟩ := own_some t5 (by rw [List.length_set]; exact hn) (by rw [List.length_set]; omega)
  simp only [Option.some.injEq, Addr.mk.injEq, and_true] at e
  subst e
  have h5 := (ha5 P (by rw [List.length_set]; exact hP)).2.1
  have hget : (l.set P (more (l.getD P z) k)).getD P z = more (l.getD P z) k := by simp [List.getD, hP]
  rw [hget] at h5
  exact ⟨g, rfl, (ha P hP).2.2.2.1, t3 _, f0, hu, h5, S⟩

set_option maxRecDepth 100000 in
set_option maxHeartbeats 4000000 in
theorem rspend_no {B v : Nat} {l : List Lz} {w : World} (h : Wl B w v l) (hB : B ≤ w.heap.size) (hg : Good l) (hl : l.length ≤ 1000) (key cost now : Int) (hc : cost < 1 ∨ left l key now < cost) :
    Calls Tryz.prog 83 #[.pointer (some ⟨v, 0, none⟩), .int .i64 key, .int .i64 cost, .int .i64 now] w fun e w' => e = .returned (.tuple #[.int .i64 0, .bool false]) ∧ Step B w v l w' := by
  have HS := Lib.hid (fun u (hu : Below w.heap.size w u) => Step.same h hB hu)
  have HA := Lib.hid (fun u (hu : Below w.heap.size w u) => rleft_any (h.below hu) hg hl key now)
  generalize left l key now = P at *
  clear h
  by_cases h1 : cost < 1
  · clear hc HA
    go_enter Tryz.func83, Tryz.ntmps83
    go_wp2
    refine bodyPost_ret (v := .tuple #[.int .i64 0, .bool false]) (by simp [results, Tryz.results83, go_sem]) rfl ⟨rfl, HS.out _ (Below.refl _ _)⟩
  · have h2 : P < cost := by omega
    clear hc
    go_enter Tryz.func83, Tryz.ntmps83
    go_wp2_with (go_at_call 127; (with_reducible refine (HA.out _ (Below.refl _ _)).mono ?_); rintro e w1 ⟨rfl, hb⟩; have HB := Lib.hid hb; clear hb HA)
    refine bodyPost_ret (v := .tuple #[.int .i64 0, .bool false]) (by simp [results, Tryz.results83, go_sem]) rfl ⟨rfl, HS.out _ HB.out⟩

set_option maxRecDepth 100000 in
set_option maxHeartbeats 4000000 in
theorem rspend_ok {B v : Nat} {l : List Lz} {w : World} (h : Wl B w v l) (hB : B ≤ w.heap.size) (hg : Good l) (hl : l.length ≤ 1000) (key cost now : Int) (hc : ¬ (cost < 1 ∨ left l key now < cost)) :
    Calls Tryz.prog 83 #[.pointer (some ⟨v, 0, none⟩), .int .i64 key, .int .i64 cost, .int .i64 now] w fun e w' => e = .returned (.tuple #[.int .i64 (the l key).gen, .bool true]) ∧ Step B w v (l.set (place l key).toNat (more (the l key) cost)) w' := by
  obtain ⟨hp, -, hle, hc1⟩ := left_some hc
  obtain ⟨hj, -, hm⟩ := place_some hp
  obtain ⟨g0, g1, g2⟩ := hg.each _ hm
  have hw1 : IntKind.i64.wrap ((the l key).spent + cost) = (the l key).spent + cost := IntWalk.i64_in _ (by unfold Nums Num at g2; omega)
  have HA := Lib.hid (fun u (hu : Below w.heap.size w u) => rleft_any (h.below hu) hg hl key now)
  have HT := Lib.hid (fun u (hu : Below w.heap.size w u) => rat_any (h.below hu) hl key)
  obtain ⟨b, c, hcell, hown⟩ : ∃ b c, w.cell? ⟨v, 0, none⟩ = some (.slice (some ⟨b, 0, none⟩) l.length c) ∧ Own 93 B w (.slice (some ⟨b, 0, none⟩) l.length c) l := by
    obtain ⟨_, y, h1, h2⟩ := h
    obtain ⟨p, c, rfl, -⟩ := h2.lies
    obtain ⟨g, rfl, -, -⟩ := own_some h2 rfl (by omega)
    exact ⟨g, c, by rw [cell_of_row w v 0 _ _ (0, 0) h1]; rfl, h2⟩
  have HF := Lib.hid (fun (w3 : World) (p : Option Addr) (c3 : Nat) (hb : Below w.heap.size w w3) (R : Own 93 w.heap.size w3 (.slice p l.length c3) l) => spend_facts h hB hb R rfl hj cost)
  obtain ⟨P, hP⟩ : ∃ P : Nat, place l key = (P : Int) := ⟨(place l key).toNat, by omega⟩
  have hx : the l key = l.getD P z := by unfold the; rw [hP, Int.toNat_natCast]
  rw [hx] at hw1 hle ⊢
  simp only [hP, Int.toNat_natCast] at HT HF hj ⊢
  have h1 : ¬ cost < 1 := by omega
  have h2 : ¬ left l key now < cost := by omega
  have hlt : (P : Int) < (l.length : Int) := by omega
  have HCL := Lib.hid (fun u (hu : Below w.heap.size w u) => cell_on hcell hu)
  have HO := Lib.hid hown
  clear h hc hm g0 g1 g2 hg hp hP hx hown hle hc1
  generalize left l key now = LF at *
  generalize l.getD P z = x at *
  obtain ⟨xk, xg, xa, xs, xt⟩ := x
  simp only at hw1 HF ⊢
  go_enter Tryz.func83, Tryz.ntmps83
  go_wp2_with (first
    | (go_at_call 127; (with_reducible refine (HA.out _ (Below.refl _ _)).mono ?_); rintro e w1 ⟨rfl, hb⟩; have HB1 := Lib.hid hb; clear hb HA)
    | (go_at_call 124; (with_reducible refine (HT.out _ HB1.out).mono ?_); rintro e w2 ⟨rfl, hb⟩; have HB2 := Lib.hid (HB1.out.trans (hb.mono HB1.out.size)); have HB3 := Lib.hid (HB2.out.alloc HB2.out.size (.cells #[] 93)); have c1 := HCL.out _ HB3.out; clear hb HT HB1)
    | (at_builtin; refine copy_leases rfl (.tmp 25) (.tmp 29) rfl w B (.slice (some ⟨w2.heap.size, 0, none⟩) 0 0) rfl (World.ownsRow_made w2 #[] 0 HB2.out.size (Nat.zero_le _) rfl) b l.length c l rfl rfl (own_below HO.out HB3.out) (by omega) HB3.out ?_; intro p4 c4 w4 R4 B4; clear c1 hcell; obtain ⟨g4, rfl, d0, d1, d2, ⟨d3, d4⟩, d5, D⟩ := HF.out _ _ _ B4 R4.out; clear HF R4 B4 HB2 HB3))
  refine bodyPost_ret (v := .tuple #[.int .i64 xg, .bool true]) (by simp [results, Tryz.results83, go_sem]) rfl ⟨rfl, D.out⟩

/-- Spend, of any numbers. -/
theorem rspend_any {B v : Nat} {l : List Lz} {w : World} (h : Wl B w v l) (hB : B ≤ w.heap.size) (hg : Good l) (hl : l.length ≤ 1000) (key cost now : Int) :
    Calls Tryz.prog 83 #[.pointer (some ⟨v, 0, none⟩), .int .i64 key, .int .i64 cost, .int .i64 now] w fun e w' => e = .returned (.tuple #[.int .i64 (spend l key cost now).2.1, .bool (spend l key cost now).2.2]) ∧ Step B w v (spend l key cost now).1 w' := by
  unfold spend
  split
  · rename_i hc
    exact rspend_no h hB hg hl key cost now hc
  · rename_i hc
    exact rspend_ok h hB hg hl key cost now hc
end Go.Proofs.YtlbpeeelgpjciaaGreat.Lease

namespace Go.Proofs.YtlbpeeelgpjciaaGreat.Lease
open Go.RowKit
open _root_.Go.Proofs.YtlbpeeelgpjciaaGreat.Codec (lt_of_heap frozen_of heap_set below_new)

/-- What is left, and how many are gone, behind those from j on. -/
def kept (l : List Lz) (g : Int) (j : Nat) : List Lz := l.take j ++ (l.drop j).filter fun x => !elder g x
def gones (l : List Lz) (g : Int) (j : Nat) : Nat := (l.drop j).countP (elder g)
theorem drop_at {l : List Lz} {j : Nat} (h : j < l.length) : l.drop j = l.getD j z :: l.drop (j + 1) := by
  rw [List.drop_eq_getElem_cons h]
  simp [List.getD, h]
theorem kept_get {l : List Lz} {g : Int} {j : Nat} (h : j < l.length) : (kept l g (j + 1)).getD j z = l.getD j z ∧ j < (kept l g (j + 1)).length := by
  have hl : (l.take (j + 1)).length = j + 1 := by simp; omega
  unfold kept
  refine ⟨?_, by simp; omega⟩
  simp only [List.getD]
  rw [List.getElem?_append_left (by omega)]
  simp
theorem kept_yes {l : List Lz} {g : Int} {j : Nat} (h : j < l.length) (e : elder g (l.getD j z) = true) : kept l g j = (kept l g (j + 1)).eraseIdx j ∧ gones l g j = gones l g (j + 1) + 1 := by
  have hl : (l.take j).length = j := by simp; omega
  unfold kept gones
  rw [drop_at h, take_snoc h, List.append_assoc, List.eraseIdx_append_of_length_le (by omega), hl, Nat.sub_self]
  generalize l.getD j z = x at *
  simp [e]
theorem kept_no {l : List Lz} {g : Int} {j : Nat} (h : j < l.length) (e : elder g (l.getD j z) = false) : kept l g j = kept l g (j + 1) ∧ gones l g j = gones l g (j + 1) := by
  unfold kept gones
  rw [drop_at h, take_snoc h]
  generalize l.getD j z = x at *
  simp [e]
theorem kept_len (l : List Lz) (g : Int) (j : Nat) : (kept l g j).length ≤ l.length := by
  unfold kept
  rw [List.length_append]
  have := List.length_filter_le (fun x => !elder g x) (l.drop j)
  simp only [List.length_take, List.length_drop] at *
  omega
theorem gones_len (l : List Lz) (g : Int) (j : Nat) : gones l g j ≤ l.length := by
  unfold gones
  have := List.countP_le_length (p := elder g) (l := l.drop j)
  simp only [List.length_drop] at this
  omega

set_option maxRecDepth 100000 in
set_option maxHeartbeats 4000000 in
theorem rdrop_any {B v : Nat} {l : List Lz} {w : World} (h : Wl B w v l) (hB : B ≤ w.heap.size) (hl : l.length ≤ 1000) (gen : Int) :
    Calls Tryz.prog 33 #[.pointer (some ⟨v, 0, none⟩), .int .i64 gen] w fun e w' => e = .returned (.int .i64 (drop l gen).2) ∧ Step B w v (drop l gen).1 w' := by
  have HBB := Lib.hid hB
  have S0 := Lib.hid (show Step B w v (kept l gen l.length) w by
    have : kept l gen l.length = l := by simp [kept]
    rw [this]
    exact Step.same h hB (Below.refl _ _))
  have HD := Lib.hid (show drop l gen = (kept l gen 0, ((gones l gen 0 : Nat) : Int)) by simp [drop, kept, gones])
  generalize drop l gen = R at *
  obtain ⟨p0, q0, c0, -⟩ := h.cell
  clear h
  have hw1 : IntKind.i64.wrap ((l.length : Int) - 1) = (l.length : Int) - 1 := IntWalk.i64_in _ (by omega)
  go_enter Tryz.func33, Tryz.ntmps33
  go_wp2
  go_loopw [5, 6] (fun n i wr => ∃ (j : Nat), j ≤ l.length ∧ i = .int .i64 ((j : Int) - 1) ∧ n = .int .i64 (gones l gen j : Int) ∧ Hid (Step B w v (kept l gen j) wr)) (fun _ i _ => (intOf i + 1).toNat)
  case atStart => exact ⟨l.length, by omega, by go_num, by simp [gones], S0⟩
  case round =>
    obtain ⟨j, hj, rfl, rfl, hst⟩ := hrel
    clear S0 c0
    obtain ⟨p, c, c1, hr⟩ := hst.out.wl.cell
    have HR := Lib.hid hr
    clear hr
    by_cases hlt : 0 < j
    · obtain ⟨k, rfl⟩ : ∃ k, j = k + 1 := ⟨j - 1, by omega⟩
      have hk : k < l.length := by omega
      obtain ⟨e1, e2⟩ := kept_get (g := gen) hk
      obtain ⟨b, o, rfl, x0, x1, x2, x3, x4⟩ := lies_at HR.out e2
      rw [e1] at x0 x1 x2 x3 x4
      have hi : ((k + 1 : Nat) : Int) - 1 = (k : Int) := by omega
      rw [hi]
      have hlk := kept_len l gen (k + 1)
      have hgk := gones_len l gen (k + 1)
      have HG := Lib.hid (fun u (hu : Below wr.heap.size wr u) => rgone_any (hst.out.wl.below hu) (Nat.le_trans HBB.out (Nat.le_trans hst.out.below.size hu.size)) (by omega) k)
      have e2' : (k : Int) < ((kept l gen (k + 1)).length : Int) := by omega
      by_cases he : elder gen (l.getD k z) = true
      · obtain ⟨f1, f2⟩ := kept_yes hk he
        have hlt2 : (l.getD k z).gen < gen := by simpa [elder] using he
        have HF1 := Lib.hid f1
        have HF2 := Lib.hid f2
        generalize l.getD k z = x at *
        generalize kept l gen (k + 1) = L at *
        generalize gones l gen (k + 1) = G at *
        clear f1 f2 he e1 HR hi
        go_wp2_with (go_at_call 74; (with_reducible refine (HG.out _ (Below.refl _ _)).mono ?_); rintro e w2 ⟨rfl, hs⟩; have S2 := Lib.hid (Step.trans hst.out hs); clear hs)
        go_roundw
        case rel => exact ⟨k, by omega, by go_num, by rw [HF2.out]; go_num, by rw [HF1.out]; exact S2⟩
        case measure => simp only [intOf]; omega
      · have he : elder gen (l.getD k z) = false := by simpa using he
        obtain ⟨f1, f2⟩ := kept_no hk he
        have hlt2 : ¬ (l.getD k z).gen < gen := by simpa [elder] using he
        have HF1 := Lib.hid f1
        have HF2 := Lib.hid f2
        generalize l.getD k z = x at *
        generalize kept l gen (k + 1) = L at *
        generalize gones l gen (k + 1) = G at *
        clear f1 f2 he e1 HR hi HG
        go_wp2
        go_roundw
        case rel => exact ⟨k, by omega, by go_num, by rw [HF2.out], by rw [HF1.out]; exact hst⟩
        case measure => simp only [intOf]; omega
    · obtain rfl : j = 0 := by omega
      clear HR c1
      go_wp2
      go_ret
      exact ⟨by rw [HD.out]; rfl, by rw [HD.out]; exact hst.out⟩
end Go.Proofs.YtlbpeeelgpjciaaGreat.Lease

namespace Go.Proofs.YtlbpeeelgpjciaaGreat.Lease
open Go.RowKit
open _root_.Go.Proofs.YtlbpeeelgpjciaaGreat.Codec (lt_of_heap frozen_of heap_set below_new own_below)

/-- What a step of the program leaves alone: the document's blocks. -/
structure Off (w w' : World) : Prop where
  size : w.heap.size ≤ w'.heap.size
  block : ∀ (g : Nat) (cs : Array Value) (t : TypeId) (z : Nat × Nat), w.heap[g]? = some (Obj.cells cs t z) → t ∈ [55, 93] → w'.heap[g]? = some (Obj.cells cs t z)
theorem Off.wl {w w' : World} {B v : Nat} {l : List Lz} (ho : Off w w') (h : Wl B w v l) : Wl B w' v l := by
  obtain ⟨h0, y, h1, h2, h3⟩ := h
  refine ⟨h0, y, ho.block v _ _ _ h1 (by simp), h2, ?_⟩
  rcases h3 with h3 | ⟨g, cap, cur, rfl, k1, k2, k3⟩
  · exact .inl h3
  · exact .inr ⟨g, cap, cur, rfl, k1, ho.block g _ _ _ k2 (by simp), k3⟩

abbrev Pw := Nat → World → Nat → List Lz → Prop
/-- The program's wallet moves. -/
structure Moved (PW : Pw) (B : Nat) (w : World) (q : Nat) (l : List Lz) (w' : World) : Prop where
  pw : PW B w' q l
  off : Off w w'
  below : Below B w w'
structure Way11 (PW : Pw) : Prop where
  below : ∀ {B w q l w'}, PW B w q l → Below w.heap.size w w' → PW B w' q l
  kept : ∀ {B w q l w'}, PW B w q l → Kept [55] w w' → Below B w w' → PW B w' q l
  new : ∀ w, Calls Tryz.prog 65 #[] w fun e w' => ∃ q, e = .returned (.pointer (some ⟨q, 0, none⟩)) ∧ PW w.heap.size w' q [] ∧ Below w.heap.size w w'
  put : ∀ {B w q l}, PW B w q l → B ≤ w.heap.size → Good l → l.length ≤ 100 → ∀ x, Nums x → Calls Tryz.prog 47 #[.pointer (some ⟨q, 0, none⟩), val x] w fun e w' => e = .returned (.int .i64 (put l x).2) ∧ Moved PW B w q (put l x).1 w'
  spend : ∀ {B w q l}, PW B w q l → B ≤ w.heap.size → Good l → l.length ≤ 100 → ∀ key cost now, Num key → Num cost → Num now → Calls Tryz.prog 100 #[.pointer (some ⟨q, 0, none⟩), .int .i64 key, .int .i64 cost, .int .i64 now] w fun e w' => e = .returned (.tuple #[.int .i64 (spend l key cost now).2.1, .bool (spend l key cost now).2.2]) ∧ Moved PW B w q (spend l key cost now).1 w'
  left : ∀ {B w q l}, PW B w q l → Good l → l.length ≤ 100 → ∀ key now, Num key → Num now → Calls Tryz.prog 138 #[.pointer (some ⟨q, 0, none⟩), .int .i64 key, .int .i64 now] w fun e w' => e = .returned (.int .i64 (left l key now)) ∧ Below w.heap.size w w'
  close : ∀ {B w q l}, PW B w q l → B ≤ w.heap.size → Good l → l.length ≤ 100 → ∀ key gen, Num key → Num gen → Calls Tryz.prog 59 #[.pointer (some ⟨q, 0, none⟩), .int .i64 key, .int .i64 gen] w fun e w' => e = .returned (.int .i64 (close l key gen).2) ∧ Moved PW B w q (close l key gen).1 w'
  drop : ∀ {B w q l}, PW B w q l → B ≤ w.heap.size → Good l → l.length ≤ 100 → ∀ gen, Num gen → Calls Tryz.prog 41 #[.pointer (some ⟨q, 0, none⟩), .int .i64 gen] w fun e w' => e = .returned (.int .i64 (drop l gen).2) ∧ Moved PW B w q (drop l gen).1 w'
  all : ∀ {B w q l}, PW B w q l → Good l → l.length ≤ 100 → Calls Tryz.prog 39 #[.pointer (some ⟨q, 0, none⟩)] w fun e w' => ∃ p c, e = .returned (.slice p l.length c) ∧ Lies w' p l ∧ Below w.heap.size w w'
  nput : ∀ x w, Calls Tryz.prog 47 #[.pointer none, val x] w fun e w' => e = .returned (.int .i64 1) ∧ Below w.heap.size w w'
  nspend : ∀ key cost now w, Calls Tryz.prog 100 #[.pointer none, .int .i64 key, .int .i64 cost, .int .i64 now] w fun e w' => e = .returned (.tuple #[.int .i64 0, .bool false]) ∧ Below w.heap.size w w'
  nleft : ∀ key now w, Calls Tryz.prog 138 #[.pointer none, .int .i64 key, .int .i64 now] w fun e w' => e = .returned (.int .i64 0) ∧ Below w.heap.size w w'
  nclose : ∀ key gen w, Calls Tryz.prog 59 #[.pointer none, .int .i64 key, .int .i64 gen] w fun e w' => e = .returned (.int .i64 (-1)) ∧ Below w.heap.size w w'
  ndrop : ∀ gen w, Calls Tryz.prog 41 #[.pointer none, .int .i64 gen] w fun e w' => e = .returned (.int .i64 0) ∧ Below w.heap.size w w'
  nall : ∀ w, Calls Tryz.prog 39 #[.pointer none] w fun e w' => ∃ p c, e = .returned (.slice p 0 c) ∧ Below w.heap.size w w'

def x1 : Lz := ⟨3, 7, 5, 0, 20⟩
def x2 : Lz := ⟨3, 7, 5, 4, 20⟩
theorem al1 : put [] x1 = ([x1], 0) := rfl
theorem al2 : spend [x1] 3 4 19 = ([x2], 7, true) := rfl
theorem al3 : spend [x2] 3 2 19 = ([x2], 0, false) := rfl
theorem al4 : spend [x2] 3 1 20 = ([x2], 0, false) := rfl
theorem al5 : left [x2] 3 0 = 1 := rfl
theorem al6 : close [x2] 3 7 = ([], 4) := rfl
theorem al7 : close [] 3 7 = ([], -1) := rfl
theorem num_small {x : Int} (h : -100 ≤ x ∧ x ≤ 100) : Num x := by unfold Num; omega
theorem nums_x1 : Nums x1 := ⟨num_small (by decide), num_small (by decide), num_small (by decide), num_small (by decide), num_small (by decide)⟩
theorem good_x1 : Good [x1] := good_put good_nil nums_x1
theorem good_x2 : Good [x2] := good_spend good_x1 3 4 19

end Go.Proofs.YtlbpeeelgpjciaaGreat.Lease

namespace Go.Proofs.YtlbpeeelgpjciaaGreat.Lease
open Go.RowKit Go.Maps Go.WideShapes

def dat (x : Lz) : DataW Unit := .agg [.lit (.int .i64 x.key), .lit (.int .i64 x.gen), .lit (.int .i64 x.amount), .lit (.int .i64 x.spent), .lit (.int .i64 x.til)]
theorem dat_inj {x y : Lz} (h : dat x = dat y) : x = y := by
  cases x; cases y
  simp [dat] at h
  obtain ⟨rfl, rfl, rfl, rfl, rfl⟩ := h
  rfl
/-- How a map's element reads. -/
def rdz : Value → Option (DataW Unit × List MemPlace)
  | .agg cs => match cs.toList with
    | [.int .i64 a, .int .i64 b, .int .i64 c, .int .i64 d, .int .i64 e] => some (dat ⟨a, b, c, d, e⟩, [])
    | _ => none
  | _ => none
theorem rdz_val (x : Lz) : rdz (val x) = some (dat x, []) := rfl
theorem rdz_inv {v : Value} {y : DataW Unit × List MemPlace} (h : rdz v = some y) : ∃ x, v = val x ∧ y = (dat x, []) := by
  unfold rdz at h
  split at h
  · rename_i cs
    split at h
    · rename_i a b c d e hc
      refine ⟨⟨a, b, c, d, e⟩, ?_, (Option.some.inj h).symm⟩
      have : cs = #[.int .i64 a, .int .i64 b, .int .i64 c, .int .i64 d, .int .i64 e] := by
        apply Array.toList_inj.1
        rw [hc]
      rw [this]
      rfl
    · cases h
  · cases h
theorem rdz_dat {v : Value} {x : Lz} {ps : List MemPlace} (h : rdz v = some (dat x, ps)) : v = val x := by
  obtain ⟨y, rfl, e⟩ := rdz_inv h
  rw [dat_inj (congrArg Prod.fst e)]

def kl (k : Int) : Lit := .int .i64 k
theorem kl_key (k : Int) : WideAt.IsKeyLit (kl k) := by simp [kl, WideAt.IsKeyLit]
theorem kl_same (a b : Int) : (kl a).sameKey (kl b) = (a == b) := by
  simp [kl, Lit.sameKey]
  rfl
def ent (x : Lz) : Lit × DataW Unit := (kl x.key, dat x)
/-- The map holds just these leases. -/
def Is (D : DataW Unit) (l : List Lz) : Prop := ∃ es, D = .map es ∧ es.Perm (l.map ent)
def Rise (l : List Lz) : Prop := l.Pairwise fun a b => a.key < b.key
/-- A key's lease, or the zero one. -/
def found (l : List Lz) (k : Int) : Lz := if 0 ≤ place l k then the l k else z

theorem is_nil : Is (.map []) [] := ⟨[], rfl, .nil⟩
theorem apart {l : List Lz} (h : Rise l) : (l.map ent).Pairwise fun p q => p.1 ≠ q.1 :=
  List.pairwise_map.2 (h.imp fun {a b} hlt e => by simp [ent, kl] at e; omega)
theorem Is.apart {l : List Lz} {es : List (Lit × DataW Unit)} (hp : es.Perm (l.map ent)) (h : Rise l) : es.Pairwise fun p q => p.1 ≠ q.1 :=
  (hp.pairwise_iff (fun {_ _} hne => Ne.symm hne)).2 (Lease.apart h)
theorem has_one {l : List Lz} (k : Int) : (l.map ent).any (fun p => p.1.sameKey (kl k)) = decide (0 ≤ place l k) := by
  rw [List.any_map]
  by_cases h : 0 ≤ place l k
  · obtain ⟨_, hk, hm⟩ := place_some h
    rw [decide_eq_true h]
    exact List.any_eq_true.2 ⟨_, hm, by simp [ent, kl_same, hk]⟩
  · rw [decide_eq_false h]
    refine List.any_eq_false.2 fun x hx => ?_
    have := place_none (l := l) (k := k) (by omega) x hx
    simp [ent, kl_same, this]
theorem Is.has {D : DataW Unit} {l : List Lz} (h : Is D l) (k : Int) : Maps.has D (kl k) = decide (0 ≤ place l k) := by
  obtain ⟨es, rfl, hp⟩ := h
  rw [Maps.has_eq, hp.any_eq, has_one]
theorem Is.at {D : DataW Unit} {l : List Lz} (h : Is D l) (hr : Rise l) (k : Int) : D.atKey (kl k) (dat z) = dat (found l k) := by
  have hh := h.has k
  obtain ⟨es, rfl, hp⟩ := h
  unfold found
  by_cases hpl : 0 ≤ place l k
  · rw [if_pos hpl]
    obtain ⟨_, hk, hm⟩ := place_some hpl
    refine WideAt.atKey_mem _ (kl_key k) (Is.apart hp hr) (hp.mem_iff.2 (List.mem_map.2 ⟨_, hm, ?_⟩))
    simp [ent, hk]
  · rw [if_neg hpl]
    exact Maps.atKey_of_not_has (by rw [hh, decide_eq_false hpl]) _
theorem Is.size {D : DataW Unit} {l : List Lz} (h : Is D l) : Maps.size D = l.length := by
  obtain ⟨es, rfl, hp⟩ := h
  rw [Maps.size_eq, hp.length_eq, List.length_map]

theorem ins_perm (x : Lz) : ∀ l : List Lz, (ins x l).Perm (x :: l)
  | [] => .refl _
  | y :: l => by
    unfold ins
    split
    · exact .refl _
    · exact ((ins_perm x l).cons y).trans (.swap x y l)
theorem not_key {l : List Lz} (k : Int) (p : Lz → Bool) (hp : ∀ x, p x = !(x.key == k)) : (l.map ent).filter (fun e => !e.1.sameKey (kl k)) = (l.filter p).map ent := by
  rw [List.filter_map]
  congr 1
  refine List.filter_congr fun x _ => ?_
  simp [ent, kl_same, hp]
theorem erase_filter {k : Int} : ∀ {l : List Lz} (j : Nat), Rise l → (∀ hj : j < l.length, l[j].key = k) → j < l.length → l.filter (fun x => !(x.key == k)) = l.eraseIdx j
  | [], _, _, _, hj => by simp at hj
  | x :: l, 0, h, hk, _ => by
    have hx : x.key = k := by simpa using hk
    have h' := (List.pairwise_cons.1 h).1
    rw [List.filter_cons_of_neg (by simp [hx])]
    exact List.filter_eq_self.2 fun y hy => by have := h' y hy; have : y.key ≠ k := by omega
                                               simp [this]
  | x :: l, j + 1, h, hk, hj => by
    have h' := List.pairwise_cons.1 h
    have hj' : j < l.length := by simpa using hj
    have hk' : l[j].key = k := hk hj
    have hx : x.key < k := by rw [← hk']; exact h'.1 _ (List.getElem_mem hj')
    have hne : (x.key == k) = false := by simp; omega
    rw [List.filter_cons_of_pos (by simp [hne]), List.eraseIdx_cons_succ]
    congr 1
    exact erase_filter j h'.2 (fun _ => hk') hj'
theorem gone_is {l : List Lz} (h : Rise l) (k : Int) : l.filter (fun x => !(x.key == k)) = if place l k < 0 then l else l.eraseIdx (place l k).toNat := by
  split
  · rename_i hn
    exact List.filter_eq_self.2 fun y hy => by have := place_none hn y hy; simp [this]
  · rename_i hn
    obtain ⟨hj, hk, hm⟩ := place_some (l := l) (k := k) (by omega)
    have hx : the l k = l[(place l k).toNat] := by unfold the; simp [List.getD, hj]
    exact erase_filter _ h (fun _ => by rw [← hx]; exact hk) hj
theorem Is.del {D : DataW Unit} {l : List Lz} (h : Is D l) (hr : Rise l) (k : Int) : Is (D.del (kl k)) (if place l k < 0 then l else l.eraseIdx (place l k).toNat) := by
  obtain ⟨es, rfl, hp⟩ := h
  refine ⟨_, DataW.del_eq _ _, ?_⟩
  rw [← gone_is hr, ← not_key k _ (fun _ => rfl)]
  exact hp.filter _
theorem Is.put {D : DataW Unit} {l : List Lz} (h : Is D l) {x : Lz} (hn : place l x.key < 0) : Is (D.put (kl x.key) (dat x)) (ins x l) := by
  obtain ⟨es, rfl, hp⟩ := h
  refine ⟨_, DataW.put_eq _ _ _, ?_⟩
  unfold ChangeMaps.putKey
  refine (insert_perm _ _).trans (List.Perm.trans ?_ ((ins_perm x l).map ent).symm)
  have : es.filter (ChangeMaps.notKey (kl x.key)) = es := List.filter_eq_self.2 fun p hp' => by
    obtain ⟨y, hy, rfl⟩ := List.mem_map.1 (hp.mem_iff.1 hp')
    have := place_none hn y hy
    simp [ChangeMaps.notKey, ent, kl_same, this]
  rw [this]
  exact hp.cons _
theorem set_perm {α : Type} (y : α) : ∀ (l : List α) (j : Nat), j < l.length → (l.set j y).Perm (y :: l.eraseIdx j)
  | [], _, h => by simp at h
  | x :: l, 0, _ => by simp
  | x :: l, j + 1, h => by
    simp only [List.set_cons_succ, List.eraseIdx_cons_succ]
    exact ((set_perm y l j (by simpa using h)).cons x).trans (.swap y x _)
theorem Is.more {D : DataW Unit} {l : List Lz} (h : Is D l) (hr : Rise l) {y : Lz} (hp : 0 ≤ place l y.key) : Is (D.put (kl y.key) (dat y)) (l.set (place l y.key).toNat y) := by
  obtain ⟨hj, _, _⟩ := place_some hp
  obtain ⟨es, rfl, hpm⟩ := h
  refine ⟨_, DataW.put_eq _ _ _, ?_⟩
  unfold ChangeMaps.putKey
  refine (insert_perm _ _).trans (List.Perm.trans ?_ ((set_perm y l _ hj).map ent).symm)
  have hg := gone_is hr y.key
  rw [if_neg (by omega)] at hg
  rw [List.map_cons, ← hg, ← not_key y.key _ (fun _ => rfl)]
  exact (hpm.filter _).cons _
theorem Is.drop {D : DataW Unit} {l : List Lz} (h : Is D l) (pd : Lit → DataW Unit → Bool) (p : Lz → Bool) (hp : ∀ x, pd (kl x.key) (dat x) = p x) : Is (Lib.deleteFuncD pd D) (l.filter fun x => !p x) := by
  obtain ⟨es, rfl, hpm⟩ := h
  refine ⟨_, rfl, (hpm.filter _).trans ?_⟩
  rw [List.filter_map]
  refine .of_eq ?_
  congr 1
  exact List.filter_congr fun x _ => by simp [ent, hp]
end Go.Proofs.YtlbpeeelgpjciaaGreat.Lease

namespace Go.Proofs.YtlbpeeelgpjciaaGreat.Lease
open Go.RowKit Go.Maps
open _root_.Go.Proofs.YtlbpeeelgpjciaaGreat.Codec (lt_of_heap frozen_of heap_set below_new)

theorem int_key : Keyed Tryz.prog 3 := int_keyed Tryz.underlying3
theorem key_of {k : Int} (h : Num k) : keyOf Tryz.prog 3 (.int .i64 k) = some (kl k) := keyOf_int_mk Tryz.underlying3 (WalkArith.wf_i64 h)
theorem zero_map (w : World) : (zeroValue 40).run Tryz.prog w = .ok (val z) w := by kernel_rfl

/-- A wallet's map, or none. -/
def Mw (B : Nat) (w : World) (m : Option Nat) (l : List Lz) : Prop :=
  (m = none ∧ l = []) ∨ ∃ b D, m = some b ∧ B ≤ b ∧ w.ownsMap Tryz.prog 3 rdz b l.length D ∧ Is D l
theorem owns_size {w : World} {b n : Nat} {D : DataW Unit} (h : w.ownsMap Tryz.prog 3 rdz b n D) : w.ownsMap Tryz.prog 3 rdz b (Maps.size D) D := by
  obtain ⟨es, clock, hb, F, hs, rfl⟩ := h
  exact ⟨es, clock, hb, F, by simp [Maps.size, length_sorted], rfl⟩
theorem Mw.of {B : Nat} {w : World} {b n : Nat} {D : DataW Unit} {l : List Lz} (hB : B ≤ b) (h : w.ownsMap Tryz.prog 3 rdz b n D) (hi : Is D l) : Mw B w (some b) l :=
  .inr ⟨b, D, rfl, hB, by rw [← hi.size]; exact owns_size h, hi⟩
theorem Mw.kept {B : Nat} {w w' : World} {m : Option Nat} {l : List Lz} {row : Option Nat} (h : Mw B w m l) (hg : w.grownBy w' row) (hr : ∀ b, m = some b → some b ≠ row) : Mw B w' m l := by
  rcases h with h | ⟨b, D, rfl, hB, ho, hi⟩
  · exact .inl h
  · exact .inr ⟨b, D, rfl, hB, ho.kept hg (hr b rfl), hi⟩
theorem Mw.below {B : Nat} {w w' : World} {m : Option Nat} {l : List Lz} (h : Mw B w m l) (hb : Below w.heap.size w w') : Mw B w' m l := by
  rcases h with h | ⟨b, D, rfl, hB, ho, hi⟩
  · exact .inl h
  · have hlt := ho.lt
    obtain ⟨es, clock, hh, rest⟩ := ho
    exact .inr ⟨b, D, rfl, hB, ⟨es, clock, (hb.block b hlt).trans hh, rest⟩, hi⟩
theorem Mw.map_at {B : Nat} {w : World} {b : Nat} {l : List Lz} (h : Mw B w (some b) l) : ∃ es clock, w.heap[b]? = some (.map es clock) := by
  rcases h with ⟨h, -⟩ | ⟨b, D, e, hB, ho, hi⟩
  · cases h
  · cases e
    obtain ⟨es, clock, hb, -⟩ := ho
    exact ⟨es, clock, hb⟩
theorem Mw.look {B : Nat} {w : World} {m : Option Nat} {l : List Lz} (h : Mw B w m l) (hr : Rise l) {k : Int} (hk : Num k) :
    (Instr.lookup 139 (.map m) (.int .i64 k) true).run Tryz.prog w = .ok (.tuple #[val (found l k), .bool (decide (0 ≤ place l k))]) w := by
  rcases h with ⟨rfl, rfl⟩ | ⟨b, D, rfl, hB, ho, hi⟩
  · rw [Maps.look_nil true int_key Tryz.underlying139 (zero_map w) (key_of hk)]
    rfl
  · obtain ⟨v, ps, hrun, hv⟩ := ho.look_ok int_key Tryz.underlying139 (zero_map w) (rdz_val z) (key_of hk)
    rw [hi.at hr k] at hv
    obtain rfl := rdz_dat hv
    rw [hrun, hi.has k]
theorem Mw.get {B : Nat} {w : World} {m : Option Nat} {l : List Lz} (h : Mw B w m l) (hr : Rise l) {k : Int} (hk : Num k) :
    (Instr.lookup 139 (.map m) (.int .i64 k) false).run Tryz.prog w = .ok (val (found l k)) w := by
  rcases h with ⟨rfl, rfl⟩ | ⟨b, D, rfl, hB, ho, hi⟩
  · rw [Maps.look_nil false int_key Tryz.underlying139 (zero_map w) (key_of hk)]
    rfl
  · obtain ⟨v, ps, hrun, hv⟩ := ho.lookup int_key Tryz.underlying139 (zero_map w) (rdz_val z) (key_of hk)
    rw [hi.at hr k] at hv
    obtain rfl := rdz_dat hv
    exact hrun
theorem Mw.len {B : Nat} {w : World} {m : Option Nat} {l : List Lz} (h : Mw B w m l) (ty : TypeId) : (Builtin.len_ #[139] ty #[.map m]).run Tryz.prog w = .ok (.int .i64 l.length) w := by
  rcases h with ⟨rfl, rfl⟩ | ⟨b, D, rfl, hB, ho, hi⟩
  · exact Maps.len_nil Tryz.underlying139 ty
  · rw [ho.len Tryz.underlying139 ty, hi.size]
/-- Without a key's. -/
def without (l : List Lz) (k : Int) : List Lz := if place l k < 0 then l else l.eraseIdx (place l k).toNat
theorem grown_refl (w : World) (r : Option Nat) : w.grownBy w r := ⟨rfl, rfl, rfl, Nat.le_refl _, fun _ _ _ => rfl⟩
theorem Mw.cut {B : Nat} {w : World} {m : Option Nat} {l : List Lz} (h : Mw B w m l) (hr : Rise l) {k : Int} (hk : Num k) (ty : TypeId) :
    ∃ w', (Builtin.delete_ #[139, 3] ty #[.map m, .int .i64 k]).run Tryz.prog w = .ok (.tuple #[]) w' ∧ Mw B w' m (without l k) ∧ w.grownBy w' m := by
  rcases h with ⟨rfl, rfl⟩ | ⟨b, D, rfl, hB, ho, hi⟩
  · exact ⟨w, Maps.drop_nil int_key Tryz.underlying139 (key_of hk) ty, .inl ⟨rfl, rfl⟩, grown_refl _ _⟩
  · obtain ⟨w', hrun, ho', ht⟩ := ho.drop int_key Tryz.underlying139 (key_of hk) ty
    exact ⟨w', hrun, Mw.of hB ho' (hi.del hr k), ht.grown⟩
/-- At the operation. -/
theorem step_cut {w : World} {ops : Array Oper} {rest : List Oper} {o : Oper} {a : Act} {Q : Exit → Act → World → Prop} (hg : o.guard = none) (m x : Operand)
    (hop : o.op = Op.call { callee := Callee.builtin Builtin.delete, args := #[m, x], argTypes := #[139, 3] })
    {B : Nat} {mp : Option Nat} {l : List Lz} (hm : a.eval m = .map mp) (h : Mw B w mp l) (hr : Rise l) {k : Int} (hk : Num k) (hx : a.eval x = .int .i64 k)
    (hK : ∀ w', Mw B w' mp (without l k) → w.grownBy w' mp → wpList Tryz.prog ops Q rest (a.put o.dst (.tuple #[])) w') : wpList Tryz.prog ops Q (o :: rest) a w := by
  refine wpList_plain hg fun K' hK' => ?_
  obtain ⟨w', hrun, r1, r2⟩ := h.cut hr hk o.type
  unfold Oper.wp
  simp [execOp, hop, resolve, invoke, builtin, hm, hx, hrun, Result.andThen]
  exact hK' _ _ (hK w' r1 r2)
theorem Mw.put {B b : Nat} {w : World} {l : List Lz} (h : Mw B w (some b) l) (hr : Rise l) (hn : l.length < maxLen) (y : Lz) (hk : Num y.key) :
    ∃ w', (Instr.mapUpdate 139 (.map (some b)) (.int .i64 y.key) (val y)).run Tryz.prog w = .ok () w' ∧ Mw B w' (some b) (if place l y.key < 0 then ins y l else l.set (place l y.key).toNat y) ∧ w.grownBy w' (some b) := by
  rcases h with ⟨h, -⟩ | ⟨b', D, e, hB, ho, hi⟩
  · cases h
  · cases e
    obtain ⟨w', hrun, r1, r2⟩ := ho.update int_key Tryz.underlying139 hn (key_of hk) (rdz_val y)
    refine ⟨w', hrun, Mw.of hB r1 ?_, r2⟩
    split
    · rename_i h0
      exact hi.put h0
    · rename_i h0
      exact hi.more hr (by omega)

/-- The wallet. -/
def Pm : Pw := fun B w q l => B ≤ q ∧ ∃ m, w.heap[q]? = some (.cells #[.map m] 141 (0, 0)) ∧ Mw B w m l
section
variable {B q : Nat} {w w' : World} {l : List Lz}
theorem Pm.lt (h : Pm B w q l) : q < w.heap.size := by
  obtain ⟨_, m, h, _⟩ := h
  exact lt_of_heap h
theorem Pm.below (h : Pm B w q l) (hb : Below w.heap.size w w') : Pm B w' q l := by
  obtain ⟨h0, m, h1, h2⟩ := h
  exact ⟨h0, m, (hb.block q (lt_of_heap h1)).trans h1, h2.below hb⟩
theorem Pm.kept (h : Pm B w q l) (hk : Kept [55] w w') : Pm B w' q l := by
  obtain ⟨h0, m, h1, h2⟩ := h
  refine ⟨h0, m, hk.block q _ _ _ h1 (by decide), ?_⟩
  rcases h2 with h2 | ⟨b, D, rfl, hB, ⟨es, clock, hb, rest⟩, hi⟩
  · exact .inl h2
  · exact .inr ⟨b, D, rfl, hB, ⟨es, clock, hk.obj b _ hb (fun _ _ _ e => by cases e), rest⟩, hi⟩
/-- The wallet's cell, and its map. -/
theorem Pm.cell (h : Pm B w q l) : ∃ m, w.cell? ⟨q, 0, none⟩ = some (.map m) ∧ w.frozen? ⟨q, 0, none⟩ = false ∧ Mw B w m l := by
  obtain ⟨_, m, h1, h2⟩ := h
  exact ⟨m, by rw [cell_of_row w q 0 _ _ (0, 0) h1]; rfl, frozen_of h1, h2⟩
/-- A step that leaves the wallet as it was. -/
theorem Pm.same (h : Pm B w q l) (hB : B ≤ w.heap.size) (hb : Below w.heap.size w w') : Moved Pm B w q l w' :=
  ⟨h.below hb, ⟨hb.size, fun g _ _ _ e _ => (hb.block g (lt_of_heap e)).trans e⟩, hb.mono hB⟩
/-- A step that turns the map, behind what only lays blocks. -/
theorem Pm.turned {u v : World} {m : Option Nat} {l' : List Lz} (h : Pm B w q l) (hB : B ≤ w.heap.size) (hc : w.cell? ⟨q, 0, none⟩ = some (.map m)) (hu : Below w.heap.size w u) (hm : Mw B w m l) (hv : u.grownBy v m) (hl : Mw B v m l') (hw : Below v.heap.size v w') : Moved Pm B w q l' w' := by
  obtain ⟨h0, m', h1, h2⟩ := h
  obtain rfl : m' = m := by
    rw [cell_of_row w q 0 _ _ (0, 0) h1] at hc
    simpa using hc
  have hq : q < w.heap.size := lt_of_heap h1
  have keep : ∀ (g : Nat) (cs : Array Value) (t : TypeId) (zz : Nat × Nat), w.heap[g]? = some (Obj.cells cs t zz) → w'.heap[g]? = some (Obj.cells cs t zz) := by
    intro g cs t zz e
    have hg := lt_of_heap e
    have e1 := (hu.block g hg).trans e
    have hg1 : g < u.heap.size := Nat.lt_of_lt_of_le hg hu.size
    have e2 := (hv.block g hg1 (fun ee => by
      rcases hm with ⟨rfl, -⟩ | ⟨b, D, rfl, hB', ⟨es, clock, hb, -⟩, -⟩
      · cases ee
      · cases ee
        rw [hb] at e
        cases e)).trans e1
    exact (hw.block g (Nat.lt_of_lt_of_le hg1 hv.size)).trans e2
  refine ⟨⟨h0, _, keep _ _ _ _ h1, hl.below hw⟩, ⟨Nat.le_trans hu.size (Nat.le_trans hv.size hw.size), fun g cs t zz e _ => keep g cs t zz e⟩, ?_⟩
  refine (((hu.mono hB).grown hv (Nat.le_trans hB hu.size) ?_).trans (hw.mono (Nat.le_trans hB (Nat.le_trans hu.size hv.size))))
  intro k e
  rcases hm with ⟨rfl, -⟩ | ⟨b, D, rfl, hB', -⟩
  · cases e
  · cases e
    exact hB'
end
theorem pm_below : ∀ {B w q l w'}, Pm B w q l → Below w.heap.size w w' → Pm B w' q l := fun h hb => h.below hb
theorem pm_kept : ∀ {B w q l w'}, Pm B w q l → Kept [55] w w' → Below B w w' → Pm B w' q l := fun h hk _ => h.kept hk

set_option maxRecDepth 100000 in
theorem new_any (w : World) : Calls Tryz.prog 65 #[] w fun e w' => ∃ q, e = .returned (.pointer (some ⟨q, 0, none⟩)) ∧ Pm w.heap.size w' q [] ∧ Below w.heap.size w w' := by
  go_enter Tryz.func65, Tryz.ntmps65
  go_wp2
  go_ret
  exact ⟨_, rfl, ⟨Nat.le_refl _, none, (MapKept.heap_alloc w _).1, .inl ⟨rfl, rfl⟩⟩, (Below.refl _ w).alloc (Nat.le_refl _) _⟩
end Go.Proofs.YtlbpeeelgpjciaaGreat.Lease
