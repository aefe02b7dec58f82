/-
  The document's Spend, of any good wallet of up to 1000 leases.
-/
import Derived.Test.YtlipepbemofihaaLeaseLeft
import Derived.Laws.OwnMore
namespace Go.Proofs.Ytlipepbemofihaa.Lease
open Go.RowKit
open _root_.Go.Proofs.Ytlipepbemofihaa.Codec (lt_of_heap frozen_of heap_set below_new own_below)

theorem cells5_set : ∀ (l : List Lz) (i : Nat) (c : Int) (_ : i < l.length), (cells5 l).set (i * 5 + 3) (.int .i64 ((l.getD i z).spent + c)) = cells5 (l.set i (more (l.getD i z) c))
  | [], i, c, h => by simp at h
  | x :: l, 0, c, _ => by simp [cells5, more]
  | x :: l, i + 1, c, h => by
    have e : ∀ (y : Lz) (t : List Lz), cells5 (y :: t) = .int .i64 y.key :: .int .i64 y.gen :: .int .i64 y.amount :: .int .i64 y.spent :: .int .i64 y.til :: cells5 t := fun y t => by simp [cells5]
    have d : (x :: l).getD (i + 1) z = l.getD i z := by simp [List.getD]
    rw [d, List.set_cons_succ, e, e, ← cells5_set l i c (by simpa using h), show (i + 1) * 5 + 3 = (i * 5 + 3) + 1 + 1 + 1 + 1 + 1 by omega]
    simp
theorem own_news {w : World} {E : TypeId} {B : Nat} {b n c : Nat} {l : List Lz} (h : Own E B w (.slice (some ⟨b, 0, none⟩) n c) l) : ∀ j u, (cells5 l)[j]? = some u → w.cell? ((⟨b, 0, none⟩ : Addr).add j) = some u :=
  World.ownsRow.cells (g := b) h rfl
/-- All leases are copied. -/
theorem copy_leases {w : World} {ops : Array Oper} {rest : List Oper} {o : Oper} {a : Act} {Q : Exit → Act → World → Prop} (hgd : o.guard = none) (s y : Operand)
    (ho : o.op = .call { callee := .builtin .append, args := #[s, y], argTypes := #[27, 27] })
    (W : World) (B : Nat) (v : Value) (hs : a.eval s = v) (hown : Own 52 W.heap.size w v []) (b n c : Nat) (l : List Lz) (hn : l.length = n) (hy : a.eval y = .slice (some ⟨b, 0, none⟩) n c) (hl : Own 52 B w (.slice (some ⟨b, 0, none⟩) n c) l) (hlen : n ≤ 100000) (hb : Below W.heap.size W w)
    (h : ∀ p c' w', Hid (Own 52 W.heap.size w' (.slice p n c') l) → Below W.heap.size W w' → wpList Try.prog ops Q rest (a.put o.dst (.slice p n c')) w') : wpList Try.prog ops Q (o :: rest) a w := by
  subst hn
  obtain ⟨i0, hi, hz0, hz1, hz2⟩ := info_parts infoZ
  refine wpList_append_own _ hgd s y 27 ho W.heap.size 52 i0 (.agg #[.int .i64 0, .int .i64 0, .int .i64 0, .int .i64 0, .int .i64 0]) 5 40 Try.underlying27 hi hz0 hz1 hz2 rfl (by decide) v 0 [] hs hown ⟨b, 0, Option.none⟩ l.length c (cells5 l) hy (cells5_len l) (own_news hl) (cells5_one l) (by unfold maxLen; omega) (by omega) hb.size ?_
  intro v' w' ho2 hg2 _
  have hb2 := hb.grown hg2 hb.size (fun k hk => (World.ownsRow.lt hown k hk).1)
  have R : Own 52 W.heap.size w' v' l := by
    unfold Own
    rw [Nat.zero_add, List.nil_append] at ho2
    exact ho2
  obtain ⟨p, c', rfl⟩ : ∃ p c', v' = .slice p l.length c' := by
    obtain ⟨p, c', e, -⟩ := R.lies
    exact ⟨p, c', e⟩
  exact h p c' w' R hb2
/-- One of them is turned. -/
theorem own_turn {w : World} {E : TypeId} {B : Nat} {b n c : Nat} {l : List Lz} (h : Own E B w (.slice (some ⟨b, 0, none⟩) n c) l) (hn : l.length = n) {i : Nat} (hi : i < l.length) (k : Int) :
    Own E B (w.setCell ⟨b, i * 5 + 3, none⟩ (.int .i64 ((l.getD i z).spent + k))) (.slice (some ⟨b, 0, none⟩) n c) (l.set i (more (l.getD i z) k)) ∧ w.grownBy (w.setCell ⟨b, i * 5 + 3, none⟩ (.int .i64 ((l.getD i z).spent + k))) (some b) ∧ ∀ o, w.frozen? ⟨b, o, none⟩ = false := by
  subst hn
  obtain ⟨h1, h2⟩ := World.ownsRow.stored h (i * 5 + 3) (.int .i64 ((l.getD i z).spent + k))
  refine ⟨?_, h2, fun o => World.ownsRow.frozenAt h o⟩
  unfold Own
  rw [← cells5_set l i k hi, List.length_set]
  exact h1
theorem own_some {w : World} {E : TypeId} {B n c : Nat} {p : Option Addr} {l : List Lz} (h : Own E B w (.slice p n c) l) (hn : l.length = n) (hl : 0 < l.length) : ∃ g, p = some ⟨g, 0, none⟩ ∧ B ≤ g ∧ ∀ i, i < l.length → At w g (i * 5) (l.getD i z) := by
  obtain ⟨p', c', e, hlies⟩ := h.lies
  simp only [Value.slice.injEq] at e
  obtain ⟨rfl, -, -⟩ := e
  rcases h.2 with ⟨e, -⟩ | ⟨g, cap, cur, e, h1, -⟩
  · simp only [Value.slice.injEq] at e
    omega
  · simp only [Value.slice.injEq] at e
    obtain ⟨rfl, -, -⟩ := e
    refine ⟨g, rfl, h1, fun i hi => ?_⟩
    obtain ⟨b, o, e, ha⟩ := lies_at hlies hi
    simp only [Option.some.injEq, Addr.mk.injEq, and_true] at e
    obtain ⟨rfl, rfl⟩ := e
    rwa [Nat.zero_add] at ha
/-- All that Spend's stores ask and leave. -/
theorem spend_facts {B v n c : Nat} {w w3 : World} {p : Option Addr} {l : List Lz} (h : Wl B w v l) (hB : B ≤ w.heap.size) (hb : Below w.heap.size w w3) (R : Own 52 w.heap.size w3 (.slice p n c) l) (hn : l.length = n) {P : Nat} (hP : P < l.length) (k : Int) :
    ∃ g, p = some ⟨g, 0, none⟩ ∧ w3.cell? ⟨g, P * 5 + 3, none⟩ = some (.int .i64 (l.getD P z).spent) ∧ w3.frozen? ⟨g, P * 5 + 3, none⟩ = false ∧
      (w3.setCell ⟨g, P * 5 + 3, none⟩ (.int .i64 ((l.getD P z).spent + k))).frozen? ⟨v, 0, none⟩ = false ∧ (∃ u, (w3.setCell ⟨g, P * 5 + 3, none⟩ (.int .i64 ((l.getD P z).spent + k))).cell? ⟨v, 0, none⟩ = some u) ∧
      ((w3.setCell ⟨g, P * 5 + 3, none⟩ (.int .i64 ((l.getD P z).spent + k))).setCell ⟨v, 0, none⟩ (.slice (some ⟨g, 0, none⟩) n c)).cell? ⟨g, P * 5 + 1, none⟩ = some (.int .i64 (l.getD P z).gen) ∧
      Hid (Step B w v (l.set P (more (l.getD P z) k)) ((w3.setCell ⟨g, P * 5 + 3, none⟩ (.int .i64 ((l.getD P z).spent + k))).setCell ⟨v, 0, none⟩ (.slice (some ⟨g, 0, none⟩) n c))) := by
  obtain ⟨g, rfl, hg, ha⟩ := own_some R hn (by omega)
  obtain ⟨t1, t2, t3⟩ := own_turn R hn hP k
  have hb4 : Below w.heap.size w (w3.setCell ⟨g, P * 5 + 3, none⟩ (.int .i64 ((l.getD P z).spent + k))) := hb.setCell (p := ⟨g, P * 5 + 3, none⟩) hg _
  obtain ⟨f0, hu, S⟩ := h.store hB hb4 t1
  have t5 := Own.set (o := 0) (u := .slice (some ⟨g, 0, none⟩) n c) t1 h.lt
  obtain ⟨g', e, -, ha5⟩ := own_some t5 (by rw [List.length_set]; exact hn) (by rw [List.length_set]; omega)
  simp only [Option.some.injEq, Addr.mk.injEq, and_true] at e
  subst e
  have h5 := (ha5 P (by rw [List.length_set]; exact hP)).2.1
  have hget : (l.set P (more (l.getD P z) k)).getD P z = more (l.getD P z) k := by simp [List.getD, hP]
  rw [hget] at h5
  exact ⟨g, rfl, (ha P hP).2.2.2.1, t3 _, f0, hu, h5, S⟩

set_option maxRecDepth 100000 in
set_option maxHeartbeats 4000000 in
theorem rspend_no {B v : Nat} {l : List Lz} {w : World} (h : Wl B w v l) (hB : B ≤ w.heap.size) (hg : Good l) (hl : l.length ≤ 1000) (key cost now : Int) (hc : cost < 1 ∨ left l key now < cost) :
    Calls Try.prog 21 #[.pointer (some ⟨v, 0, none⟩), .int .i64 key, .int .i64 cost, .int .i64 now] w fun e w' => e = .returned (.tuple #[.int .i64 0, .bool false]) ∧ Step B w v l w' := by
  have HS := Lib.hid (fun u (hu : Below w.heap.size w u) => Step.same h hB hu)
  have HA := Lib.hid (fun u (hu : Below w.heap.size w u) => rleft_any (h.below hu) hg hl key now)
  generalize left l key now = P at *
  clear h
  by_cases h1 : cost < 1
  · clear hc HA
    go_enter Try.func21, Try.ntmps21
    go_wp2
    refine bodyPost_ret (v := .tuple #[.int .i64 0, .bool false]) (by simp [results, Try.results21, go_sem]) rfl ⟨rfl, HS.out _ (Below.refl _ _)⟩
  · have h2 : P < cost := by omega
    clear hc
    go_enter Try.func21, Try.ntmps21
    go_wp2_with (go_at_call 13; (with_reducible refine (HA.out _ (Below.refl _ _)).mono ?_); rintro e w1 ⟨rfl, hb⟩; have HB := Lib.hid hb; clear hb HA)
    refine bodyPost_ret (v := .tuple #[.int .i64 0, .bool false]) (by simp [results, Try.results21, go_sem]) rfl ⟨rfl, HS.out _ HB.out⟩

set_option maxRecDepth 100000 in
set_option maxHeartbeats 4000000 in
theorem rspend_ok {B v : Nat} {l : List Lz} {w : World} (h : Wl B w v l) (hB : B ≤ w.heap.size) (hg : Good l) (hl : l.length ≤ 1000) (key cost now : Int) (hc : ¬ (cost < 1 ∨ left l key now < cost)) :
    Calls Try.prog 21 #[.pointer (some ⟨v, 0, none⟩), .int .i64 key, .int .i64 cost, .int .i64 now] w fun e w' => e = .returned (.tuple #[.int .i64 (the l key).gen, .bool true]) ∧ Step B w v (l.set (place l key).toNat (more (the l key) cost)) w' := by
  obtain ⟨hp, -, hle, hc1⟩ := left_some hc
  obtain ⟨hj, -, hm⟩ := place_some hp
  obtain ⟨g0, g1, g2⟩ := hg.each _ hm
  have hw1 : IntKind.i64.wrap ((the l key).spent + cost) = (the l key).spent + cost := IntWalk.i64_in _ (by unfold Nums Num at g2; omega)
  have HA := Lib.hid (fun u (hu : Below w.heap.size w u) => rleft_any (h.below hu) hg hl key now)
  have HT := Lib.hid (fun u (hu : Below w.heap.size w u) => rat_any (h.below hu) hl key)
  obtain ⟨b, c, hcell, hown⟩ : ∃ b c, w.cell? ⟨v, 0, none⟩ = some (.slice (some ⟨b, 0, none⟩) l.length c) ∧ Own 52 B w (.slice (some ⟨b, 0, none⟩) l.length c) l := by
    obtain ⟨_, y, h1, h2⟩ := h
    obtain ⟨p, c, rfl, -⟩ := h2.lies
    obtain ⟨g, rfl, -, -⟩ := own_some h2 rfl (by omega)
    exact ⟨g, c, by rw [cell_of_row w v 0 _ _ (0, 0) h1]; rfl, h2⟩
  have HF := Lib.hid (fun (w3 : World) (p : Option Addr) (c3 : Nat) (hb : Below w.heap.size w w3) (R : Own 52 w.heap.size w3 (.slice p l.length c3) l) => spend_facts h hB hb R rfl hj cost)
  obtain ⟨P, hP⟩ : ∃ P : Nat, place l key = (P : Int) := ⟨(place l key).toNat, by omega⟩
  have hx : the l key = l.getD P z := by unfold the; rw [hP, Int.toNat_natCast]
  rw [hx] at hw1 hle ⊢
  simp only [hP, Int.toNat_natCast] at HT HF hj ⊢
  have h1 : ¬ cost < 1 := by omega
  have h2 : ¬ left l key now < cost := by omega
  have hlt : (P : Int) < (l.length : Int) := by omega
  have HCL := Lib.hid (fun u (hu : Below w.heap.size w u) => cell_on hcell hu)
  have HO := Lib.hid hown
  clear h hc hm g0 g1 g2 hg hp hP hx hown hle hc1
  generalize left l key now = LF at *
  generalize l.getD P z = x at *
  obtain ⟨xk, xg, xa, xs, xt⟩ := x
  simp only at hw1 HF ⊢
  go_enter Try.func21, Try.ntmps21
  go_wp2_with (first
    | (go_at_call 13; (with_reducible refine (HA.out _ (Below.refl _ _)).mono ?_); rintro e w1 ⟨rfl, hb⟩; have HB1 := Lib.hid hb; clear hb HA)
    | (go_at_call 27; (with_reducible refine (HT.out _ HB1.out).mono ?_); rintro e w2 ⟨rfl, hb⟩; have HB2 := Lib.hid (HB1.out.trans (hb.mono HB1.out.size)); have HB3 := Lib.hid (HB2.out.alloc HB2.out.size (.cells #[] 52)); have c1 := HCL.out _ HB3.out; clear hb HT HB1)
    | (at_builtin; refine copy_leases rfl (.tmp 25) (.tmp 29) rfl w B (.slice (some ⟨w2.heap.size, 0, none⟩) 0 0) rfl (World.ownsRow_made w2 #[] 0 HB2.out.size (Nat.zero_le _) rfl) b l.length c l rfl rfl (own_below HO.out HB3.out) (by omega) HB3.out ?_; intro p4 c4 w4 R4 B4; clear c1 hcell; obtain ⟨g4, rfl, d0, d1, d2, ⟨d3, d4⟩, d5, D⟩ := HF.out _ _ _ B4 R4.out; clear HF R4 B4 HB2 HB3))
  refine bodyPost_ret (v := .tuple #[.int .i64 xg, .bool true]) (by simp [results, Try.results21, go_sem]) rfl ⟨rfl, D.out⟩

/-- Spend, of any numbers. -/
theorem rspend_any {B v : Nat} {l : List Lz} {w : World} (h : Wl B w v l) (hB : B ≤ w.heap.size) (hg : Good l) (hl : l.length ≤ 1000) (key cost now : Int) :
    Calls Try.prog 21 #[.pointer (some ⟨v, 0, none⟩), .int .i64 key, .int .i64 cost, .int .i64 now] w fun e w' => e = .returned (.tuple #[.int .i64 (spend l key cost now).2.1, .bool (spend l key cost now).2.2]) ∧ Step B w v (spend l key cost now).1 w' := by
  unfold spend
  split
  · rename_i hc
    exact rspend_no h hB hg hl key cost now hc
  · rename_i hc
    exact rspend_ok h hB hg hl key cost now hc
end Go.Proofs.Ytlipepbemofihaa.Lease
