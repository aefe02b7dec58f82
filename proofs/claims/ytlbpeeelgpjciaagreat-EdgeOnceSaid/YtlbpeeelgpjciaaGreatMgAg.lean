/-
  The document's Left and Close, of any good wallet of up to 1000 leases.
  The document's Spend, of any good wallet of up to 1000 leases.
  The document's parts of an edge: no, waits, all, serve.
  The document's Put, of any wallet of up to 1000 leases.
  The document's serve and Grant of an edge.
-/
import Derived.Deep.QuietTactic
import Derived.BigQuiet
import Derived.Laws.OwnMore
import Derived.Deep.RegionHeld3
import Derived.Test.YtlbpeeelgpjciaaGreatMgAf
import Derived.Test.YtlbpeeelgpjciaaGreatMgAe
namespace Go.Proofs.YtlbpeeelgpjciaaGreat.Lease2
open _root_.Go.Proofs.YtlbpeeelgpjciaaGreat.Lease
variable {ov : Nat}
open Go.RowKit
open _root_.Go.Proofs.YtlbpeeelgpjciaaGreat.Codec (lt_of_heap frozen_of heap_set below_new)

theorem below_drewN (w : World) (n : Nat) : Below w.heap.size w (w.drewN n) := ⟨rfl, rfl, rfl, Nat.le_refl _, fun _ _ => rfl⟩

set_option maxRecDepth 100000 in
set_option maxHeartbeats 4000000 in
theorem rleft_any {B v : Nat} {l : List Lz} {w : World} (h : Wl B w v ov l) (hg : Lease.Good l) (hl : l.length ≤ 1000) (key now : Int) :
    Calls Tryz.prog 127 #[.pointer (some ⟨v, ov, none⟩), .int .i64 key, .int .i64 now] w fun e w' => e = .returned (.int .i64 (left l key now)) ∧ Below w.heap.size w w' := by
  have HA := rat_any h hl key
  have HV := Lib.hid h
  have HL := Lib.hid (show left l key now = if place l key < 0 ∨ (the l key).til ≤ now then 0 else (the l key).amount - (the l key).spent from rfl)
  generalize left l key now = R at *
  by_cases hp : place l key < 0
  · have HE := Lib.hid (show R = 0 by rw [HL.out, if_pos (.inl hp)])
    generalize place l key = P at *
    clear HL h
    go_enter Tryz.func127, Tryz.ntmps127
    go_wp2_with (go_at_call 124; (with_reducible refine HA.mono ?_); rintro e w1 ⟨rfl, hb⟩; have HB := Lib.hid hb; obtain ⟨p, c, c1, -⟩ := (HV.out.below hb).cell; clear hb HA)
    go_ret
    exact ⟨by rw [HE.out]; rfl, HB.out⟩
  · obtain ⟨hj, hk, hm⟩ := place_some (l := l) (k := key) (by omega)
    obtain ⟨g0, g1, g2⟩ := hg.each _ hm
    have HC : Hid (∀ u, Below w.heap.size w u → ∃ b o c, u.cell? ⟨v, ov, none⟩ = some (.slice (some ⟨b, o, none⟩) l.length c) ∧ At u b (o + (place l key).toNat * 5) (the l key)) := fun u hu => by
      obtain ⟨p, c, c1, hr⟩ := (HV.out.below hu).cell
      obtain ⟨b, o, rfl, ha⟩ := lies_at hr hj
      exact ⟨b, o, c, c1, ha⟩
    obtain ⟨P, hP⟩ : ∃ P : Nat, place l key = (P : Int) := ⟨(place l key).toNat, by omega⟩
    rw [hP] at HA HL hj
    simp only [hP] at HC
    simp only [Int.toNat_natCast] at HC hj
    have hlt' : (P : Int) < (l.length : Int) := by omega
    generalize the l key = x at *
    obtain ⟨xk, xg, xa, xs, xt⟩ := x
    unfold Nums Num at g2
    simp only at g0 g1 g2 HL
    by_cases ht : xt ≤ now
    · have HE := Lib.hid (show R = 0 by rw [HL.out, if_pos (.inr ht)])
      clear HL h hm hg hk hP hp
      go_enter Tryz.func127, Tryz.ntmps127
      go_wp2_with (go_at_call 124; (with_reducible refine HA.mono ?_); rintro e w1 ⟨rfl, hb⟩; have HB := Lib.hid hb; obtain ⟨b, o, c, c1, k0, k1, k2, k3, k4⟩ := HC.out _ hb; simp only at k0 k1 k2 k3 k4; clear hb HA HC)
      go_ret
      exact ⟨by rw [HE.out]; rfl, HB.out⟩
    · have HE := Lib.hid (show R = xa - xs by rw [HL.out, if_neg (by omega)])
      have hw1 : IntKind.i64.wrap (xa - xs) = xa - xs := IntWalk.i64_in _ (by omega)
      clear HL h hm hg hk hP hp
      go_enter Tryz.func127, Tryz.ntmps127
      go_wp2_with (go_at_call 124; (with_reducible refine HA.mono ?_); rintro e w1 ⟨rfl, hb⟩; have HB := Lib.hid hb; obtain ⟨b, o, c, c1, k0, k1, k2, k3, k4⟩ := HC.out _ hb; simp only at k0 k1 k2 k3 k4; clear hb HA HC)
      go_quiet (fail)
      go_wp2
      go_ret
      exact ⟨by rw [HE.out]; rfl, HB.out.trans ((below_drewN _ _).mono HB.out.size)⟩

set_option maxRecDepth 100000 in
set_option maxHeartbeats 4000000 in
theorem rclose_any {B v : Nat} {l : List Lz} {w : World} (h : Wl B w v ov l) (hB : B ≤ w.heap.size) (hl : l.length ≤ 1000) (key gen : Int) :
    Calls Tryz.prog 72 #[.pointer (some ⟨v, ov, none⟩), .int .i64 key, .int .i64 gen] w fun e w' => e = .returned (.int .i64 (close l key gen).2) ∧ Step B w v ov (close l key gen).1 w' := by
  have HA := rat_any h hl key
  have HV := Lib.hid h
  have HBB := Lib.hid hB
  have HL := Lib.hid (show close l key gen = if place l key < 0 then (l, -1) else (l.eraseIdx (place l key).toNat, if (the l key).gen = gen then (the l key).spent else -1) from rfl)
  generalize close l key gen = R at *
  by_cases hp : place l key < 0
  · have HE := Lib.hid (show R = (l, -1) by rw [HL.out, if_pos hp])
    have HS := Lib.hid (fun u (hu : Below w.heap.size w u) => Step.same h hB hu)
    generalize place l key = P at *
    clear HL h
    go_enter Tryz.func72, Tryz.ntmps72
    go_wp2_with (go_at_call 124; (with_reducible refine HA.mono ?_); rintro e w1 ⟨rfl, hb⟩; have HB := Lib.hid (HS.out _ hb); clear hb HA)
    go_ret
    exact ⟨by rw [HE.out]; rfl, by rw [HE.out]; exact HB.out⟩
  · obtain ⟨hj, hk, hm⟩ := place_some (l := l) (k := key) (by omega)
    have HC : Hid (∀ u, Below w.heap.size w u → ∃ b o c, u.cell? ⟨v, ov, none⟩ = some (.slice (some ⟨b, o, none⟩) l.length c) ∧ At u b (o + (place l key).toNat * 5) (the l key)) := fun u hu => by
      obtain ⟨p, c, c1, hr⟩ := (HV.out.below hu).cell
      obtain ⟨b, o, rfl, ha⟩ := lies_at hr hj
      exact ⟨b, o, c, c1, ha⟩
    obtain ⟨P, hP⟩ : ∃ P : Nat, place l key = (P : Int) := ⟨(place l key).toNat, by omega⟩
    have hp0 : ¬ (P : Int) < 0 := by omega
    rw [hP, if_neg hp0, Int.toNat_natCast] at HL
    rw [hP] at HA hj
    simp only [hP] at HC
    simp only [Int.toNat_natCast] at HC hj
    have hlt' : (P : Int) < (l.length : Int) := by omega
    have HG := Lib.hid (fun u (hu : Below w.heap.size w u) => rgone_any (h.below hu) (Nat.le_trans hB hu.size) hl P)
    have HS := Lib.hid (fun u (hu : Below w.heap.size w u) => Step.same h hB hu)
    generalize the l key = x at *
    obtain ⟨xk, xg, xa, xs, xt⟩ := x
    simp only at HL
    have hcase : (xg = gen ∧ R = (l.eraseIdx P, xs)) ∨ (xg ≠ gen ∧ R = (l.eraseIdx P, -1)) := by
      by_cases e : xg = gen
      · exact .inl ⟨e, by rw [HL.out, if_pos e]⟩
      · exact .inr ⟨e, by rw [HL.out, if_neg e]⟩
    have HVL := Lib.hid h.lt
    clear HL h hm hk hP hp
    rcases hcase with ⟨hgen, hR⟩ | ⟨hgen, hR⟩
    all_goals
      have HE := Lib.hid hR
      clear hR
      go_enter Tryz.func72, Tryz.ntmps72
      go_wp2_with (first
        | (go_at_call 124; (with_reducible refine HA.mono ?_); rintro e w1 ⟨rfl, hb⟩; have HB := Lib.hid hb; obtain ⟨b, o, c, c1, k0, k1, k2, k3, k4⟩ := HC.out _ hb; simp only at k0 k1 k2 k3 k4; clear hb HA HC)
        | (go_at_call 74; (with_reducible refine (HG.out _ (HB.out.alloc HB.out.size _)).mono ?_); rintro e w2 ⟨rfl, hs⟩; have K2 := (hs.only w1.heap.size (by have := HB.out.size; have := HVL.out; omega) (by simp)).trans (heap_alloc_new _ _); obtain ⟨b0, b1, b2, b3, b4⟩ := box5 K2; have S2 := Lib.hid (Step.trans (HS.out _ (HB.out.alloc HB.out.size _)) hs); clear hs K2))
      go_ret
      exact ⟨by rw [HE.out]; rfl, by rw [HE.out]; exact S2.out⟩
end Go.Proofs.YtlbpeeelgpjciaaGreat.Lease2

namespace Go.Proofs.YtlbpeeelgpjciaaGreat.Lease2
open _root_.Go.Proofs.YtlbpeeelgpjciaaGreat.Lease
variable {ov : Nat}
open Go.RowKit
open _root_.Go.Proofs.YtlbpeeelgpjciaaGreat.Codec (lt_of_heap frozen_of heap_set below_new own_below)

theorem cells5_set : ∀ (l : List Lz) (i : Nat) (c : Int) (_ : i < l.length), (cells5 l).set (i * 5 + 3) (.int .i64 ((l.getD i z).spent + c)) = cells5 (l.set i (more (l.getD i z) c))
  | [], i, c, h => by simp at h
  | x :: l, 0, c, _ => by simp [cells5, more]
  | x :: l, i + 1, c, h => by
    have e : ∀ (y : Lz) (t : List Lz), cells5 (y :: t) = .int .i64 y.key :: .int .i64 y.gen :: .int .i64 y.amount :: .int .i64 y.spent :: .int .i64 y.til :: cells5 t := fun y t => by simp [cells5]
    have d : (x :: l).getD (i + 1) z = l.getD i z := by simp [List.getD]
    rw [d, List.set_cons_succ, e, e, ← cells5_set l i c (by simpa using h), show (i + 1) * 5 + 3 = (i * 5 + 3) + 1 + 1 + 1 + 1 + 1 by omega]
    simp
theorem own_news {w : World} {E : TypeId} {B : Nat} {b n c : Nat} {l : List Lz} (h : Own E B w (.slice (some ⟨b, 0, none⟩) n c) l) : ∀ j u, (cells5 l)[j]? = some u → w.cell? ((⟨b, 0, none⟩ : Addr).add j) = some u :=
  World.ownsRow.cells (g := b) h rfl
/-- All leases are copied. -/
theorem copy_leases {w : World} {ops : Array Oper} {rest : List Oper} {o : Oper} {a : Act} {Q : Exit → Act → World → Prop} (hgd : o.guard = none) (s y : Operand)
    (ho : o.op = .call { callee := .builtin .append, args := #[s, y], argTypes := #[53, 53] })
    (W : World) (B : Nat) (v : Value) (hs : a.eval s = v) (hown : Own 93 W.heap.size w v []) (b n c : Nat) (l : List Lz) (hn : l.length = n) (hy : a.eval y = .slice (some ⟨b, 0, none⟩) n c) (hl : Own 93 B w (.slice (some ⟨b, 0, none⟩) n c) l) (hlen : n ≤ 100000) (hb : Below W.heap.size W w)
    (h : ∀ p c' w', Hid (Own 93 W.heap.size w' (.slice p n c') l) → Below W.heap.size W w' → wpList Tryz.prog ops Q rest (a.put o.dst (.slice p n c')) w') : wpList Tryz.prog ops Q (o :: rest) a w := by
  subst hn
  obtain ⟨i0, hi, hz0, hz1, hz2⟩ := info_parts infoZ
  refine wpList_append_own _ hgd s y 53 ho W.heap.size 93 i0 (.agg #[.int .i64 0, .int .i64 0, .int .i64 0, .int .i64 0, .int .i64 0]) 5 40 Tryz.underlying53 hi hz0 hz1 hz2 rfl (by decide) v 0 [] hs hown ⟨b, 0, Option.none⟩ l.length c (cells5 l) hy (cells5_len l) (own_news hl) (cells5_one l) (by unfold maxLen; omega) (by omega) hb.size ?_
  intro v' w' ho2 hg2 _
  have hb2 := hb.grown hg2 hb.size (fun k hk => (World.ownsRow.lt hown k hk).1)
  have R : Own 93 W.heap.size w' v' l := by
    unfold Own
    rw [Nat.zero_add, List.nil_append] at ho2
    exact ho2
  obtain ⟨p, c', rfl⟩ : ∃ p c', v' = .slice p l.length c' := by
    obtain ⟨p, c', e, -⟩ := R.lies
    exact ⟨p, c', e⟩
  exact h p c' w' R hb2
/-- One of them is turned. -/
theorem own_turn {w : World} {E : TypeId} {B : Nat} {b n c : Nat} {l : List Lz} (h : Own E B w (.slice (some ⟨b, 0, none⟩) n c) l) (hn : l.length = n) {i : Nat} (hi : i < l.length) (k : Int) :
    Own E B (w.setCell ⟨b, i * 5 + 3, none⟩ (.int .i64 ((l.getD i z).spent + k))) (.slice (some ⟨b, 0, none⟩) n c) (l.set i (more (l.getD i z) k)) ∧ w.grownBy (w.setCell ⟨b, i * 5 + 3, none⟩ (.int .i64 ((l.getD i z).spent + k))) (some b) ∧ ∀ o, w.frozen? ⟨b, o, none⟩ = false := by
  subst hn
  obtain ⟨h1, h2⟩ := World.ownsRow.stored h (i * 5 + 3) (.int .i64 ((l.getD i z).spent + k))
  refine ⟨?_, h2, fun o => World.ownsRow.frozenAt h o⟩
  unfold Own
  rw [← cells5_set l i k hi, List.length_set]
  exact h1
theorem own_some {w : World} {E : TypeId} {B n c : Nat} {p : Option Addr} {l : List Lz} (h : Own E B w (.slice p n c) l) (hn : l.length = n) (hl : 0 < l.length) : ∃ g, p = some ⟨g, 0, none⟩ ∧ B ≤ g ∧ ∀ i, i < l.length → At w g (i * 5) (l.getD i z) := by
  obtain ⟨p', c', e, hlies⟩ := h.lies
  simp only [Value.slice.injEq] at e
  obtain ⟨rfl, -, -⟩ := e
  rcases h.2 with ⟨e, -⟩ | ⟨g, cap, cur, e, h1, -⟩
  · simp only [Value.slice.injEq] at e
    omega
  · simp only [Value.slice.injEq] at e
    obtain ⟨rfl, -, -⟩ := e
    refine ⟨g, rfl, h1, fun i hi => ?_⟩
    obtain ⟨b, o, e, ha⟩ := lies_at hlies hi
    simp only [Option.some.injEq, Addr.mk.injEq, and_true] at e
    obtain ⟨rfl, rfl⟩ := e
    rwa [Nat.zero_add] at ha
/-- All that Spend's stores ask and leave. -/
theorem spend_facts {B v n c : Nat} {w w3 : World} {p : Option Addr} {l : List Lz} (h : Wl B w v ov l) (hB : B ≤ w.heap.size) (hb : Below w.heap.size w w3) (R : Own 93 w.heap.size w3 (.slice p n c) l) (hn : l.length = n) {P : Nat} (hP : P < l.length) (k : Int) :
    ∃ g, p = some ⟨g, 0, none⟩ ∧ w3.cell? ⟨g, P * 5 + 3, none⟩ = some (.int .i64 (l.getD P z).spent) ∧ w3.frozen? ⟨g, P * 5 + 3, none⟩ = false ∧
      (w3.setCell ⟨g, P * 5 + 3, none⟩ (.int .i64 ((l.getD P z).spent + k))).frozen? ⟨v, ov, none⟩ = false ∧ (∃ u, (w3.setCell ⟨g, P * 5 + 3, none⟩ (.int .i64 ((l.getD P z).spent + k))).cell? ⟨v, ov, none⟩ = some u) ∧
      ((w3.setCell ⟨g, P * 5 + 3, none⟩ (.int .i64 ((l.getD P z).spent + k))).setCell ⟨v, ov, none⟩ (.slice (some ⟨g, 0, none⟩) n c)).cell? ⟨g, P * 5 + 1, none⟩ = some (.int .i64 (l.getD P z).gen) ∧
      Hid (Step B w v ov (l.set P (more (l.getD P z) k)) ((w3.setCell ⟨g, P * 5 + 3, none⟩ (.int .i64 ((l.getD P z).spent + k))).setCell ⟨v, ov, none⟩ (.slice (some ⟨g, 0, none⟩) n c))) := by
  obtain ⟨g, rfl, hg, ha⟩ := own_some R hn (by omega)
  obtain ⟨t1, t2, t3⟩ := own_turn R hn hP k
  have hb4 : Below w.heap.size w (w3.setCell ⟨g, P * 5 + 3, none⟩ (.int .i64 ((l.getD P z).spent + k))) := hb.setCell (p := ⟨g, P * 5 + 3, none⟩) hg _
  obtain ⟨f0, hu, S⟩ := h.store hB hb4 t1
  have t5 := Own.set (o := ov) (u := .slice (some ⟨g, 0, none⟩) n c) t1 h.lt
  obtain ⟨g', e, -, ha5⟩ := own_some t5 (by rw [List.length_set]; exact hn) (by rw [List.length_set]; omega)
  simp only [Option.some.injEq, Addr.mk.injEq, and_true] at e
  subst e
  have h5 := (ha5 P (by rw [List.length_set]; exact hP)).2.1
  have hget : (l.set P (more (l.getD P z) k)).getD P z = more (l.getD P z) k := by simp [List.getD, hP]
  rw [hget] at h5
  exact ⟨g, rfl, (ha P hP).2.2.2.1, t3 _, f0, hu, h5, S⟩

set_option maxRecDepth 100000 in
set_option maxHeartbeats 4000000 in
theorem rspend_no {B v : Nat} {l : List Lz} {w : World} (h : Wl B w v ov l) (hB : B ≤ w.heap.size) (hg : Lease.Good l) (hl : l.length ≤ 1000) (key cost now : Int) (hc : cost < 1 ∨ left l key now < cost) :
    Calls Tryz.prog 83 #[.pointer (some ⟨v, ov, none⟩), .int .i64 key, .int .i64 cost, .int .i64 now] w fun e w' => e = .returned (.tuple #[.int .i64 0, .bool false]) ∧ Step B w v ov l w' := by
  have HS := Lib.hid (fun u (hu : Below w.heap.size w u) => Step.same h hB hu)
  have HA := Lib.hid (fun u (hu : Below w.heap.size w u) => rleft_any (h.below hu) hg hl key now)
  generalize left l key now = P at *
  clear h
  by_cases h1 : cost < 1
  · clear hc HA
    go_enter Tryz.func83, Tryz.ntmps83
    go_wp2
    refine bodyPost_ret (v := .tuple #[.int .i64 0, .bool false]) (by simp [results, Tryz.results83, go_sem]) rfl ⟨rfl, HS.out _ (Below.refl _ _)⟩
  · have h2 : P < cost := by omega
    clear hc
    go_enter Tryz.func83, Tryz.ntmps83
    go_wp2_with (go_at_call 127; (with_reducible refine (HA.out _ (Below.refl _ _)).mono ?_); rintro e w1 ⟨rfl, hb⟩; have HB := Lib.hid hb; clear hb HA)
    refine bodyPost_ret (v := .tuple #[.int .i64 0, .bool false]) (by simp [results, Tryz.results83, go_sem]) rfl ⟨rfl, HS.out _ HB.out⟩

set_option maxRecDepth 100000 in
set_option maxHeartbeats 4000000 in
theorem rspend_ok {B v : Nat} {l : List Lz} {w : World} (h : Wl B w v ov l) (hB : B ≤ w.heap.size) (hg : Lease.Good l) (hl : l.length ≤ 1000) (key cost now : Int) (hc : ¬ (cost < 1 ∨ left l key now < cost)) :
    Calls Tryz.prog 83 #[.pointer (some ⟨v, ov, none⟩), .int .i64 key, .int .i64 cost, .int .i64 now] w fun e w' => e = .returned (.tuple #[.int .i64 (the l key).gen, .bool true]) ∧ Step B w v ov (l.set (place l key).toNat (more (the l key) cost)) w' := by
  obtain ⟨hp, -, hle, hc1⟩ := left_some hc
  obtain ⟨hj, -, hm⟩ := place_some hp
  obtain ⟨g0, g1, g2⟩ := hg.each _ hm
  have hw1 : IntKind.i64.wrap ((the l key).spent + cost) = (the l key).spent + cost := IntWalk.i64_in _ (by unfold Nums Num at g2; omega)
  have HA := Lib.hid (fun u (hu : Below w.heap.size w u) => rleft_any (h.below hu) hg hl key now)
  have HT := Lib.hid (fun u (hu : Below w.heap.size w u) => rat_any (h.below hu) hl key)
  obtain ⟨b, c, hcell, hown⟩ : ∃ b c, w.cell? ⟨v, ov, none⟩ = some (.slice (some ⟨b, 0, none⟩) l.length c) ∧ Own 93 B w (.slice (some ⟨b, 0, none⟩) l.length c) l := by
    obtain ⟨_, cs, T, y, h1, hy, h2⟩ := h
    obtain ⟨p, c, rfl, -⟩ := h2.lies
    obtain ⟨g, rfl, -, -⟩ := own_some h2 rfl (by omega)
    exact ⟨g, c, by rw [cell_of_row w v ov _ _ (0, 0) h1, hy], h2⟩
  have HF := Lib.hid (fun (w3 : World) (p : Option Addr) (c3 : Nat) (hb : Below w.heap.size w w3) (R : Own 93 w.heap.size w3 (.slice p l.length c3) l) => spend_facts h hB hb R rfl hj cost)
  obtain ⟨P, hP⟩ : ∃ P : Nat, place l key = (P : Int) := ⟨(place l key).toNat, by omega⟩
  have hx : the l key = l.getD P z := by unfold the; rw [hP, Int.toNat_natCast]
  rw [hx] at hw1 hle ⊢
  simp only [hP, Int.toNat_natCast] at HT HF hj ⊢
  have h1 : ¬ cost < 1 := by omega
  have h2 : ¬ left l key now < cost := by omega
  have hlt : (P : Int) < (l.length : Int) := by omega
  have HCL := Lib.hid (fun u (hu : Below w.heap.size w u) => cell_on hcell hu)
  have HO := Lib.hid hown
  clear h hc hm g0 g1 g2 hg hp hP hx hown hle hc1
  generalize left l key now = LF at *
  generalize l.getD P z = x at *
  obtain ⟨xk, xg, xa, xs, xt⟩ := x
  simp only at hw1 HF ⊢
  go_enter Tryz.func83, Tryz.ntmps83
  go_wp2_with (first
    | (go_at_call 127; (with_reducible refine (HA.out _ (Below.refl _ _)).mono ?_); rintro e w1 ⟨rfl, hb⟩; have HB1 := Lib.hid hb; clear hb HA)
    | (go_at_call 124; (with_reducible refine (HT.out _ HB1.out).mono ?_); rintro e w2 ⟨rfl, hb⟩; have HB2 := Lib.hid (HB1.out.trans (hb.mono HB1.out.size)); have HB3 := Lib.hid (HB2.out.alloc HB2.out.size (.cells #[] 93)); have c1 := HCL.out _ HB3.out; clear hb HT HB1)
    | (at_builtin; refine copy_leases rfl (.tmp 25) (.tmp 29) rfl w B (.slice (some ⟨w2.heap.size, 0, none⟩) 0 0) rfl (World.ownsRow_made w2 #[] 0 HB2.out.size (Nat.zero_le _) rfl) b l.length c l rfl rfl (own_below HO.out HB3.out) (by omega) HB3.out ?_; intro p4 c4 w4 R4 B4; clear c1 hcell; obtain ⟨g4, rfl, d0, d1, d2, ⟨d3, d4⟩, d5, D⟩ := HF.out _ _ _ B4 R4.out; clear HF R4 B4 HB2 HB3))
  refine bodyPost_ret (v := .tuple #[.int .i64 xg, .bool true]) (by simp [results, Tryz.results83, go_sem]) rfl ⟨rfl, D.out⟩

/-- Spend, of any numbers. -/
theorem rspend_any {B v : Nat} {l : List Lz} {w : World} (h : Wl B w v ov l) (hB : B ≤ w.heap.size) (hg : Lease.Good l) (hl : l.length ≤ 1000) (key cost now : Int) :
    Calls Tryz.prog 83 #[.pointer (some ⟨v, ov, none⟩), .int .i64 key, .int .i64 cost, .int .i64 now] w fun e w' => e = .returned (.tuple #[.int .i64 (spend l key cost now).2.1, .bool (spend l key cost now).2.2]) ∧ Step B w v ov (spend l key cost now).1 w' := by
  unfold spend
  split
  · rename_i hc
    exact rspend_no h hB hg hl key cost now hc
  · rename_i hc
    exact rspend_ok h hB hg hl key cost now hc
end Go.Proofs.YtlbpeeelgpjciaaGreat.Lease2

namespace Go.Proofs.YtlbpeeelgpjciaaGreat.Edge
open Go.RowKit
open _root_.Go.Proofs.YtlbpeeelgpjciaaGreat.Codec (lt_of_heap frozen_of heap_set below_new)
open _root_.Go.Proofs.YtlbpeeelgpjciaaGreat.Kit (Enc Lies At Kept Laid Off cell_on lt_heap take_snoc below_drewN)
open _root_.Go.Proofs.YtlbpeeelgpjciaaGreat.Lease (Lz spend)
open _root_.Go.Proofs.YtlbpeeelgpjciaaGreat.Queue (It take)
open _root_.Go.Proofs.YtlbpeeelgpjciaaGreat.Demand (Nt)
open _root_.Go.Proofs.YtlbpeeelgpjciaaGreat.Ledger (spot spot_at spot_none)

theorem lay (w : World) (o : Obj) : Below w.heap.size w (w.alloc o) := (Below.refl _ w).alloc (Nat.le_refl _) o
set_option maxRecDepth 100000 in
theorem rno_any (id why : Int) (w : World) : Calls Tryz.prog 82 #[.int .i64 id, .int .i64 why] w fun e w' => ∃ v, e = .returned v ∧ Told w' v (no id why) ∧ Below w.heap.size w w' := by
  go_enter Tryz.func82, Tryz.ntmps82
  go_wp2
  go_ret
  exact ⟨_, rfl, ⟨_, 1, rfl, Kit.lies_one (E := ans) (x := ⟨id, 0, why⟩) (heap_alloc_new w _), fun h => by cases h⟩, lay _ _⟩
set_option maxRecDepth 100000 in
theorem rwaits_any {B v : Nat} {c : Cf} {e : Eg} {w : World} (h : Ed B w v c e) (hl : e.Q.length ≤ 1000) (id : Int) :
    Calls Tryz.prog 80 #[.pointer (some ⟨v, 0, none⟩), .int .i64 id] w fun e' w' => e' = .returned (.bool (decide (0 ≤ Queue.place e.Q id))) ∧ Below w.heap.size w w' := by
  obtain ⟨p, d, c1, hr, -, -⟩ := h.qu.cell
  generalize e.Q = l at *
  have HPL := Lib.hid (show Queue.place l id = spot (fun x => x.id == id) l from rfl)
  generalize Queue.place l id = R at HPL ⊢
  have HR := Lib.hid hr
  have HB := Lib.hid (Below.refl w.heap.size w)
  simp only [Nat.reduceAdd] at c1
  clear hr h
  go_enter Tryz.func80, Tryz.ntmps80
  go_wp2
  go_loop [5] (fun i => ∃ j : Nat, j ≤ l.length ∧ i = .int .i64 (j : Int) ∧ Hid (∀ i, i < j → (l.getD i Queue.z).id ≠ id)) (fun i => l.length - (intOf i).toNat)
  case atStart => exact ⟨0, by omega, rfl, fun i hi => by omega⟩
  case round =>
    obtain ⟨j, hj, rfl, hne⟩ := hrel
    by_cases hlt : j < l.length
    · obtain ⟨b, o, rfl, hat⟩ := Queue.lies_at HR.out hlt
      obtain ⟨k0, -⟩ := Queue.at5 hat
      have hlt' : (j : Int) < (l.length : Int) := by omega
      by_cases hk : (l.getD j Queue.z).id = id
      · have HE := Lib.hid (show R = (j : Int) by rw [HPL.out]; exact spot_at _ Queue.z l j hlt (fun i hi => by simpa using hne.out i hi) (by simpa using hk))
        rw [hk] at k0
        clear hne HPL HR hk hat
        go_wp2
        go_ret
        exact ⟨by rw [HE.out]; simp, HB.out⟩
      · have HN : Hid (∀ i, i < j + 1 → (l.getD i Queue.z).id ≠ id) := fun i hi => by
          by_cases e : i = j
          · rw [e]; exact hk
          · exact hne.out i (by omega)
        generalize (l.getD j Queue.z).id = q at k0 hk
        clear hne HPL HR hat
        go_wp2
        go_round
        case rel => exact ⟨j + 1, by omega, by go_num, HN⟩
        case measure => simp only [intOf]; omega
    · have hlt' : ¬ (j : Int) < (l.length : Int) := by omega
      have HE := Lib.hid (show R = -1 by rw [HPL.out]; exact spot_none _ Queue.z l (fun i hi => by simpa using hne.out i (by omega)))
      clear hne HPL HR
      go_wp2
      go_ret
      exact ⟨by rw [HE.out]; simp, HB.out⟩
theorem all_len (l : List It) (why : Int) : (all l why).length = l.length := by simp [all]
theorem all_at {l : List It} {j : Nat} (why : Int) (h : j < l.length) : all (l.take (j + 1)) why = all (l.take j) why ++ [⟨(l.getD j Queue.z).id, 0, why⟩] := by
  unfold all
  rw [take_snoc Queue.z h]
  simp
set_option maxRecDepth 100000 in
set_option maxHeartbeats 4000000 in
theorem rall_any {p : Option Addr} {d : Nat} {l : List It} {w : World} (h : Lies Queue.item w p l) (hl : l.length ≤ 1000) (why : Int) :
    Calls Tryz.prog 75 #[.slice p l.length d, .int .i64 why] w fun e' w' => ∃ v, e' = .returned v ∧ Told w' v (all l why) ∧ Below w.heap.size w w' := by
  have HL := Lib.hid h
  have HE := Lib.hid (show all l why = all (l.take l.length) why by rw [List.take_length])
  clear h
  go_enter Tryz.func75, Tryz.ntmps75
  go_wp2
  go_loopw [5, 6] (fun y i wr => ∃ (j : Nat) (q : Option Addr) (d : Nat), j ≤ l.length ∧ i = .int .i64 (j : Int) ∧ y = .slice q j d ∧ Hid (Kit.Own ans 79 w.heap.size wr y (all (l.take j) why)) ∧ Below w.heap.size w wr) (fun _ i _ => l.length - (intOf i).toNat)
  case atStart => exact ⟨0, none, 0, by omega, rfl, rfl, Lib.hid (Kit.Own.none _ _ _ _), Below.refl _ _⟩
  case round =>
    obtain ⟨j, q, d, hj, rfl, rfl, hown, hbw⟩ := hrel
    have HBW := Lib.hid hbw
    by_cases hlt : j < l.length
    · obtain ⟨b, o, rfl, ha⟩ := Queue.lies_at (HL.out.below hbw) hlt
      obtain ⟨k0, -⟩ := Queue.at5 ha
      have hlt' : (j : Int) < (l.length : Int) := by omega
      have HT := Lib.hid (all_at why hlt)
      have HN := Lib.hid (show (all (l.take j) why).length = j by rw [all_len]; simp; omega)
      clear hbw ha HL HE
      generalize (l.getD j Queue.z).id = x at *
      generalize all (l.take j) why = L at *
      go_wp2_with (at_builtin; refine Kit.push laidA rfl _ _ rfl w wr (.slice q j d) rfl L j HN.out hown.out HBW.out (lay _ _) wr.heap.size ⟨x, 0, why⟩ rfl (heap_alloc_new _ _) (by omega) ?_; intro p4 c4 w4 R4 B4)
      go_roundw
      case rel => exact ⟨j + 1, p4, c4, by omega, by go_num, rfl, by rw [HT.out]; exact R4, B4⟩
      case measure => simp only [intOf]; omega
    · have hlt' : ¬ (j : Int) < (l.length : Int) := by omega
      have HO := Lib.hid (show Told wr (.slice q j d) (all l why) by rw [HE.out]; have e : j = l.length := by omega
                                                                     subst e; exact told_own hown.out)
      clear hown HE HL
      go_wp2
      refine bodyPost_ret (v := .slice q j d) (by simp [results, Tryz.results75, go_sem]) rfl ?_
      exact ⟨_, rfl, HO.out, HBW.out⟩
/-- One element, just laid, is appended to a row of its own; what is of no such type stays. -/
theorem push_at {α : Type} {E : Enc α} {T : TypeId} {P : Program} {ST : TypeId} (L : Laid P E T ST) {u : World} {ops : Array Oper} {rest : List Oper} {o : Oper} {a : Act} {Q : Exit → Act → World → Prop} (hgd : o.guard = none) (s y : Operand)
    (ho : o.op = .call { callee := .builtin .append, args := #[s, y], argTypes := #[ST, ST] })
    (C : Nat) (wr : World) (v : Value) (hs : a.eval s = v) (l : List α) (n : Nat) (hn : l.length = n) (hown : Kit.Own E T C wr v l) (hC : C ≤ wr.heap.size) (hu : Below wr.heap.size wr u)
    (g : Nat) (x : α) {tg : TypeId} {fr : Nat × Nat} (hy : a.eval y = .slice (some ⟨g, 0, none⟩) 1 1) (hg : u.heap[g]? = some (.cells (E.cs x).toArray tg fr)) (hlen : n ≤ 100000)
    (h : ∀ p c w', Hid (Kit.Own E T C w' (.slice p (n + 1) c) (l ++ [x])) → Kept [T] u w' → Below C u w' → wpList P ops Q rest (a.put o.dst (.slice p (n + 1) c)) w') : wpList P ops Q (o :: rest) a u := by
  subst hn
  obtain ⟨zv, byt, hi0, hzc, hby⟩ := L.info
  obtain ⟨i0, hi, hz0, hz1, hz2⟩ := info_parts hi0
  have hmul : (l.length + 1) * byt ≤ 100001 * 1000 := Nat.mul_le_mul (by omega) hby
  have hown' := hown.on hu
  refine wpList_append_own _ hgd s y ST ho C T i0 zv E.n byt L.sl hi hz0 hz1 hz2 hzc E.pos v l.length (Kit.cells E l) hs hown' ⟨g, 0, none⟩ 1 1 (E.cs x) hy (by rw [E.len, Nat.one_mul]) (fun j z hz => World.news_of_block hg j z (by simpa using hz)) (E.one x) (by unfold maxLen; omega) (by omega) (Nat.le_trans hC hu.size) ?_
  intro v' w' ho2 hg2 _
  have hb2 : Below C u w' := (Below.refl C u).grown hg2 (Nat.le_trans hC hu.size) (fun k hk => (World.ownsRow.lt hown k hk).1)
  have R : Kit.Own E T C w' v' (l ++ [x]) := by
    unfold Kit.Own
    rw [Kit.cells_snoc, List.length_append]
    exact ho2
  have K : Kept [T] u w' := ⟨hg2.size, fun k ob e hob => by
    refine (hg2.block k (lt_heap e) fun ek => ?_).trans e
    rcases hown'.2 with ⟨rfl, -⟩ | ⟨k', cap, cur, rfl, -, h2, -⟩
    · simp [Value.ownBlock] at ek
    · simp only [Value.ownBlock, Option.some.injEq] at ek
      subst ek
      rw [h2] at e
      exact hob _ _ _ (Option.some.inj e).symm (by simp)⟩
  obtain ⟨p, c, rfl⟩ : ∃ p c, v' = .slice p (l.length + 1) c := by
    rcases ho2.2 with ⟨_, h0⟩ | ⟨g, cap, cur, rfl, _⟩
    · omega
    · exact ⟨_, cap, rfl⟩
  exact h p c w' R K hb2
/-- Where nothing turns but rows of answers, an edge stays. -/
theorem Ed.kept {w w' : World} {B v : Nat} {c : Cf} {e : Eg} (h : Ed B w v c e) (hk : Kept [79] w w') (hb : Below B w w') : Ed B w' v c e := by
  obtain ⟨h0, cs, p, k, yL, yQ, yD, h1, h2, h3, h4, h5, h6, h7, h8, h9, h10⟩ := h
  refine ⟨h0, cs, p, k, yL, yQ, yD, hk.block v _ _ _ h1 (by decide), h2, h3.on hb, h4, ?_, h6, h7, h8.kept hk (by decide), h9, h10.kept hk (by decide)⟩
  refine ⟨h5.1, ?_⟩
  rcases h5.2 with h0 | ⟨g, cap, cur, rfl, k1, k2, k3⟩
  · exact .inl h0
  · exact .inr ⟨g, cap, cur, rfl, k1, hk.block g _ _ _ k2 (by decide), k3⟩
theorem EStep.kept {w w1 w' : World} {B v : Nat} {c : Cf} {e : Eg} (h : EStep B w v c e w1) (hk : Kept [79] w1 w') (hb : Below w.heap.size w1 w') (hB : B ≤ w.heap.size) : EStep B w v c e w' :=
  ⟨h.ed.kept hk (hb.mono hB), fun g hn hg => (hb.block g hg).trans (h.only g hn hg), h.below.trans (hb.mono hB), Nat.le_trans h.size hk.size⟩
/-- What is served of the first j, and how far. -/
theorem serves_snoc (key now : Int) : ∀ (l : List It) (x : It) (e : Eg), serves key now (l ++ [x]) e =
    if (serves key now l e).2.length = l.length then
      (if (spend (serves key now l e).1.L key x.cost now).2.2 = true then (⟨(spend (serves key now l e).1.L key x.cost now).1, (take (serves key now l e).1.Q x.id).1, (serves key now l e).1.D⟩, (serves key now l e).2 ++ [⟨x.id, (spend (serves key now l e).1.L key x.cost now).2.1, 0⟩])
        else serves key now l e)
      else serves key now l e
  | [], x, e => by
    by_cases h : (spend e.L key x.cost now).2.2 = true <;> simp [serves, h]
  | y :: l, x, e => by
    simp only [List.cons_append, serves]
    by_cases h : (spend e.L key y.cost now).2.2 = true
    · simp only [h, if_true, List.length_cons, Nat.succ.injEq]
      rw [serves_snoc key now l x]
      split <;> (try split) <;> simp_all
    · simp [h]
theorem serves_len (key now : Int) : ∀ (l : List It) (e : Eg), (serves key now l e).2.length ≤ l.length
  | [], e => by simp [serves]
  | y :: l, e => by
    simp only [serves]
    split
    · have := serves_len key now l ⟨(spend e.L key y.cost now).1, (take e.Q y.id).1, e.D⟩
      simp; omega
    · simp
/-- Once one was not served, none is. -/
theorem serves_stop (key now : Int) : ∀ (l m : List It) (e : Eg), (serves key now l e).2.length < l.length → serves key now (l ++ m) e = serves key now l e
  | [], m, e, h => by simp at h
  | y :: l, m, e, h => by
    simp only [List.cons_append, serves] at h ⊢
    split
    · rename_i hs
      rw [if_pos hs] at h
      simp only [List.length_cons, Nat.add_lt_add_iff_right] at h
      rw [serves_stop key now l m _ h]
    · rfl
end Go.Proofs.YtlbpeeelgpjciaaGreat.Edge

namespace Go.Proofs.YtlbpeeelgpjciaaGreat.Lease2
open _root_.Go.Proofs.YtlbpeeelgpjciaaGreat.Lease
variable {ov : Nat}
open Go.RowKit
open _root_.Go.Proofs.YtlbpeeelgpjciaaGreat.Codec (lt_of_heap frozen_of heap_set below_new)

/-- What is laid behind the first j: done or not. -/
def laid (x : Lz) : List Lz → List Lz × Bool
  | l => l.foldl (fun s y => if s.2 = false ∧ x.key < y.key then (s.1 ++ [x] ++ [y], true) else (s.1 ++ [y], s.2)) ([], false)
theorem laid_snoc (x : Lz) (l : List Lz) (y : Lz) : laid x (l ++ [y]) = if (laid x l).2 = false ∧ x.key < y.key then ((laid x l).1 ++ [x] ++ [y], true) else ((laid x l).1 ++ [y], (laid x l).2) := by simp [laid]
theorem laid_len (x : Lz) (l : List Lz) : (laid x l).1.length ≤ l.length + 1 ∧ ((laid x l).2 = false → (laid x l).1 = l) := by
  have key : ∀ (l : List Lz) (s : List Lz × Bool), (l.foldl (fun s y => if s.2 = false ∧ x.key < y.key then (s.1 ++ [x] ++ [y], true) else (s.1 ++ [y], s.2)) s).1.length ≤ s.1.length + l.length + (if s.2 then 0 else 1) ∧ ((l.foldl (fun s y => if s.2 = false ∧ x.key < y.key then (s.1 ++ [x] ++ [y], true) else (s.1 ++ [y], s.2)) s).2 = false → (l.foldl (fun s y => if s.2 = false ∧ x.key < y.key then (s.1 ++ [x] ++ [y], true) else (s.1 ++ [y], s.2)) s).1 = s.1 ++ l) := by
    intro l
    induction l with
    | nil => intro s; simp
    | cons y l ih =>
      intro s
      rw [List.foldl_cons]
      obtain ⟨a, d⟩ := s
      cases d
      · by_cases hk : x.key < y.key
        · have := ih (a ++ [x] ++ [y], true)
          simp only [hk, and_self, if_true, List.length_append, List.length_cons, List.length_nil] at this ⊢
          refine ⟨by simp at this ⊢; omega, fun e => ?_⟩
          have h2 : ∀ (l : List Lz) (s : List Lz), (l.foldl (fun s y => if s.2 = false ∧ x.key < y.key then (s.1 ++ [x] ++ [y], true) else (s.1 ++ [y], s.2)) (s, true)).2 = true := by
            intro l
            induction l with
            | nil => intro s; rfl
            | cons z l ih => intro s; rw [List.foldl_cons]; simpa using ih (s ++ [z])
          rw [h2] at e
          cases e
        · have := ih (a ++ [y], false)
          simp only [hk, and_false, if_false, List.length_append, List.length_cons, List.length_nil] at this ⊢
          exact ⟨by simp at this ⊢; omega, fun e => by rw [this.2 e]; simp⟩
      · have := ih (a ++ [y], true)
        simp only [Bool.true_eq_false, false_and, if_false, List.length_append, List.length_cons, List.length_nil] at this ⊢
        exact ⟨by simp at this ⊢; omega, fun e => by rw [this.2 e]; simp⟩
  have := key l ([], false)
  simpa [laid] using this
theorem laid_all (x : Lz) (l : List Lz) : (if (laid x l).2 = true then (laid x l).1 else (laid x l).1 ++ [x]) = ins x l := by
  have yes : ∀ (l s : List Lz), l.foldl (fun s y => if s.2 = false ∧ x.key < y.key then (s.1 ++ [x] ++ [y], true) else (s.1 ++ [y], s.2)) (s, true) = (s ++ l, true) := by
    intro l
    induction l with
    | nil => intro s; simp
    | cons z l ih => intro s; rw [List.foldl_cons]; simp only [Bool.true_eq_false, false_and, if_false]; rw [ih]; simp
  have no : ∀ (l s : List Lz), (if (l.foldl (fun s y => if s.2 = false ∧ x.key < y.key then (s.1 ++ [x] ++ [y], true) else (s.1 ++ [y], s.2)) (s, false)).2 = true then (l.foldl (fun s y => if s.2 = false ∧ x.key < y.key then (s.1 ++ [x] ++ [y], true) else (s.1 ++ [y], s.2)) (s, false)).1 else (l.foldl (fun s y => if s.2 = false ∧ x.key < y.key then (s.1 ++ [x] ++ [y], true) else (s.1 ++ [y], s.2)) (s, false)).1 ++ [x]) = s ++ ins x l := by
    intro l
    induction l with
    | nil => intro s; simp [ins]
    | cons z l ih =>
      intro s
      rw [List.foldl_cons]
      by_cases hk : x.key < z.key
      · simp only [hk, and_self, if_true]
        rw [yes]
        simp [ins, hk]
      · simp only [hk, and_false, if_false]
        rw [ih]
        simp [ins, hk]
  have := no l []
  simpa [laid] using this
set_option maxRecDepth 100000 in
set_option maxHeartbeats 4000000 in
theorem rput_no {B v : Nat} {l : List Lz} {w : World} (h : Wl B w v ov l) (hB : B ≤ w.heap.size) (x : Lz) (hx : wrong x) :
    Calls Tryz.prog 70 #[.pointer (some ⟨v, ov, none⟩), val x] w fun e w' => e = .returned (.int .i64 1) ∧ Step B w v ov l w' := by
  have HS := Lib.hid (fun u (hu : Below w.heap.size w u) => Step.same h hB hu)
  obtain ⟨b0, b1, b2, b3, b4⟩ := box5 (heap_alloc_new w (.cells #[.int .i64 x.key, .int .i64 x.gen, .int .i64 x.amount, .int .i64 x.spent, .int .i64 x.til] 93))
  have HB := Lib.hid ((Below.refl w.heap.size w).alloc (Nat.le_refl _) (.cells #[.int .i64 x.key, .int .i64 x.gen, .int .i64 x.amount, .int .i64 x.spent, .int .i64 x.til] 93))
  obtain ⟨xk, xg, xa, xs, xt⟩ := x
  unfold wrong at hx
  simp only at hx b0 b1 b2 b3 b4 HB
  have hc : xg < 1 ∨ ¬ xg < 1 ∧ (xa < 1 ∨ ¬ xa < 1 ∧ ((xs != 0) = true ∨ (xs != 0) = false ∧ xt < 0)) := by
    by_cases h1 : xg < 1
    · exact .inl h1
    · by_cases h2 : xa < 1
      · exact .inr ⟨h1, .inl h2⟩
      · by_cases h3 : xs = 0
        · exact .inr ⟨h1, .inr ⟨h2, .inr ⟨by simp [h3], by omega⟩⟩⟩
        · exact .inr ⟨h1, .inr ⟨h2, .inl (by simp [h3])⟩⟩
  clear h hx
  simp only [val]
  rcases hc with h1 | ⟨h1, h2 | ⟨h2, h3 | ⟨h3, h4⟩⟩⟩
  all_goals
    go_enter Tryz.func70, Tryz.ntmps70
    go_wp2
    go_ret
    exact ⟨rfl, HS.out _ HB.out⟩

set_option maxRecDepth 100000 in
set_option maxHeartbeats 4000000 in
theorem rput_twice {B v : Nat} {l : List Lz} {w : World} (h : Wl B w v ov l) (hB : B ≤ w.heap.size) (hl : l.length ≤ 1000) (x : Lz) (hx : ¬ wrong x) (hp : 0 ≤ place l x.key) :
    Calls Tryz.prog 70 #[.pointer (some ⟨v, ov, none⟩), val x] w fun e w' => e = .returned (.int .i64 5) ∧ Step B w v ov l w' := by
  have HS := Lib.hid (fun u (hu : Below w.heap.size w u) => Step.same h hB hu)
  obtain ⟨b0, b1, b2, b3, b4⟩ := box5 (heap_alloc_new w (.cells #[.int .i64 x.key, .int .i64 x.gen, .int .i64 x.amount, .int .i64 x.spent, .int .i64 x.til] 93))
  have HB := Lib.hid ((Below.refl w.heap.size w).alloc (Nat.le_refl _) (.cells #[.int .i64 x.key, .int .i64 x.gen, .int .i64 x.amount, .int .i64 x.spent, .int .i64 x.til] 93))
  have HA := rat_any (h.below HB.out) hl x.key
  generalize place l x.key = P at *
  obtain ⟨xk, xg, xa, xs, xt⟩ := x
  unfold wrong at hx
  simp only at hx b0 b1 b2 b3 b4 HB HA
  have h1 : ¬ xg < 1 := by omega
  have h2 : ¬ xa < 1 := by omega
  have h3 : (xs != 0) = false := by simp; omega
  have h4 : ¬ xt < 0 := by omega
  clear h hx
  simp only [val]
  go_enter Tryz.func70, Tryz.ntmps70
  go_wp2_with (go_at_call 124; (with_reducible refine HA.mono ?_); rintro e w1 ⟨rfl, hb⟩; have HB1 := Lib.hid (HB.out.trans (hb.mono HB.out.size)); clear hb HA)
  go_ret
  exact ⟨rfl, HS.out _ HB1.out⟩

set_option maxRecDepth 100000 in
set_option maxHeartbeats 4000000 in
theorem rput_ok {B v : Nat} {l : List Lz} {w : World} (h : Wl B w v ov l) (hB : B ≤ w.heap.size) (hl : l.length ≤ 1000) (x : Lz) (hx : ¬ wrong x) (hp : ¬ 0 ≤ place l x.key) :
    Calls Tryz.prog 70 #[.pointer (some ⟨v, ov, none⟩), val x] w fun e w' => e = .returned (.int .i64 0) ∧ Step B w v ov (ins x l) w' := by
  have HV := Lib.hid h
  have HBB := Lib.hid hB
  have K := heap_alloc_new w (.cells #[.int .i64 x.key, .int .i64 x.gen, .int .i64 x.amount, .int .i64 x.spent, .int .i64 x.til] 93)
  have HB := Lib.hid ((Below.refl w.heap.size w).alloc (Nat.le_refl _) (.cells #[.int .i64 x.key, .int .i64 x.gen, .int .i64 x.amount, .int .i64 x.spent, .int .i64 x.til] 93))
  have HA := rat_any (h.below HB.out) hl x.key
  have HI := Lib.hid (laid_all x l)
  have HLS := Lib.hid (laid_snoc x)
  have HLL := Lib.hid (laid_len x)
  generalize place l x.key = P at *
  generalize ins x l = R at *
  have HL0 := Lib.hid (show laid x [] = ([], false) from rfl)
  generalize laid x = LD at *
  obtain ⟨xk, xg, xa, xs, xt⟩ := x
  unfold wrong at hx
  simp only at hx K HB HA HLS
  obtain ⟨b0, b1, b2, b3, b4⟩ := box5 K
  have h1 : ¬ xg < 1 := by omega
  have h2 : ¬ xa < 1 := by omega
  have h3 : (xs != 0) = false := by simp; omega
  have h4 : ¬ xt < 0 := by omega
  have HK := Lib.hid K
  clear h hx hB K
  simp only [val]
  go_enter Tryz.func70, Tryz.ntmps70
  go_wp2_with (go_at_call 124; (with_reducible refine HA.mono ?_); rintro e w1 ⟨rfl, hb⟩; have HB1 := Lib.hid (HB.out.trans (hb.mono HB.out.size)); have HK1 := Lib.hid ((hb.block _ (lt_of_heap HK.out)).trans HK.out); clear hb HA HK b0 b1 b2 b3 b4)
  clear HB
  go_loopw [5, 6, 7] (fun y d k wr => ∃ (j : Nat) (p : Option Addr) (c n : Nat), j ≤ l.length ∧ k = .int .i64 (j : Int) ∧ y = .slice p n c ∧ d = .bool (LD (l.take j)).2 ∧ Hid (Own 93 w1.heap.size wr y (LD (l.take j)).1) ∧ Hid ((LD (l.take j)).1.length = n) ∧ Below w1.heap.size w1 wr) (fun _ _ k _ => l.length - (intOf k).toNat)
  case atStart => exact ⟨0, none, 0, 0, by omega, rfl, rfl, by rw [List.take_zero, HL0.out], by rw [List.take_zero, HL0.out]; exact Lib.hid (Own.none _ _ _), by rw [List.take_zero, HL0.out]; exact Lib.hid rfl, Below.refl _ _⟩
  case round =>
    obtain ⟨j, p, c, n, hj, rfl, rfl, rfl, hown, hn, hbw⟩ := hrel
    obtain ⟨q, cq, c1', hr⟩ := (HV.out.below HB1.out).cell
    have HR := Lib.hid hr
    have c1 := cell_on c1' hbw
    have HBW := Lib.hid hbw
    have HBX := Lib.hid (fun u (hu : Below w1.heap.size w1 u) => box5 ((hu.block _ (lt_of_heap HK1.out)).trans HK1.out))
    obtain ⟨b0, b1, b2, b3, b4⟩ := HBX.out _ hbw
    have hn2 : n ≤ 1001 := by
      have := (HLL.out (l.take j)).1
      rw [hn.out] at this
      have h5 : (l.take j).length ≤ l.length := by simp; omega
      omega
    have HC1 := Lib.hid c1'
    clear hr c1'
    by_cases hlt : j < l.length
    · obtain ⟨b, o, rfl, hat⟩ := lies_at HR.out hlt
      obtain ⟨k0, k1, k2, k3, k4⟩ := hat.below hbw
      have HAT := Lib.hid hat
      clear hat hbw
      have hlt' : (j : Int) < (l.length : Int) := by omega
      have hls := HLS.out (l.take j) (l.getD j z)
      rw [← take_snoc hlt] at hls
      generalize hx : l.getD j z = y at k0 k1 k2 k3 k4 hls HAT
      generalize hS : LD (l.take j) = S at *
      generalize hS' : LD (l.take (j + 1)) = S' at *
      have HS' := Lib.hid hS'
      obtain ⟨L, D⟩ := S
      obtain ⟨yk, yg, ya, ys, yt⟩ := y
      simp only at k0 k1 k2 k3 k4 hls hown hn
      clear hx hS hS'
      have HX : Hid (∀ u, Below w1.heap.size w1 u → (u.cell? ⟨b, o + j * 5, none⟩ = some (.int .i64 yk) ∧ u.cell? ⟨b, o + j * 5 + 1, none⟩ = some (.int .i64 yg) ∧ u.cell? ⟨b, o + j * 5 + 2, none⟩ = some (.int .i64 ya) ∧ u.cell? ⟨b, o + j * 5 + 3, none⟩ = some (.int .i64 ys) ∧ u.cell? ⟨b, o + j * 5 + 4, none⟩ = some (.int .i64 yt)) ∧ u.cell? ⟨v, ov, none⟩ = some (.slice (some ⟨b, o, none⟩) l.length cq)) := fun u hu => ⟨HAT.out.below hu, cell_on HC1.out hu⟩
      clear HAT HC1
      clear HR
      cases D with
      | true =>
        simp only [Bool.true_eq_false, false_and, if_false] at hls
        have HE := Lib.hid hls
        clear hls
        go_wp2
        go_quiet (fail)
        go_wp2_with (at_builtin; refine push_lease rfl (.tmp 59) (.tmp 67) rfl w1 wr (.slice p n c) rfl L n hn.out hown.out HBW.out (below_drewN wr _) wr.heap.size ⟨yk, yg, ya, ys, yt⟩ rfl (heap_alloc_new _ _) (by omega) ?_; intro p4 c4 w4 R4 B4)
        go_roundw
        case rel => exact ⟨j + 1, p4, c4, n + 1, by omega, by go_num, rfl, by rw [HS'.out, HE.out], by rw [HS'.out, HE.out]; exact R4, by rw [HS'.out, HE.out]; exact Lib.hid (by simp [hn.out]), B4⟩
        case measure => simp [intOf]; omega
      | false =>
        by_cases hk : xk < yk
        · simp only [hk, and_self, if_true] at hls
          have HE := Lib.hid hls
          clear hls
          go_wp2
          go_quiet (fail)
          have HN2 := Lib.hid (show (L ++ [(⟨xk, xg, xa, xs, xt⟩ : Lz)]).length = n + 1 by simp [hn.out])
          go_wp2_with (at_builtin; first
            | (refine push_lease rfl (.tmp 55) (.tmp 57) rfl w1 wr (.slice p n c) rfl L n hn.out hown.out HBW.out (below_drewN wr _) wr.heap.size ⟨xk, xg, xa, xs, xt⟩ rfl (heap_alloc_new _ _) (by omega) ?_; intro p3 c3 w3 R3 B3; clear k0 k1 k2 k3 k4 c1 b0 b1 b2 b3 b4; obtain ⟨⟨k0, k1, k2, k3, k4⟩, c1⟩ := HX.out _ B3; have HB3 := Lib.hid B3; clear B3)
            | (refine push_lease rfl (.tmp 59) (.tmp 67) rfl w1 w3 (.slice p3 (n + 1) c3) rfl (L ++ [⟨xk, xg, xa, xs, xt⟩]) (n + 1) HN2.out R3.out HB3.out (Below.refl _ _) w3.heap.size ⟨yk, yg, ya, ys, yt⟩ rfl (heap_alloc_new _ _) (by omega) ?_; intro p4 c4 w4 R4 B4))
          go_roundw
          case rel => exact ⟨j + 1, p4, c4, n + 2, by omega, by go_num, rfl, by rw [HS'.out, HE.out], by rw [HS'.out, HE.out]; exact R4, by rw [HS'.out, HE.out]; exact Lib.hid (by simp [hn.out]), B4⟩
          case measure => simp [intOf]; omega
        · simp only [hk, and_false, if_false] at hls
          have HE := Lib.hid hls
          clear hls
          go_wp2
          go_quiet (fail)
          go_wp2_with (at_builtin; refine push_lease rfl (.tmp 59) (.tmp 67) rfl w1 wr (.slice p n c) rfl L n hn.out hown.out HBW.out (below_drewN wr _) wr.heap.size ⟨yk, yg, ya, ys, yt⟩ rfl (heap_alloc_new _ _) (by omega) ?_; intro p4 c4 w4 R4 B4)
          go_roundw
          case rel => exact ⟨j + 1, p4, c4, n + 1, by omega, by go_num, rfl, by rw [HS'.out, HE.out], by rw [HS'.out, HE.out]; exact R4, by rw [HS'.out, HE.out]; exact Lib.hid (by simp [hn.out]), B4⟩
          case measure => simp [intOf]; omega
    · have hj' : l.take j = l := List.take_of_length_le (by omega)
      have hlt' : ¬ (j : Int) < (l.length : Int) := by omega
      rw [hj'] at hown hn ⊢
      have hi := HI.out
      generalize LD l = S at *
      obtain ⟨L, D⟩ := S
      simp only at hown hn hi ⊢
      have HSI := Lib.hid hi
      have HSZ := Lib.hid HB1.out.size
      have HST : Hid (∀ (u : World) (y : Value), Below w1.heap.size w1 u → Own 93 w1.heap.size u y R → u.frozen? ⟨v, ov, none⟩ = false ∧ (∃ z, u.cell? ⟨v, ov, none⟩ = some z) ∧ Hid (Step B w v ov R (u.setCell ⟨v, ov, none⟩ y))) := fun u y hu ho => HV.out.store HBB.out (HB1.out.trans (hu.mono HB1.out.size)) (Codec.own_lower ho HB1.out.size)
      clear HR HI hi
      cases D with
      | true =>
        have e : L = R := by have := HSI.out; simpa using this
        subst e
        obtain ⟨f0, ⟨u0, d0⟩, G⟩ := HST.out _ _ hbw hown.out
        clear HSI HST hown hbw HBX HC1
        go_wp2
        go_ret
        exact ⟨rfl, G.out⟩
      | false =>
        have e : L ++ [⟨xk, xg, xa, xs, xt⟩] = R := by have := HSI.out; simpa using this
        clear HSI hbw
        go_wp2_with (at_builtin; refine push_lease rfl (.tmp 71) (.tmp 73) rfl w1 wr (.slice p n c) rfl L n hn.out hown.out HBW.out (Below.refl _ _) wr.heap.size ⟨xk, xg, xa, xs, xt⟩ rfl (heap_alloc_new _ _) (by omega) ?_; intro p3 c3 w3 R3 B3; obtain ⟨f0, ⟨u0, d0⟩, G⟩ := HST.out _ _ B3 (by rw [← e]; exact R3.out); clear B3 R3 HST c1)
        go_ret
        exact ⟨rfl, G.out⟩

/-- Put, of any lease. -/
theorem rput_any {B v : Nat} {l : List Lz} {w : World} (h : Wl B w v ov l) (hB : B ≤ w.heap.size) (hl : l.length ≤ 1000) (x : Lz) :
    Calls Tryz.prog 70 #[.pointer (some ⟨v, ov, none⟩), val x] w fun e w' => e = .returned (.int .i64 (put l x).2) ∧ Step B w v ov (put l x).1 w' := by
  unfold put
  split
  · rename_i hx
    exact rput_no h hB x hx
  · rename_i hx
    split
    · rename_i hp
      exact rput_twice h hB hl x hx hp
    · rename_i hp
      exact rput_ok h hB hl x hx hp
end Go.Proofs.YtlbpeeelgpjciaaGreat.Lease2

namespace Go.Proofs.YtlbpeeelgpjciaaGreat.Edge
open Go.RowKit
open _root_.Go.Proofs.YtlbpeeelgpjciaaGreat.Codec (lt_of_heap frozen_of heap_set below_new)
open _root_.Go.Proofs.YtlbpeeelgpjciaaGreat.Kit (Enc Lies At Kept Laid Off cell_on lt_heap take_snoc below_drewN)
open _root_.Go.Proofs.YtlbpeeelgpjciaaGreat.Lease (Lz spend)
open _root_.Go.Proofs.YtlbpeeelgpjciaaGreat.Queue (It take)
open _root_.Go.Proofs.YtlbpeeelgpjciaaGreat.Demand (Nt)

theorem good_spend {c : Cf} {e : Eg} (h : Good c e) (k x now : Int) : Good c ⟨(spend e.L k x now).1, e.Q, e.D⟩ := ⟨Lease.good_spend h.l k x now, h.q, h.until'⟩
theorem take_sub (Q : List It) (id : Int) : ∀ x ∈ (take Q id).1, x ∈ Q := by
  unfold take
  split
  · exact fun x hx => hx
  · exact fun x hx => (List.eraseIdx_sublist _ _).subset hx
theorem good_take {c : Cf} {e : Eg} (h : Good c e) (id : Int) : Good c ⟨e.L, (take e.Q id).1, e.D⟩ := ⟨h.l, Queue.good_take h.q id, fun x hx => h.until' x (take_sub _ _ x hx)⟩
theorem good_serves {c : Cf} (key now : Int) : ∀ (l : List It) {e : Eg}, Good c e → Good c (serves key now l e).1
  | [], _, h => h
  | x :: l, e, h => by
    simp only [serves]
    split
    · exact good_serves key now l (good_take (good_spend h key x.cost now) x.id)
    · exact h
theorem len_serves (key now : Int) : ∀ (l : List It) (e : Eg), (serves key now l e).1.L.length = e.L.length ∧ (serves key now l e).1.Q.length ≤ e.Q.length ∧ (serves key now l e).1.D = e.D
  | [], e => ⟨rfl, Nat.le_refl _, rfl⟩
  | x :: l, e => by
    simp only [serves]
    split
    · obtain ⟨h1, h2, h3⟩ := len_serves key now l ⟨(spend e.L key x.cost now).1, (take e.Q x.id).1, e.D⟩
      refine ⟨h1.trans (Lease.len_spend _ _ _ _), Nat.le_trans h2 ?_, h3⟩
      show (take e.Q x.id).1.length ≤ e.Q.length
      unfold take
      split
      · exact Nat.le_refl _
      · exact (List.eraseIdx_sublist _ _).length_le
    · exact ⟨rfl, Nat.le_refl _, rfl⟩
/-- Notes, leases, items of an edge: how many, at most. -/
structure Few (e : Eg) : Prop where
  l : e.L.length ≤ 200
  q : e.Q.length ≤ 200
  d : e.D.length ≤ 200
/-- Items that are one's own stay where an edge moves. -/
theorem own_step {w w' : World} {B v C : Nat} {c : Cf} {e e' : Eg} {y : Value} {l : List It} (h : Kit.Own Queue.item 95 C w y l) (hv : Ed B w v c e) (hs : EStep B w v c e' w') : Kit.Own Queue.item 95 C w' y l := by
  obtain ⟨_, cs, p, k, yL, yQ, yD, h1, _⟩ := hv
  exact owns_only h h1 (by decide) hs.only
theorem ans_step {w w' : World} {B v C : Nat} {c : Cf} {e e' : Eg} {y : Value} {l : List An} (h : Kit.Own ans 79 C w y l) (hv : Ed B w v c e) (hs : EStep B w v c e' w') : Kit.Own ans 79 C w' y l := by
  obtain ⟨_, cs, p, k, yL, yQ, yD, h1, _⟩ := hv
  exact owns_only h h1 (by decide) hs.only
theorem own_row {α : Type} {E : Enc α} {T : TypeId} {B n c : Nat} {w : World} {p : Option Addr} {l : List α} (h : Kit.Own E T B w (.slice p n c) l) (hl : 0 < l.length) :
    ∃ g cs, p = some ⟨g, 0, none⟩ ∧ w.heap[g]? = some (.cells cs T (0, 0)) ∧ ∀ j, j < l.length → At E w g (j * E.n) (l.getD j E.z) := by
  obtain ⟨p', c', e, hlies⟩ := h.lies
  simp only [Value.slice.injEq] at e
  obtain ⟨rfl, -, -⟩ := e
  rcases h.2 with ⟨e, h0⟩ | ⟨g, cap, cur, e, h1, h2, h3⟩
  · omega
  · simp only [Value.slice.injEq] at e
    obtain ⟨rfl, -, -⟩ := e
    refine ⟨g, _, rfl, h2, fun j hj => ?_⟩
    obtain ⟨b, o, e, ha⟩ := Kit.lies_at hlies hj
    simp only [Option.some.injEq, Addr.mk.injEq, and_true] at e
    obtain ⟨rfl, rfl⟩ := e
    rwa [Nat.zero_add] at ha
/-- What lies in a row of its own stays where an edge moves. -/
theorem at_step {α : Type} {E : Enc α} {T : TypeId} (hT : T ≠ 60) {w w' : World} {B v g o : Nat} {c : Cf} {e e' : Eg} {cs : Array Value} {x : α} (hb : w.heap[g]? = some (.cells cs T (0, 0))) (ha : At E w g o x) (hv : Ed B w v c e) (hs : EStep B w v c e' w') : At E w' g o x := by
  obtain ⟨_, cs0, p, k, yL, yQ, yD, h1, _⟩ := hv
  refine fun k u hu => (World.cell?_of_block (hs.only g ?_ (lt_of_heap hb))).trans (ha k u hu)
  rintro rfl
  rw [h1] at hb
  simp only [Option.some.injEq, Obj.cells.injEq] at hb
  exact hT hb.2.1.symm
theorem spend_no {L : List Lz} {k x now : Int} (h : (spend L k x now).2.2 = false) : (spend L k x now).1 = L := by
  unfold spend at h ⊢
  split
  · rfl
  · rename_i hn
    rw [if_neg hn] at h
    cases h
/-- The wallet spends. -/
theorem rspend_ed {w : World} {B v : Nat} {c : Cf} {e : Eg} (h : Ed B w v c e) (hB : B ≤ w.heap.size) (hg : Good c e) (hf : e.L.length ≤ 1000) (key cost now : Int) :
    Calls Tryz.prog 83 #[.pointer (some ⟨v, 9, none⟩), .int .i64 key, .int .i64 cost, .int .i64 now] w fun e' w' => e' = .returned (.tuple #[.int .i64 (spend e.L key cost now).2.1, .bool (spend e.L key cost now).2.2]) ∧ EStep B w v c ⟨(spend e.L key cost now).1, e.Q, e.D⟩ w' :=
  (Lease2.rspend_any h.wl hB hg.l hf key cost now).mono fun _ _ ⟨he, hs⟩ => ⟨he, h.step_l hs⟩
theorem rtake_ed {w : World} {B v : Nat} {c : Cf} {e : Eg} (h : Ed B w v c e) (hB : B ≤ w.heap.size) (hf : e.Q.length ≤ 1000) (id : Int) :
    Calls Tryz.prog 78 #[.pointer (some ⟨v, 10, none⟩), .int .i64 id] w fun e' w' => e' = .returned (.tuple #[Queue.val (take e.Q id).2.1, .bool (take e.Q id).2.2]) ∧ EStep B w v c ⟨e.L, (take e.Q id).1, e.D⟩ w' :=
  (Queue2.rtake_any h.qu hB hf id).mono fun _ _ ⟨he, hs⟩ => ⟨he, h.step_q hs⟩
set_option maxRecDepth 100000 in
set_option maxHeartbeats 8000000 in
theorem rserve_any {B v : Nat} {c : Cf} {e : Eg} {w : World} (h : Ed B w v c e) (hB : B ≤ w.heap.size) (hg : Good c e) (hf : Few e) (key now : Int) :
    Calls Tryz.prog 71 #[.pointer (some ⟨v, 0, none⟩), .int .i64 key, .int .i64 now] w fun e' w' => ∃ y, e' = .returned y ∧ Told w' y (serve e key now).2 ∧ EStep B w v c (serve e key now).1 w' := by
  have HBB := Lib.hid hB
  have HV := Lib.hid h
  have c0 := Queue2.rof_own h.qu (by have := hf.q; omega) key
  have hlen := Queue.of_len e.Q key
  have hlq := hf.q
  have SV := Lib.hid (show serve e key now = serves key now (Queue.of e.Q key) e from rfl)
  generalize serve e key now = R at *
  generalize Queue.of e.Q key = l at *
  have S0 := Lib.hid (show serves key now (l.take 0) e = (e, []) from rfl)
  have SS := Lib.hid (fun (j : Nat) (hj : j < l.length) => show serves key now (l.take (j + 1)) e = _ from by rw [take_snoc Queue.z hj, serves_snoc])
  have ST := Lib.hid (fun (j : Nat) (hj : j < l.length) (hs : (serves key now (l.take (j + 1)) e).2.length < (l.take (j + 1)).length) => show serves key now l e = serves key now (l.take (j + 1)) e from by
    have := serves_stop key now (l.take (j + 1)) (l.drop (j + 1)) e hs
    rwa [List.take_append_drop] at this)
  have SL := Lib.hid (show serves key now l e = serves key now (l.take l.length) e by rw [List.take_length])
  have SG := Lib.hid (fun j => good_serves key now (l.take j) hg)
  have SF := Lib.hid (fun j => len_serves key now (l.take j) e)
  have HF := Lib.hid hf
  generalize hsv : (fun j => serves key now (l.take j) e) = SE
  have hsv' : ∀ j, serves key now (l.take j) e = SE j := fun j => by rw [← hsv]
  simp only [hsv'] at S0 SS ST SL SG SF
  clear h hg hf hB hsv hsv'
  go_enter Tryz.func71, Tryz.ntmps71
  go_wp2_with (go_at_call 77; (with_reducible refine c0.mono ?_); rintro e1 w1 ⟨p, d, rfl, ho, hb⟩; have HO := Lib.hid ho; have HB1 := Lib.hid hb; clear ho hb c0)
  have HV1 := Lib.hid (HV.out.below HBB.out HB1.out)
  have HB2 := Lib.hid (Nat.le_trans HBB.out HB1.out.size)
  have HS0 := Lib.hid (EStep.same HV.out HBB.out HB1.out)
  go_loopw [7, 9] (fun y i wr => ∃ (j : Nat) (q : Option Addr) (d2 : Nat), j ≤ l.length ∧ i = .int .i64 (j : Int) ∧ y = .slice q j d2 ∧ Hid (Kit.Own ans 79 w1.heap.size wr y (SE j).2) ∧ Hid ((SE j).2.length = j) ∧ Hid (EStep B w1 v c (SE j).1 wr)) (fun _ i _ => l.length - (intOf i).toNat)
  case atStart => exact ⟨0, none, 0, by omega, rfl, rfl, by rw [S0.out]; exact Lib.hid (Kit.Own.none _ _ _ _), by rw [S0.out]; exact Lib.hid rfl, by rw [S0.out]; exact Lib.hid (EStep.same HV1.out HB2.out (Below.refl _ _))⟩
  case round =>
    obtain ⟨j, q, d2, hj, rfl, rfl, hown, hn, hst⟩ := hrel
    by_cases hlt : j < l.length
    · have hlt' : (j : Int) < (l.length : Int) := by omega
      obtain ⟨g, cs, rfl, hblk, hats⟩ := own_row HO.out (by omega)
      have HAT := Lib.hid (fun u e' (hu : EStep B w1 v c e' u) => Queue.at5 (at_step (by decide) hblk (hats j hlt) HV1.out hu))
      obtain ⟨k0, k1, k2, k3, k4⟩ := HAT.out _ _ hst.out
      have HSS := Lib.hid (SS.out j hlt)
      have HST := Lib.hid (ST.out j hlt)
      have hgd := SG.out j
      obtain ⟨f1, f2, f3⟩ := SF.out j
      have hfl : (SE j).1.L.length ≤ 1000 := by have := HF.out.l; omega
      have hfq : (SE j).1.Q.length ≤ 1000 := by have := HF.out.q; omega
      have hEB := Lib.hid (Nat.le_trans HB2.out hst.out.size)
      have R1 := Lib.hid (rspend_ed (EStep.on hst.out hEB.out (Below.refl _ _).drew).ed (Nat.le_trans hEB.out (Below.refl wr.heap.size wr).drew.size) hgd hfl key (l.getD j Queue.z).cost now)
      have hsd := Lib.hid (EStep.on hst.out hEB.out (Below.refl _ wr).drew)
      have hod := Lib.hid (ans_step hown.out hst.out.ed (EStep.same hst.out.ed hEB.out (Below.refl _ wr).drew))
      have R2 := Lib.hid (fun u (hu : Ed B u v c ⟨(spend (SE j).1.L key (l.getD j Queue.z).cost now).1, (SE j).1.Q, (SE j).1.D⟩) (hb : B ≤ u.heap.size) => rtake_ed hu hb hfq (l.getD j Queue.z).id)
      rw [if_pos (by rw [hn.out, List.length_take]; omega)] at HSS
      simp only [show Queue.item.n = 5 from rfl, show Queue.item.z = Queue.z from rfl] at k0 k1 k2 k3 k4 HAT
      clear hats hblk SS ST SG SF hfl hfq f1 f2 f3 hgd HF S0 SL
      generalize l.getD j Queue.z = x at *
      obtain ⟨xi, xk, xc, xs, xt⟩ := x
      simp only at *
      have hsn := fun h => spend_no (L := (SE j).1.L) (k := key) (x := xc) (now := now) h
      have HLT := Lib.hid (show (l.take (j + 1)).length = j + 1 by simp; omega)
      generalize hse : SE j = S at *
      obtain ⟨⟨L, Q, D⟩, told⟩ := S
      simp only at *
      generalize spend L key xc now = SP at *
      obtain ⟨L', gen, ok⟩ := SP
      simp only at *
      cases ok
      · have HR := Lib.hid (show R = (⟨L, Q, D⟩, told) by
          have e1 := HSS.out
          rw [if_neg (by simp)] at e1
          rw [SV.out, HST.out (by rw [e1, HLT.out]; simp only; have := hn.out; omega), e1])
        obtain rfl := hsn rfl
        clear HSS HST SV hsn hse
        go_wp2
        go_region_held3 (fun u => u.cell? ⟨g, j * 5 + 2, none⟩ = some (.int .i64 xc)) (first | assumption) (first
          | (go_at_call 83; (with_reducible refine R1.out.mono ?_); rintro e1 w3 ⟨rfl, h3⟩; have H3 := Lib.hid h3; have y3 := (HAT.out _ _ (hsd.out.trans h3)).2.2.1; clear h3 R1))
        go_wp2
        refine bodyPost_ret (v := .slice q j d2) (by simp [results, Tryz.results71, go_sem]) rfl ?_
        refine ⟨_, rfl, ?_, ?_⟩
        · rw [HR.out]
          have := told_own (ans_step hod.out hsd.out.ed H3.out)
          exact this
        · rw [HR.out]
          exact HS0.out.trans (hsd.out.trans H3.out)
      · have HE := Lib.hid (show SE (j + 1) = (⟨L', (take Q xi).1, D⟩, told ++ [⟨xi, gen, 0⟩]) by have e1 := HSS.out; rwa [if_pos (by simp)] at e1)
        clear HSS HST SV hsn hse HLT
        go_wp2
        go_region_held3 (fun u => u.cell? ⟨g, j * 5 + 2, none⟩ = some (.int .i64 xc)) (first | assumption) (first
          | (go_at_call 83; (with_reducible refine R1.out.mono ?_); rintro e1 w3 ⟨rfl, h3⟩; have H3 := Lib.hid h3; have T3 := Lib.hid (hsd.out.trans h3); have HO3 := Lib.hid (ans_step hod.out hsd.out.ed h3); have y3 := (HAT.out _ _ T3.out).2.2.1; clear h3 R1))
        clear k0 k1 k2 k3 k4
        obtain ⟨k0, k1, k2, k3, k4⟩ := HAT.out _ _ T3.out
        have hB3 := Lib.hid (Nat.le_trans HB2.out T3.out.size)
        go_wp2
        have H3D := Lib.hid (EStep.same H3.out.ed hB3.out (Below.refl _ w3).drew)
        have HO3D := Lib.hid (ans_step HO3.out H3.out.ed H3D.out)
        go_region_held3 (fun u => u.cell? ⟨g, j * 5, none⟩ = some (.int .i64 xi)) (first | assumption) (first
          | (go_at_call 78; (with_reducible refine (R2.out _ H3D.out.ed (Nat.le_trans hB3.out H3D.out.size)).mono ?_); rintro e1 w4 ⟨rfl, h4⟩; have T4 := Lib.hid (T3.out.trans (H3D.out.trans h4)); have HO4 := Lib.hid (ans_step HO3D.out H3D.out.ed h4); have y4 := (HAT.out _ _ T4.out).1; clear h4 R2))
        clear k0 k1 k2 k3 k4
        obtain ⟨k0, k1, k2, k3, k4⟩ := HAT.out _ _ T4.out
        have hB4 := Lib.hid T4.out.size
        go_wp2_with (at_builtin; refine push_at laidA rfl _ _ rfl w1.heap.size w4 (.slice q j d2) rfl told j hn.out HO4.out hB4.out (lay _ _) w4.heap.size ⟨xi, gen, 0⟩ rfl (heap_alloc_new _ _) (by omega) ?_; intro p6 c6 w6 R6 K6 B6)
        go_roundw
        case rel => exact ⟨j + 1, p6, c6, by omega, by go_num, rfl, by rw [HE.out]; exact R6, by rw [HE.out]; exact Lib.hid (by simp [hn.out]), by rw [HE.out]; exact Lib.hid (EStep.kept (EStep.on T4.out (Nat.le_trans HB2.out hB4.out) (lay w4 _)) K6 B6 HB2.out)⟩
        case measure => simp only [intOf]; omega
    · have hlt' : ¬ (j : Int) < (l.length : Int) := by omega
      obtain rfl : j = l.length := by omega
      have HR := Lib.hid (show R = SE l.length by rw [SV.out, SL.out])
      have HT := Lib.hid (show Told wr (.slice q l.length d2) R.2 by rw [HR.out]; exact told_own hown.out)
      have HE := Lib.hid (show EStep B w v c R.1 wr by rw [HR.out]; exact HS0.out.trans hst.out)
      clear SV SL SS ST SG SF S0 hown hn hst HR
      go_wp2
      refine bodyPost_ret (v := .slice q l.length d2) (by simp [results, Tryz.results71, go_sem]) rfl ?_
      exact ⟨_, rfl, HT.out, HE.out⟩
end Go.Proofs.YtlbpeeelgpjciaaGreat.Edge
