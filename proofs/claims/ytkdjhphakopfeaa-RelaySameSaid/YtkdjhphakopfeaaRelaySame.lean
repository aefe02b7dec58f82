/-
  RelaySame returns true of any frame and acts, whatever the program's relay is, if its calls do what is asked of them.
-/
import Derived.Test.YtkdjhphakopfeaaRelayActs
import Derived.Test.YtkdjhphakopfeaaRelayAlive
namespace Go.Proofs.Ytkdjhphakopfeaa.Relay
open Go.RowKit
open _root_.Go.Proofs.Ytkdjhphakopfeaa.Codec (lt_of_heap frozen_of heap_set below_new Ints)
open _root_.Go.Proofs.Ytkdjhphakopfeaa.Frame (same_any fits_any Fr Tk Tb Rw frameOk Lying frameVal fitsTk)
open _root_.Go.Proofs.Ytkdjhphakopfeaa.Kit (Kept Off cell_on below_drewN)

/-- A relay that holds f, or none. -/
def st (f : Fr) (b : Bool) (n : Nat) : Rl := ⟨if b = true then some f else none, n⟩
theorem st_hold (f g : Fr) (n : Nat) : ∃ e, hold (st f true n) g = (st f true n, e) ∧ (e == 0) = false := by
  unfold hold st
  split
  · exact ⟨5, rfl, rfl⟩
  · exact ⟨1, rfl, rfl⟩
theorem st_first (f : Fr) (sent : Nat) : (⟨some f, sent⟩ : Rl) = st f true sent := rfl
theorem ack_no {s : Rl} {g : Fr} (h : acks s g = false) : ack s g = s := by simp [ack, h]
theorem st_acks (f g : Fr) (n : Nat) : acks (st f false n) g = false := by simp [acks, st]
theorem ack_yes {f g : Fr} {n : Nat} (h : acks (st f true n) g = true) : f.dst = g.src ∧ f.src = g.dst ∧ f.token.gen = g.gen ∧ f.token.hop = g.hop ∧ ack (st f true n) g = st f false n := by
  have h2 : ack (st f true n) g = st f false n := by
    unfold ack
    rw [if_pos h]
    rfl
  refine ⟨?_, ?_, ?_, ?_, h2⟩ <;> (simp [acks, st, answers] at h; omega)
theorem drop_no {s : Rl} {g p : Int} (h : drops s g p = false) : drop s g p = s := by simp [drop, h]
theorem st_drops (f : Fr) (n : Nat) (g p : Int) : drops (st f false n) g p = false := by simp [drops, st]
theorem drop_yes {f : Fr} {n : Nat} {g p : Int} (h : drops (st f true n) g p = true) : drop (st f true n) g p = st f false n ∧ ((¬ g < f.token.gen ∧ (g == f.token.gen) = false) ∨ (f.token.gen = g ∧ ¬ p ≤ f.token.hop)) := by
  have h2 : drop (st f true n) g p = st f false n := by
    unfold drop
    rw [if_pos h]
    rfl
  refine ⟨h2, ?_⟩
  simp [drops, st, newer] at h
  rcases h with h | ⟨h, h'⟩
  · exact .inl ⟨by omega, by simp; omega⟩
  · exact .inr ⟨h.symm, by omega⟩
theorem st_sends (f : Fr) (b : Bool) (n : Nat) : sends (st f b n) = st f b (n + if b = true then 1 else 0) := by cases b <;> rfl
theorem st_held (f : Fr) (b : Bool) (n : Nat) : heldF (st f b n) = (if b = true then f else noFr) ∧ isHeld (st f b n) = b := by cases b <;> exact ⟨rfl, rfl⟩
section
variable {PW : Pw} {f : Fr} {W u : World} {q m : Nat}
theorem held_yes (P : Way15 PW) (hm : m ≤ 1000) (hu : Al PW (Fw W) W q (st f true m) u) :
    Calls Try.prog 10 #[.pointer (some ⟨q, 0, none⟩)] u fun e w' => ∃ ps p cs c, e = .returned (.tuple #[frameVal f ps p cs c, .bool true]) ∧ Told (Fw W) w' f ps p ∧ Moved PW (Fw W) W.heap.size u q (st f true (m + 1)) w' :=
  P.held hu.pw hu.below.size hm
theorem held_no (P : Way15 PW) (hm : m ≤ 1000) (hu : Al PW (Fw W) W q (st f false m) u) :
    Calls Try.prog 10 #[.pointer (some ⟨q, 0, none⟩)] u fun e w' => ∃ ps p cs c, e = .returned (.tuple #[frameVal noFr ps p cs c, .bool false]) ∧ Told (Fw W) w' noFr ps p ∧ Moved PW (Fw W) W.heap.size u q (st f false m) w' :=
  P.held hu.pw hu.below.size hm
end
theorem hold_first (f : Fr) : hold r0 f = (st f true 0, 0) ∨ ∃ e, hold r0 f = (r0, e) ∧ (e != 0) = true := by
  unfold hold
  split
  · exact .inl rfl
  · exact .inr ⟨1, rfl, rfl⟩
set_option maxRecDepth 100000 in
set_option maxHeartbeats 8000000 in
theorem same_way {PW : Pw} (P : Way15 PW) (W : World) (f : Fr) (sp fp : Option Addr) (sc fc : Nat) (hf : Lying W f sp fp) (hk : (Lit.int .i64 f.kind).wf = true) (p : Option Addr) (c : Nat) (l : List Ac) (ha : ActsAt W p l) (hn : ∀ a ∈ l, AcNum a) (hl : (l.length : Int) ≤ 9223372036854775807) :
    Calls Try.prog 4 #[frameVal f sp fp sc fc, .slice p l.length c] W fun e w' => e = .returned (.bool true) ∧ Below W.heap.size W w' := by
  have c0 := Lib.hid (fun u => P.new u)
  have cA := Lib.hid (fun u => alive_way P u)
  have HB := Lib.hid (lay W (.cells (cells11 f sp fp sc fc) 41))
  have HZ := Lib.hid (heap_alloc_new W (.cells (cells11 f sp fp sc fc) 41))
  have HX := Lib.hid (fun u (hu : Below (W.alloc (.cells (cells11 f sp fp sc fc) 41)).heap.size (W.alloc (.cells (cells11 f sp fp sc fc) 41)) u) => box11 ((hu.block _ (lt_of_heap HZ.out)).trans HZ.out))
  have HA := Lib.hid (show ActsAt (W.alloc (.cells (cells11 f sp fp sc fc) 41)) p l from ha.below HB.out)
  have cF := Lib.hid (acts_fit (W.alloc (.cells (cells11 f sp fp sc fc) 41)) p c l HA.out hl)
  have HY := Lib.hid (fun u (hu : Below (W.alloc (.cells (cells11 f sp fp sc fc) 41)).heap.size (W.alloc (.cells (cells11 f sp fp sc fc) 41)) u) => lying_on hf (HB.out.trans (hu.mono HB.out.size)))
  have HN := Lib.hid hn
  have HP := Lib.hid P
  simp only [frameVal, cells11] at *
  clear ha hn P hf HZ
  have CF := Lib.hid (fun u hu => fits_any f sp fp sc fc u (HY.out u hu))
  simp only [frameVal] at CF
  have hw : fitsTk f.token = true ∨ fitsTk f.token = false := by cases fitsTk f.token <;> simp
  generalize hft : fitsTk f.token = ft at CF hw
  rcases hw with rfl | rfl
  all_goals
    have HFT := Lib.hid hft
    clear hft
    go_enter Try.func4, Try.ntmps4
    go_wp2_with (first
      | (go_at_call 5; generalize W.alloc _ = W1 at *; (with_reducible refine cF.out.mono ?_); rintro e u0 ⟨b, rfl, hF, hb⟩; have B0 := Lib.hid hb; have FF := Lib.hid hF; obtain ⟨y0, y1, y2, y3, y4, y5, y6, y7, y8, y9, y10⟩ := HX.out _ B0.out; clear hb hF cF; cases b)
      | (go_at_call 14; (with_reducible refine (CF.out _ B0.out).mono ?_); rintro e u1 ⟨rfl, hb⟩; have B1 := Lib.hid (B0.out.trans (hb.mono B0.out.size)); clear hb CF y0 y1 y2 y3 y4 y5 y6 y7 y8 y9 y10)
      | (go_at_call 7; (with_reducible refine (c0.out _).mono ?_); rintro e u2 ⟨q, rfl, h0, hb⟩; have A0 := Lib.hid (show Al PW (Fw u1) u1 q r0 u2 from ⟨h0, hb⟩); have CH := Lib.hid (HP.out.hold h0 hb.size f sp fp sc fc hk (by first | exact HFT.out | exact HFT.out rfl) ((lyF_of (HY.out _ B1.out)).on (Stays.of_base hb hb.size))); simp only [frameVal] at CH; obtain ⟨y0, y1, y2, y3, y4, y5, y6, y7, y8, y9, y10⟩ := HX.out _ (B1.out.trans (hb.mono B1.out.size)); clear h0 hb c0)
      | (go_at_call 11; rcases hold_first f with hh | ⟨e5, hh, hne⟩ <;> rw [hh] at CH <;> (with_reducible refine CH.out.mono ?_) <;> rintro e u3 ⟨rfl, hm⟩ <;> have A1 := Lib.hid (A0.out.own hm) <;> clear hm hh CH A0 y0 y1 y2 y3 y4 y5 y6 y7 y8 y9 y10)
      | (go_at_call 6; (with_reducible refine (cA.out _).mono ?_); rintro e u9 ⟨rfl, hb⟩; have BB := Lib.hid (show Below W.heap.size W u9 from by first | exact HB.out.trans ((B1.out.trans ((A1.out.below.trans (hb.mono A1.out.below.size)).mono B1.out.size)).mono HB.out.size) | exact HB.out.trans ((B1.out.trans (hb.mono B1.out.size)).mono HB.out.size)); clear hb))
  any_goals (go_ret; exact ⟨rfl, BB.out⟩)
  obtain ⟨hl60, hfit⟩ : l.length ≤ 60 ∧ ∀ j, j < l.length → fitsTk (l.getD j zA).f.token = true := by first | exact FF.out rfl | exact FF.out trivial | exact FF.out
  have HF := Lib.hid hfit
  have HLY := Lib.hid (fun (j : Nat) (hj : j < l.length) => (HA.out.at hj))
  have BU := Lib.hid (fun u (hu : Below u1.heap.size u1 u) => B1.out.trans (hu.mono B1.out.size))
  clear FF hfit HA hl HFT
  go_loopw [8, 9] (fun hv iv wr => ∃ (j n : Nat) (hb : Bool), j ≤ l.length ∧ n ≤ j ∧ iv = .int .i64 (j : Int) ∧ hv = .bool hb ∧ Hid (Al PW (Fw u1) u1 q (st f hb n) wr)) (fun _ iv _ => l.length - (intOf iv).toNat)
  case atStart => exact ⟨0, 0, true, by omega, by omega, rfl, rfl, A1⟩
  case round =>
    obtain ⟨j, n, hb, hj, hnj, rfl, rfl, L1⟩ := hrel
    clear A1
    by_cases hlt : j < l.length
    · have hlt' : (j : Int) < (l.length : Int) := by omega
      obtain ⟨b, o, rfl, ps, x, cs, c', h14, hly⟩ := HLY.out j hlt
      obtain ⟨y0, y1, y2, y3, y4, y5, y6, y7, y8, y9, y10, y11, y12, y13⟩ := at14 h14 (BU.out _ L1.out.below)
      have hnum := HN.out (l.getD j zA) (by simp [List.getD, hlt])
      have hfit := HF.out j hlt
      have k0 := hnum.low
      have k1 := hnum.high
      have CA := Lib.hid (fun s u (hu : Al PW (Fw u1) u1 q s u) => HP.out.ack hu.pw hu.below.size (l.getD j zA).f ps x cs c' hnum.kind hfit (lying_on hly (BU.out _ hu.below)))
      have CD := Lib.hid (fun s u (hu : Al PW (Fw u1) u1 q s u) => HP.out.drop hu.pw hu.below.size (l.getD j zA).gen (l.getD j zA).hop hnum.gen hnum.hop)
      have CO := Lib.hid (fun s u (hu : Al PW (Fw u1) u1 q s u) => HP.out.hold hu.pw hu.below.size (l.getD j zA).f ps x cs c' hnum.kind hfit ((lyF_of (lying_on hly B1.out)).on (Stays.of_base hu.below hu.below.size)))
      have CT1 := Lib.hid (fun m u (hm : m ≤ 1000) (hu : Al PW (Fw u1) u1 q (st f true m) u) => held_yes HP.out hm hu)
      have CT0 := Lib.hid (fun m u (hm : m ≤ 1000) (hu : Al PW (Fw u1) u1 q (st f false m) u) => held_no HP.out hm hu)
      have hn60 : n ≤ 60 := by omega
      have hkk := kinds k0
      clear h14 hly hnum hfit HF HLY HN
      generalize l.getD j zA = a at *
      obtain ⟨kind, g, gen, hop⟩ := a
      simp only [frameVal] at *
      have LA := Lib.hid (L1.out.on HP.out (lay wr (.cells #[.int .u8 kind, .int .i64 g.kind, .int .i64 g.src, .int .i64 g.dst, .int .i64 g.gen, .int .i64 g.hop, .int .u64 g.bits, .int .i64 g.token.gen, .int .i64 g.token.hop, .slice ps g.token.stamps.length cs, .int .i64 g.token.table.start, .slice x g.token.table.rows.length c', .int .i64 gen, .int .i64 hop] 43)))
      have KA := Lib.hid (heap_alloc_new wr (.cells #[.int .u8 kind, .int .i64 g.kind, .int .i64 g.src, .int .i64 g.dst, .int .i64 g.gen, .int .i64 g.hop, .int .u64 g.bits, .int .i64 g.token.gen, .int .i64 g.token.hop, .slice ps g.token.stamps.length cs, .int .i64 g.token.table.start, .slice x g.token.table.rows.length c', .int .i64 gen, .int .i64 hop] 43))
      obtain ⟨b0, b1, b2, b3, b4, b5, b6, b7, b8, b9, b10, b11, b12, b13⟩ := box14 KA.out
      have n1000 : n ≤ 1000 := by omega
      rcases hkk with hkk | hkk | hkk | hkk
      · clear CA CD CO
        cases hb
        · rcases hkk with hkk | hkk
          all_goals
            as_aux_lemma =>
              go_wp2_with (first
                | (go_at_call 10; (with_reducible refine (CT0.out n _ n1000 LA.out).mono ?_); rintro e v1 ⟨qs, q1, e1, e2, rfl, ht, hm⟩; have L3 := Lib.hid ((LA.out.own hm).on HP.out (lay v1 (.cells #[.int .i64 noFr.kind, .int .i64 noFr.src, .int .i64 noFr.dst, .int .i64 noFr.gen, .int .i64 noFr.hop, .int .u64 noFr.bits, .int .i64 noFr.token.gen, .int .i64 noFr.token.hop, .slice qs noFr.token.stamps.length e1, .int .i64 noFr.token.table.start, .slice q1 noFr.token.table.rows.length e2] 41))); have CS := same_any noFr f qs q1 sp fp e1 e2 sc fc _ (ht _ (Kept.of_below (lay v1 (.cells #[.int .i64 noFr.kind, .int .i64 noFr.src, .int .i64 noFr.dst, .int .i64 noFr.gen, .int .i64 noFr.hop, .int .u64 noFr.bits, .int .i64 noFr.token.gen, .int .i64 noFr.token.hop, .slice qs noFr.token.stamps.length e1, .int .i64 noFr.token.table.start, .slice q1 noFr.token.table.rows.length e2] 41))) (Stays.below (lay v1 (.cells #[.int .i64 noFr.kind, .int .i64 noFr.src, .int .i64 noFr.dst, .int .i64 noFr.gen, .int .i64 noFr.hop, .int .u64 noFr.bits, .int .i64 noFr.token.gen, .int .i64 noFr.token.hop, .slice qs noFr.token.stamps.length e1, .int .i64 noFr.token.table.start, .slice q1 noFr.token.table.rows.length e2] 41)))) (HY.out _ (BU.out _ L3.out.below)); generalize Frame.sameFrame noFr f = zz at CS; simp only [frameVal] at CS; obtain ⟨f0, f1, f2, f3, f4, f5, f6, f7, f8, f9, f10⟩ := HX.out _ (BU.out _ L3.out.below); obtain ⟨x0, x1, x2, x3, x4, x5, x6, x7, x8, x9, x10⟩ := box11 (f := noFr) (heap_alloc_new v1 (.cells #[.int .i64 noFr.kind, .int .i64 noFr.src, .int .i64 noFr.dst, .int .i64 noFr.gen, .int .i64 noFr.hop, .int .u64 noFr.bits, .int .i64 noFr.token.gen, .int .i64 noFr.token.hop, .slice qs noFr.token.stamps.length e1, .int .i64 noFr.token.table.start, .slice q1 noFr.token.table.rows.length e2] 41)); clear ht hm CT1 CT0)
                | (go_at_call 15; (with_reducible refine CS.mono ?_); rintro e v2 ⟨rfl, hb2⟩; have L4 := Lib.hid (L3.out.on HP.out hb2); clear hb2 CS))
              go_roundw
              case rel => exact ⟨j + 1, n, false, by omega, by omega, by go_num, rfl, L4⟩
              case measure => simp only [intOf]; omega
        · rcases hkk with hkk | hkk
          all_goals
            as_aux_lemma =>
              go_wp2_with (first
                | (go_at_call 10; (with_reducible refine (CT1.out n _ n1000 LA.out).mono ?_); rintro e v1 ⟨qs, q1, e1, e2, rfl, ht, hm⟩; have L3 := Lib.hid ((LA.out.own hm).on HP.out (lay v1 (.cells #[.int .i64 f.kind, .int .i64 f.src, .int .i64 f.dst, .int .i64 f.gen, .int .i64 f.hop, .int .u64 f.bits, .int .i64 f.token.gen, .int .i64 f.token.hop, .slice qs f.token.stamps.length e1, .int .i64 f.token.table.start, .slice q1 f.token.table.rows.length e2] 41))); have CS := same_any f f qs q1 sp fp e1 e2 sc fc _ (ht _ (Kept.of_below (lay v1 (.cells #[.int .i64 f.kind, .int .i64 f.src, .int .i64 f.dst, .int .i64 f.gen, .int .i64 f.hop, .int .u64 f.bits, .int .i64 f.token.gen, .int .i64 f.token.hop, .slice qs f.token.stamps.length e1, .int .i64 f.token.table.start, .slice q1 f.token.table.rows.length e2] 41))) (Stays.below (lay v1 (.cells #[.int .i64 f.kind, .int .i64 f.src, .int .i64 f.dst, .int .i64 f.gen, .int .i64 f.hop, .int .u64 f.bits, .int .i64 f.token.gen, .int .i64 f.token.hop, .slice qs f.token.stamps.length e1, .int .i64 f.token.table.start, .slice q1 f.token.table.rows.length e2] 41)))) (HY.out _ (BU.out _ L3.out.below)); rw [same_frame] at CS; simp only [frameVal] at CS; obtain ⟨f0, f1, f2, f3, f4, f5, f6, f7, f8, f9, f10⟩ := HX.out _ (BU.out _ L3.out.below); obtain ⟨x0, x1, x2, x3, x4, x5, x6, x7, x8, x9, x10⟩ := box11 (f := f) (heap_alloc_new v1 (.cells #[.int .i64 f.kind, .int .i64 f.src, .int .i64 f.dst, .int .i64 f.gen, .int .i64 f.hop, .int .u64 f.bits, .int .i64 f.token.gen, .int .i64 f.token.hop, .slice qs f.token.stamps.length e1, .int .i64 f.token.table.start, .slice q1 f.token.table.rows.length e2] 41)); clear ht hm CT1 CT0)
                | (go_at_call 15; (with_reducible refine CS.mono ?_); rintro e v2 ⟨rfl, hb2⟩; have L4 := Lib.hid (L3.out.on HP.out hb2); clear hb2 CS))
              go_roundw
              case rel => exact ⟨j + 1, n + 1, true, by omega, by omega, by go_num, rfl, L4⟩
              case measure => simp only [intOf]; omega
      · clear CD CO
        cases hb
        · have hA := st_acks f g n
          rcases hkk with hkk | hkk
          all_goals
            as_aux_lemma =>
              go_wp2_with (first
                | (go_at_call 12; have hc := CA.out _ _ LA.out; rw [ack_no hA, hA] at hc; (with_reducible refine hc.mono ?_); rintro e u2 ⟨rfl, hm⟩; have L2 := Lib.hid (LA.out.own hm); obtain ⟨d0, d1, d2, d3, d4, d5, d6, d7, d8, d9, d10, d11, d12, d13⟩ := box14 (hm.off.block _ _ _ _ KA.out (by simp [mine])); obtain ⟨f0, f1, f2, f3, f4, f5, f6, f7, f8, f9, f10⟩ := HX.out _ (BU.out _ L2.out.below); clear hm CA)
                | (go_at_call 10; (with_reducible refine (CT0.out n _ n1000 L2.out).mono ?_); rintro e v1 ⟨qs, q1, e1, e2, rfl, ht, hm⟩; have L3 := Lib.hid ((L2.out.own hm).on HP.out (lay v1 (.cells #[.int .i64 noFr.kind, .int .i64 noFr.src, .int .i64 noFr.dst, .int .i64 noFr.gen, .int .i64 noFr.hop, .int .u64 noFr.bits, .int .i64 noFr.token.gen, .int .i64 noFr.token.hop, .slice qs noFr.token.stamps.length e1, .int .i64 noFr.token.table.start, .slice q1 noFr.token.table.rows.length e2] 41))); have CS := same_any noFr f qs q1 sp fp e1 e2 sc fc _ (ht _ (Kept.of_below (lay v1 (.cells #[.int .i64 noFr.kind, .int .i64 noFr.src, .int .i64 noFr.dst, .int .i64 noFr.gen, .int .i64 noFr.hop, .int .u64 noFr.bits, .int .i64 noFr.token.gen, .int .i64 noFr.token.hop, .slice qs noFr.token.stamps.length e1, .int .i64 noFr.token.table.start, .slice q1 noFr.token.table.rows.length e2] 41))) (Stays.below (lay v1 (.cells #[.int .i64 noFr.kind, .int .i64 noFr.src, .int .i64 noFr.dst, .int .i64 noFr.gen, .int .i64 noFr.hop, .int .u64 noFr.bits, .int .i64 noFr.token.gen, .int .i64 noFr.token.hop, .slice qs noFr.token.stamps.length e1, .int .i64 noFr.token.table.start, .slice q1 noFr.token.table.rows.length e2] 41)))) (HY.out _ (BU.out _ L3.out.below)); generalize Frame.sameFrame noFr f = zz at CS; simp only [frameVal] at CS; obtain ⟨f0, f1, f2, f3, f4, f5, f6, f7, f8, f9, f10⟩ := HX.out _ (BU.out _ L3.out.below); obtain ⟨x0, x1, x2, x3, x4, x5, x6, x7, x8, x9, x10⟩ := box11 (f := noFr) (heap_alloc_new v1 (.cells #[.int .i64 noFr.kind, .int .i64 noFr.src, .int .i64 noFr.dst, .int .i64 noFr.gen, .int .i64 noFr.hop, .int .u64 noFr.bits, .int .i64 noFr.token.gen, .int .i64 noFr.token.hop, .slice qs noFr.token.stamps.length e1, .int .i64 noFr.token.table.start, .slice q1 noFr.token.table.rows.length e2] 41)); clear ht hm CT1 CT0)
                | (go_at_call 15; (with_reducible refine CS.mono ?_); rintro e v2 ⟨rfl, hb2⟩; have L4 := Lib.hid (L3.out.on HP.out hb2); clear hb2 CS))
              go_roundw
              case rel => exact ⟨j + 1, n, false, by omega, by omega, by go_num, rfl, L4⟩
              case measure => simp only [intOf]; omega
        · cases hA : acks (st f true n) g
          · rcases hkk with hkk | hkk
            all_goals
              as_aux_lemma =>
                go_wp2_with (first
                  | (go_at_call 12; have hc := CA.out _ _ LA.out; rw [ack_no hA, hA] at hc; (with_reducible refine hc.mono ?_); rintro e u2 ⟨rfl, hm⟩; have L2 := Lib.hid (LA.out.own hm); obtain ⟨d0, d1, d2, d3, d4, d5, d6, d7, d8, d9, d10, d11, d12, d13⟩ := box14 (hm.off.block _ _ _ _ KA.out (by simp [mine])); obtain ⟨f0, f1, f2, f3, f4, f5, f6, f7, f8, f9, f10⟩ := HX.out _ (BU.out _ L2.out.below); clear hm CA)
                  | (go_at_call 10; (with_reducible refine (CT1.out n _ n1000 L2.out).mono ?_); rintro e v1 ⟨qs, q1, e1, e2, rfl, ht, hm⟩; have L3 := Lib.hid ((L2.out.own hm).on HP.out (lay v1 (.cells #[.int .i64 f.kind, .int .i64 f.src, .int .i64 f.dst, .int .i64 f.gen, .int .i64 f.hop, .int .u64 f.bits, .int .i64 f.token.gen, .int .i64 f.token.hop, .slice qs f.token.stamps.length e1, .int .i64 f.token.table.start, .slice q1 f.token.table.rows.length e2] 41))); have CS := same_any f f qs q1 sp fp e1 e2 sc fc _ (ht _ (Kept.of_below (lay v1 (.cells #[.int .i64 f.kind, .int .i64 f.src, .int .i64 f.dst, .int .i64 f.gen, .int .i64 f.hop, .int .u64 f.bits, .int .i64 f.token.gen, .int .i64 f.token.hop, .slice qs f.token.stamps.length e1, .int .i64 f.token.table.start, .slice q1 f.token.table.rows.length e2] 41))) (Stays.below (lay v1 (.cells #[.int .i64 f.kind, .int .i64 f.src, .int .i64 f.dst, .int .i64 f.gen, .int .i64 f.hop, .int .u64 f.bits, .int .i64 f.token.gen, .int .i64 f.token.hop, .slice qs f.token.stamps.length e1, .int .i64 f.token.table.start, .slice q1 f.token.table.rows.length e2] 41)))) (HY.out _ (BU.out _ L3.out.below)); rw [same_frame] at CS; simp only [frameVal] at CS; obtain ⟨f0, f1, f2, f3, f4, f5, f6, f7, f8, f9, f10⟩ := HX.out _ (BU.out _ L3.out.below); obtain ⟨x0, x1, x2, x3, x4, x5, x6, x7, x8, x9, x10⟩ := box11 (f := f) (heap_alloc_new v1 (.cells #[.int .i64 f.kind, .int .i64 f.src, .int .i64 f.dst, .int .i64 f.gen, .int .i64 f.hop, .int .u64 f.bits, .int .i64 f.token.gen, .int .i64 f.token.hop, .slice qs f.token.stamps.length e1, .int .i64 f.token.table.start, .slice q1 f.token.table.rows.length e2] 41)); clear ht hm CT1 CT0)
                  | (go_at_call 15; (with_reducible refine CS.mono ?_); rintro e v2 ⟨rfl, hb2⟩; have L4 := Lib.hid (L3.out.on HP.out hb2); clear hb2 CS))
                go_roundw
                case rel => exact ⟨j + 1, n + 1, true, by omega, by omega, by go_num, rfl, L4⟩
                case measure => simp only [intOf]; omega
          · obtain ⟨t1, t2, t3, t4, t5⟩ := ack_yes hA
            have g1 : (g.src != f.dst) = false := by simp [t1]
            have g2 : (g.dst != f.src) = false := by simp [t2]
            have g3 : (g.gen != f.token.gen) = false := by simp [t3]
            have g4 : (g.hop != f.token.hop) = false := by simp [t4]
            have T5 := Lib.hid t5
            have HA1 := Lib.hid hA
            clear t1 t2 t3 t4 t5 hA
            rcases hkk with hkk | hkk
            all_goals
              as_aux_lemma =>
                go_wp2_with (first
                  | (go_at_call 12; have hc := CA.out _ _ LA.out; rw [T5.out, HA1.out] at hc; (with_reducible refine hc.mono ?_); rintro e u2 ⟨rfl, hm⟩; have L2 := Lib.hid (LA.out.own hm); obtain ⟨d0, d1, d2, d3, d4, d5, d6, d7, d8, d9, d10, d11, d12, d13⟩ := box14 (hm.off.block _ _ _ _ KA.out (by simp [mine])); obtain ⟨f0, f1, f2, f3, f4, f5, f6, f7, f8, f9, f10⟩ := HX.out _ (BU.out _ L2.out.below); clear hm CA)
                  | (go_at_call 10; (with_reducible refine (CT0.out n _ n1000 L2.out).mono ?_); rintro e v1 ⟨qs, q1, e1, e2, rfl, ht, hm⟩; have L3 := Lib.hid ((L2.out.own hm).on HP.out (lay v1 (.cells #[.int .i64 noFr.kind, .int .i64 noFr.src, .int .i64 noFr.dst, .int .i64 noFr.gen, .int .i64 noFr.hop, .int .u64 noFr.bits, .int .i64 noFr.token.gen, .int .i64 noFr.token.hop, .slice qs noFr.token.stamps.length e1, .int .i64 noFr.token.table.start, .slice q1 noFr.token.table.rows.length e2] 41))); have CS := same_any noFr f qs q1 sp fp e1 e2 sc fc _ (ht _ (Kept.of_below (lay v1 (.cells #[.int .i64 noFr.kind, .int .i64 noFr.src, .int .i64 noFr.dst, .int .i64 noFr.gen, .int .i64 noFr.hop, .int .u64 noFr.bits, .int .i64 noFr.token.gen, .int .i64 noFr.token.hop, .slice qs noFr.token.stamps.length e1, .int .i64 noFr.token.table.start, .slice q1 noFr.token.table.rows.length e2] 41))) (Stays.below (lay v1 (.cells #[.int .i64 noFr.kind, .int .i64 noFr.src, .int .i64 noFr.dst, .int .i64 noFr.gen, .int .i64 noFr.hop, .int .u64 noFr.bits, .int .i64 noFr.token.gen, .int .i64 noFr.token.hop, .slice qs noFr.token.stamps.length e1, .int .i64 noFr.token.table.start, .slice q1 noFr.token.table.rows.length e2] 41)))) (HY.out _ (BU.out _ L3.out.below)); generalize Frame.sameFrame noFr f = zz at CS; simp only [frameVal] at CS; obtain ⟨f0, f1, f2, f3, f4, f5, f6, f7, f8, f9, f10⟩ := HX.out _ (BU.out _ L3.out.below); obtain ⟨x0, x1, x2, x3, x4, x5, x6, x7, x8, x9, x10⟩ := box11 (f := noFr) (heap_alloc_new v1 (.cells #[.int .i64 noFr.kind, .int .i64 noFr.src, .int .i64 noFr.dst, .int .i64 noFr.gen, .int .i64 noFr.hop, .int .u64 noFr.bits, .int .i64 noFr.token.gen, .int .i64 noFr.token.hop, .slice qs noFr.token.stamps.length e1, .int .i64 noFr.token.table.start, .slice q1 noFr.token.table.rows.length e2] 41)); clear ht hm CT1 CT0)
                  | (go_at_call 15; (with_reducible refine CS.mono ?_); rintro e v2 ⟨rfl, hb2⟩; have L4 := Lib.hid (L3.out.on HP.out hb2); clear hb2 CS))
                go_roundw
                case rel => exact ⟨j + 1, n, false, by omega, by omega, by go_num, rfl, L4⟩
                case measure => simp only [intOf]; omega
      · clear CA CO
        cases hb
        · have hA := st_drops f n gen hop
          as_aux_lemma =>
            go_wp2_with (first
              | (go_at_call 13; have hc := CD.out _ _ LA.out; rw [drop_no hA, hA] at hc; (with_reducible refine hc.mono ?_); rintro e u2 ⟨rfl, hm⟩; have L2 := Lib.hid (LA.out.own hm); obtain ⟨d0, d1, d2, d3, d4, d5, d6, d7, d8, d9, d10, d11, d12, d13⟩ := box14 (hm.off.block _ _ _ _ KA.out (by simp [mine])); obtain ⟨f0, f1, f2, f3, f4, f5, f6, f7, f8, f9, f10⟩ := HX.out _ (BU.out _ L2.out.below); clear hm CD)
              | (go_at_call 10; (with_reducible refine (CT0.out n _ n1000 L2.out).mono ?_); rintro e v1 ⟨qs, q1, e1, e2, rfl, ht, hm⟩; have L3 := Lib.hid ((L2.out.own hm).on HP.out (lay v1 (.cells #[.int .i64 noFr.kind, .int .i64 noFr.src, .int .i64 noFr.dst, .int .i64 noFr.gen, .int .i64 noFr.hop, .int .u64 noFr.bits, .int .i64 noFr.token.gen, .int .i64 noFr.token.hop, .slice qs noFr.token.stamps.length e1, .int .i64 noFr.token.table.start, .slice q1 noFr.token.table.rows.length e2] 41))); have CS := same_any noFr f qs q1 sp fp e1 e2 sc fc _ (ht _ (Kept.of_below (lay v1 (.cells #[.int .i64 noFr.kind, .int .i64 noFr.src, .int .i64 noFr.dst, .int .i64 noFr.gen, .int .i64 noFr.hop, .int .u64 noFr.bits, .int .i64 noFr.token.gen, .int .i64 noFr.token.hop, .slice qs noFr.token.stamps.length e1, .int .i64 noFr.token.table.start, .slice q1 noFr.token.table.rows.length e2] 41))) (Stays.below (lay v1 (.cells #[.int .i64 noFr.kind, .int .i64 noFr.src, .int .i64 noFr.dst, .int .i64 noFr.gen, .int .i64 noFr.hop, .int .u64 noFr.bits, .int .i64 noFr.token.gen, .int .i64 noFr.token.hop, .slice qs noFr.token.stamps.length e1, .int .i64 noFr.token.table.start, .slice q1 noFr.token.table.rows.length e2] 41)))) (HY.out _ (BU.out _ L3.out.below)); generalize Frame.sameFrame noFr f = zz at CS; simp only [frameVal] at CS; obtain ⟨f0, f1, f2, f3, f4, f5, f6, f7, f8, f9, f10⟩ := HX.out _ (BU.out _ L3.out.below); obtain ⟨x0, x1, x2, x3, x4, x5, x6, x7, x8, x9, x10⟩ := box11 (f := noFr) (heap_alloc_new v1 (.cells #[.int .i64 noFr.kind, .int .i64 noFr.src, .int .i64 noFr.dst, .int .i64 noFr.gen, .int .i64 noFr.hop, .int .u64 noFr.bits, .int .i64 noFr.token.gen, .int .i64 noFr.token.hop, .slice qs noFr.token.stamps.length e1, .int .i64 noFr.token.table.start, .slice q1 noFr.token.table.rows.length e2] 41)); clear ht hm CT1 CT0)
              | (go_at_call 15; (with_reducible refine CS.mono ?_); rintro e v2 ⟨rfl, hb2⟩; have L4 := Lib.hid (L3.out.on HP.out hb2); clear hb2 CS))
            go_roundw
            case rel => exact ⟨j + 1, n, false, by omega, by omega, by go_num, rfl, L4⟩
            case measure => simp only [intOf]; omega
        · cases hA : drops (st f true n) gen hop
          · as_aux_lemma =>
              go_wp2_with (first
                | (go_at_call 13; have hc := CD.out _ _ LA.out; rw [drop_no hA, hA] at hc; (with_reducible refine hc.mono ?_); rintro e u2 ⟨rfl, hm⟩; have L2 := Lib.hid (LA.out.own hm); obtain ⟨d0, d1, d2, d3, d4, d5, d6, d7, d8, d9, d10, d11, d12, d13⟩ := box14 (hm.off.block _ _ _ _ KA.out (by simp [mine])); obtain ⟨f0, f1, f2, f3, f4, f5, f6, f7, f8, f9, f10⟩ := HX.out _ (BU.out _ L2.out.below); clear hm CD)
                | (go_at_call 10; (with_reducible refine (CT1.out n _ n1000 L2.out).mono ?_); rintro e v1 ⟨qs, q1, e1, e2, rfl, ht, hm⟩; have L3 := Lib.hid ((L2.out.own hm).on HP.out (lay v1 (.cells #[.int .i64 f.kind, .int .i64 f.src, .int .i64 f.dst, .int .i64 f.gen, .int .i64 f.hop, .int .u64 f.bits, .int .i64 f.token.gen, .int .i64 f.token.hop, .slice qs f.token.stamps.length e1, .int .i64 f.token.table.start, .slice q1 f.token.table.rows.length e2] 41))); have CS := same_any f f qs q1 sp fp e1 e2 sc fc _ (ht _ (Kept.of_below (lay v1 (.cells #[.int .i64 f.kind, .int .i64 f.src, .int .i64 f.dst, .int .i64 f.gen, .int .i64 f.hop, .int .u64 f.bits, .int .i64 f.token.gen, .int .i64 f.token.hop, .slice qs f.token.stamps.length e1, .int .i64 f.token.table.start, .slice q1 f.token.table.rows.length e2] 41))) (Stays.below (lay v1 (.cells #[.int .i64 f.kind, .int .i64 f.src, .int .i64 f.dst, .int .i64 f.gen, .int .i64 f.hop, .int .u64 f.bits, .int .i64 f.token.gen, .int .i64 f.token.hop, .slice qs f.token.stamps.length e1, .int .i64 f.token.table.start, .slice q1 f.token.table.rows.length e2] 41)))) (HY.out _ (BU.out _ L3.out.below)); rw [same_frame] at CS; simp only [frameVal] at CS; obtain ⟨f0, f1, f2, f3, f4, f5, f6, f7, f8, f9, f10⟩ := HX.out _ (BU.out _ L3.out.below); obtain ⟨x0, x1, x2, x3, x4, x5, x6, x7, x8, x9, x10⟩ := box11 (f := f) (heap_alloc_new v1 (.cells #[.int .i64 f.kind, .int .i64 f.src, .int .i64 f.dst, .int .i64 f.gen, .int .i64 f.hop, .int .u64 f.bits, .int .i64 f.token.gen, .int .i64 f.token.hop, .slice qs f.token.stamps.length e1, .int .i64 f.token.table.start, .slice q1 f.token.table.rows.length e2] 41)); clear ht hm CT1 CT0)
                | (go_at_call 15; (with_reducible refine CS.mono ?_); rintro e v2 ⟨rfl, hb2⟩; have L4 := Lib.hid (L3.out.on HP.out hb2); clear hb2 CS))
              go_roundw
              case rel => exact ⟨j + 1, n + 1, true, by omega, by omega, by go_num, rfl, L4⟩
              case measure => simp only [intOf]; omega
          · obtain ⟨t5, ht⟩ := drop_yes hA
            have T5 := Lib.hid t5
            have HA1 := Lib.hid hA
            clear t5 hA
            rcases ht with ⟨g1, g2⟩ | ⟨g1, g2⟩
            · as_aux_lemma =>
                go_wp2_with (first
                  | (go_at_call 13; have hc := CD.out _ _ LA.out; rw [T5.out, HA1.out] at hc; (with_reducible refine hc.mono ?_); rintro e u2 ⟨rfl, hm⟩; have L2 := Lib.hid (LA.out.own hm); obtain ⟨d0, d1, d2, d3, d4, d5, d6, d7, d8, d9, d10, d11, d12, d13⟩ := box14 (hm.off.block _ _ _ _ KA.out (by simp [mine])); obtain ⟨f0, f1, f2, f3, f4, f5, f6, f7, f8, f9, f10⟩ := HX.out _ (BU.out _ L2.out.below); clear hm CD)
                  | (go_at_call 10; (with_reducible refine (CT0.out n _ n1000 L2.out).mono ?_); rintro e v1 ⟨qs, q1, e1, e2, rfl, ht, hm⟩; have L3 := Lib.hid ((L2.out.own hm).on HP.out (lay v1 (.cells #[.int .i64 noFr.kind, .int .i64 noFr.src, .int .i64 noFr.dst, .int .i64 noFr.gen, .int .i64 noFr.hop, .int .u64 noFr.bits, .int .i64 noFr.token.gen, .int .i64 noFr.token.hop, .slice qs noFr.token.stamps.length e1, .int .i64 noFr.token.table.start, .slice q1 noFr.token.table.rows.length e2] 41))); have CS := same_any noFr f qs q1 sp fp e1 e2 sc fc _ (ht _ (Kept.of_below (lay v1 (.cells #[.int .i64 noFr.kind, .int .i64 noFr.src, .int .i64 noFr.dst, .int .i64 noFr.gen, .int .i64 noFr.hop, .int .u64 noFr.bits, .int .i64 noFr.token.gen, .int .i64 noFr.token.hop, .slice qs noFr.token.stamps.length e1, .int .i64 noFr.token.table.start, .slice q1 noFr.token.table.rows.length e2] 41))) (Stays.below (lay v1 (.cells #[.int .i64 noFr.kind, .int .i64 noFr.src, .int .i64 noFr.dst, .int .i64 noFr.gen, .int .i64 noFr.hop, .int .u64 noFr.bits, .int .i64 noFr.token.gen, .int .i64 noFr.token.hop, .slice qs noFr.token.stamps.length e1, .int .i64 noFr.token.table.start, .slice q1 noFr.token.table.rows.length e2] 41)))) (HY.out _ (BU.out _ L3.out.below)); generalize Frame.sameFrame noFr f = zz at CS; simp only [frameVal] at CS; obtain ⟨f0, f1, f2, f3, f4, f5, f6, f7, f8, f9, f10⟩ := HX.out _ (BU.out _ L3.out.below); obtain ⟨x0, x1, x2, x3, x4, x5, x6, x7, x8, x9, x10⟩ := box11 (f := noFr) (heap_alloc_new v1 (.cells #[.int .i64 noFr.kind, .int .i64 noFr.src, .int .i64 noFr.dst, .int .i64 noFr.gen, .int .i64 noFr.hop, .int .u64 noFr.bits, .int .i64 noFr.token.gen, .int .i64 noFr.token.hop, .slice qs noFr.token.stamps.length e1, .int .i64 noFr.token.table.start, .slice q1 noFr.token.table.rows.length e2] 41)); clear ht hm CT1 CT0)
                  | (go_at_call 15; (with_reducible refine CS.mono ?_); rintro e v2 ⟨rfl, hb2⟩; have L4 := Lib.hid (L3.out.on HP.out hb2); clear hb2 CS))
                go_roundw
                case rel => exact ⟨j + 1, n, false, by omega, by omega, by go_num, rfl, L4⟩
                case measure => simp only [intOf]; omega
            · have g3 : ¬ gen < f.token.gen := by omega
              have g4 : (gen == f.token.gen) = true := by simp [g1]
              clear g1
              as_aux_lemma =>
                go_wp2_with (first
                  | (go_at_call 13; have hc := CD.out _ _ LA.out; rw [T5.out, HA1.out] at hc; (with_reducible refine hc.mono ?_); rintro e u2 ⟨rfl, hm⟩; have L2 := Lib.hid (LA.out.own hm); obtain ⟨d0, d1, d2, d3, d4, d5, d6, d7, d8, d9, d10, d11, d12, d13⟩ := box14 (hm.off.block _ _ _ _ KA.out (by simp [mine])); obtain ⟨f0, f1, f2, f3, f4, f5, f6, f7, f8, f9, f10⟩ := HX.out _ (BU.out _ L2.out.below); clear hm CD)
                  | (go_at_call 10; (with_reducible refine (CT0.out n _ n1000 L2.out).mono ?_); rintro e v1 ⟨qs, q1, e1, e2, rfl, ht, hm⟩; have L3 := Lib.hid ((L2.out.own hm).on HP.out (lay v1 (.cells #[.int .i64 noFr.kind, .int .i64 noFr.src, .int .i64 noFr.dst, .int .i64 noFr.gen, .int .i64 noFr.hop, .int .u64 noFr.bits, .int .i64 noFr.token.gen, .int .i64 noFr.token.hop, .slice qs noFr.token.stamps.length e1, .int .i64 noFr.token.table.start, .slice q1 noFr.token.table.rows.length e2] 41))); have CS := same_any noFr f qs q1 sp fp e1 e2 sc fc _ (ht _ (Kept.of_below (lay v1 (.cells #[.int .i64 noFr.kind, .int .i64 noFr.src, .int .i64 noFr.dst, .int .i64 noFr.gen, .int .i64 noFr.hop, .int .u64 noFr.bits, .int .i64 noFr.token.gen, .int .i64 noFr.token.hop, .slice qs noFr.token.stamps.length e1, .int .i64 noFr.token.table.start, .slice q1 noFr.token.table.rows.length e2] 41))) (Stays.below (lay v1 (.cells #[.int .i64 noFr.kind, .int .i64 noFr.src, .int .i64 noFr.dst, .int .i64 noFr.gen, .int .i64 noFr.hop, .int .u64 noFr.bits, .int .i64 noFr.token.gen, .int .i64 noFr.token.hop, .slice qs noFr.token.stamps.length e1, .int .i64 noFr.token.table.start, .slice q1 noFr.token.table.rows.length e2] 41)))) (HY.out _ (BU.out _ L3.out.below)); generalize Frame.sameFrame noFr f = zz at CS; simp only [frameVal] at CS; obtain ⟨f0, f1, f2, f3, f4, f5, f6, f7, f8, f9, f10⟩ := HX.out _ (BU.out _ L3.out.below); obtain ⟨x0, x1, x2, x3, x4, x5, x6, x7, x8, x9, x10⟩ := box11 (f := noFr) (heap_alloc_new v1 (.cells #[.int .i64 noFr.kind, .int .i64 noFr.src, .int .i64 noFr.dst, .int .i64 noFr.gen, .int .i64 noFr.hop, .int .u64 noFr.bits, .int .i64 noFr.token.gen, .int .i64 noFr.token.hop, .slice qs noFr.token.stamps.length e1, .int .i64 noFr.token.table.start, .slice q1 noFr.token.table.rows.length e2] 41)); clear ht hm CT1 CT0)
                  | (go_at_call 15; (with_reducible refine CS.mono ?_); rintro e v2 ⟨rfl, hb2⟩; have L4 := Lib.hid (L3.out.on HP.out hb2); clear hb2 CS))
                go_roundw
                case rel => exact ⟨j + 1, n, false, by omega, by omega, by go_num, rfl, L4⟩
                case measure => simp only [intOf]; omega
      · clear CA CD
        cases hb
        · rcases hkk with hkk | hkk
          all_goals
            as_aux_lemma =>
              go_wp2
              exact ⟨⟨j + 1, n, false, by omega, by omega, by go_num, rfl, LA⟩, by simp only [intOf]; omega⟩
        · obtain ⟨e5, he, hz⟩ := st_hold f g n
          rcases hkk with hkk | hkk
          all_goals
            as_aux_lemma =>
              go_wp2_with (first
                | (go_at_call 11; have hc := CO.out _ _ LA.out; rw [he] at hc; (with_reducible refine hc.mono ?_); rintro e u2 ⟨rfl, hm⟩; have L2 := Lib.hid (LA.out.own hm); clear hm CO))
              exact ⟨⟨j + 1, n, true, by omega, by omega, by go_num, rfl, L2⟩, by simp only [intOf]; omega⟩
    · have hlt' : ¬ (j : Int) < (l.length : Int) := by omega
      have B2 := Lib.hid (HB.out.trans ((BU.out _ L1.out.below).mono HB.out.size))
      go_wp2_with (go_at_call 6; (with_reducible refine (cA.out _).mono ?_); rintro e u9 ⟨rfl, hb2⟩; have B3 := Lib.hid (B2.out.trans (hb2.mono B2.out.size)); clear hb2)
      go_ret
      exact ⟨rfl, B3.out⟩
end Go.Proofs.Ytkdjhphakopfeaa.Relay
