/-
  Both relays, while acts are done; an act on both (annonalaw15's step).
-/
import Derived.Test.YtkdjhphakopfeaaRelayWay
import Derived.Test.YtkdjhphakopfeaaRelayRef2
namespace Go.Proofs.Ytkdjhphakopfeaa.Relay
open Go.RowKit
open _root_.Go.Proofs.Ytkdjhphakopfeaa.Codec (lt_of_heap frozen_of heap_set below_new Ints)
open _root_.Go.Proofs.Ytkdjhphakopfeaa.Frame (same_any Fr Tk Tb Rw frameOk Lying frameVal fitsTk sameFrame allTo Asked)
open _root_.Go.Proofs.Ytkdjhphakopfeaa.Kit (Kept Off cell_on)

theorem same_frame (f : Fr) : sameFrame f f = true := by
  have hi : ∀ l : List Int, Frame.sameInts l l = true := fun l => by
    unfold Frame.sameInts
    rw [beq_self_eq_true, Bool.true_and]
    exact Frame.allTo_true fun j _ => by simp
  have hr : ∀ r : Rw, Frame.sameRow r r = true := fun r => by
    unfold Frame.sameRow Frame.sameLeases
    simp only [beq_self_eq_true, Bool.true_and]
    exact Frame.allTo_true fun j _ => by simp [Frame.samePair]
  have ht : ∀ t : Tb, Frame.sameTable t t = true := fun t => by
    unfold Frame.sameTable
    simp only [beq_self_eq_true, Bool.true_and]
    exact Frame.allTo_true fun j _ => hr _
  simp [sameFrame, Frame.sameToken, hi, ht]
theorem RStep.kept {F : Nat → Prop} {B v : Nat} {w w' : World} {r r' : Rl} (h : Rd F B w v r) (hs : RStep F B w v r' w') : Kept [30] w w' := by
  refine ⟨hs.size, fun g o e hne => ?_⟩
  by_cases hg : g = v
  · subst hg
    obtain ⟨_, y, h1, _⟩ := h
    rw [e] at h1
    exact absurd (by simp) (hne _ _ _ (Option.some.inj h1))
  · exact (hs.only g hg (lt_of_heap e)).trans e
theorem RStep.stays {F : Nat → Prop} {B v : Nat} {w w' : World} {r : Rl} (hv : ¬ F v) (hs : RStep F B w v r w') : Stays F w w' := ⟨hs.size, fun g hF hg => hs.only g (fun e => hv (e ▸ hF)) hg⟩
theorem off_mine {w w' : World} (h : Off mine w w') : Off [30, 41] w w' := by
  refine ⟨h.size, fun g cs t z e ht => h.block g cs t z e ?_⟩
  simp only [List.mem_cons, List.not_mem_nil, or_false] at ht
  rcases ht with rfl | rfl <;> simp [mine]
/-- What was there when the law began. -/
abbrev Fw (W : World) : Nat → Prop := fun g => g < W.heap.size
/-- Both relays. -/
structure Rst (PW : Pw) (W : World) (q v : Nat) (s t : Rl) (u : World) : Prop where
  pw : PW (Fw W) W.heap.size u q s
  rd : Rd (Fw W) W.heap.size u v t
  below : Below W.heap.size W u
section
variable {PW : Pw} {W u u' : World} {q v : Nat} {s t s' t' : Rl}
theorem Rst.free (h : Rst PW W q v s t u) : ¬ Fw W v := by
  have := h.rd.1
  simp only [Fw]
  omega
theorem Rst.on (P : Way15 PW) (h : Rst PW W q v s t u) (hb : Below u.heap.size u u') : Rst PW W q v s t u' := ⟨P.below h.pw hb, h.rd.below hb, h.below.trans (hb.mono h.below.size)⟩
theorem Rst.own (h : Rst PW W q v s t u) (hm : Moved PW (Fw W) W.heap.size u q s' u') : Rst PW W q v s' t u' :=
  ⟨hm.pw, h.rd.off (off_mine hm.off) hm.rest, h.below.trans hm.below⟩
theorem Rst.ref (P : Way15 PW) (h : Rst PW W q v s t u) (hs : RStep (Fw W) W.heap.size u v t' u') : Rst PW W q v s t' u' :=
  ⟨P.kept h.pw (RStep.kept h.rd hs) (RStep.stays h.free hs) hs.below, hs.rd, h.below.trans hs.below⟩
theorem Rst.lists (h : Rst PW W q v s t u) {f : Fr} {ps p : Option Addr} (hl : Lying W f ps p) : LyF (Fw W) u f ps p := (lyF_of hl).on (Stays.of_base h.below h.below.size)
end
def actVal (a : Ac) (ps p : Option Addr) (cs c : Nat) : Value := .agg #[.int .u8 a.kind, .int .i64 a.f.kind, .int .i64 a.f.src, .int .i64 a.f.dst, .int .i64 a.f.gen, .int .i64 a.f.hop, .int .u64 a.f.bits, .int .i64 a.f.token.gen, .int .i64 a.f.token.hop, .slice ps a.f.token.stamps.length cs, .int .i64 a.f.token.table.start, .slice p a.f.token.table.rows.length c, .int .i64 a.gen, .int .i64 a.hop]
structure AcNum (a : Ac) : Prop where
  low : 0 ≤ a.kind
  high : a.kind ≤ 255
  kind : (Lit.int .i64 a.f.kind).wf = true
  gen : Num a.gen
  hop : Num a.hop
theorem kinds {k : Int} (_ : 0 ≤ k) : (k % 7 = 2 ∨ k % 7 = 3) ∨ (k % 7 = 4 ∨ k % 7 = 5) ∨ k % 7 = 6 ∨ (k % 7 = 0 ∨ k % 7 = 1) := by omega
theorem box14 {w : World} {b : Nat} {v0 v1 v2 v3 v4 v5 v6 v7 v8 v9 v10 v11 v12 v13 : Value} {T : TypeId} (h : w.heap[b]? = some (.cells #[v0, v1, v2, v3, v4, v5, v6, v7, v8, v9, v10, v11, v12, v13] T (0, 0))) :
    w.cell? ⟨b, 0, none⟩ = some v0 ∧ w.cell? ⟨b, 1, none⟩ = some v1 ∧ w.cell? ⟨b, 2, none⟩ = some v2 ∧ w.cell? ⟨b, 3, none⟩ = some v3 ∧ w.cell? ⟨b, 4, none⟩ = some v4 ∧ w.cell? ⟨b, 5, none⟩ = some v5 ∧ w.cell? ⟨b, 6, none⟩ = some v6 ∧ w.cell? ⟨b, 7, none⟩ = some v7 ∧ w.cell? ⟨b, 8, none⟩ = some v8 ∧ w.cell? ⟨b, 9, none⟩ = some v9 ∧ w.cell? ⟨b, 10, none⟩ = some v10 ∧ w.cell? ⟨b, 11, none⟩ = some v11 ∧ w.cell? ⟨b, 12, none⟩ = some v12 ∧ w.cell? ⟨b, 13, none⟩ = some v13 := by
  have hc : ∀ i v, (#[v0, v1, v2, v3, v4, v5, v6, v7, v8, v9, v10, v11, v12, v13] : Array Value)[i]? = some v → w.cell? ⟨b, i, none⟩ = some v := fun i v hv => by rw [cell_of_row w b i _ _ (0, 0) h, hv]
  exact ⟨hc 0 _ rfl, hc 1 _ rfl, hc 2 _ rfl, hc 3 _ rfl, hc 4 _ rfl, hc 5 _ rfl, hc 6 _ rfl, hc 7 _ rfl, hc 8 _ rfl, hc 9 _ rfl, hc 10 _ rfl, hc 11 _ rfl, hc 12 _ rfl, hc 13 _ rfl⟩
theorem act2 {r : Rl} {a : Ac} (h : a.kind % 7 = 2 ∨ a.kind % 7 = 3) : actOf r a = sends r := if_pos h
theorem act4 {r : Rl} {a : Ac} (h : a.kind % 7 = 4 ∨ a.kind % 7 = 5) : actOf r a = ack r a.f := (if_neg (by omega)).trans (if_pos h)
theorem act6 {r : Rl} {a : Ac} (h : a.kind % 7 = 6) : actOf r a = drop r a.gen a.hop := (if_neg (by omega)).trans ((if_neg (by omega)).trans (if_pos h))
theorem act0 {r : Rl} {a : Ac} (h : a.kind % 7 = 0 ∨ a.kind % 7 = 1) : actOf r a = (hold r a.f).1 := (if_neg (by omega)).trans ((if_neg (by omega)).trans (if_neg (by omega)))
set_option maxRecDepth 100000 in
set_option maxHeartbeats 8000000 in
theorem step_way {PW : Pw} (P : Way15 PW) {W w : World} {q v : Nat} {s : Rl} (h : Rst PW W q v s s w) (hn : s.sent ≤ 500) (a : Ac) (ha : AcNum a) (hf : fitsTk a.f.token = true) (ps p : Option Addr) (cs c : Nat) (hl : Lying W a.f ps p) :
    Calls Try.prog 8 #[.pointer (some ⟨q, 0, none⟩), .pointer (some ⟨v, 0, none⟩), actVal a ps p cs c] w fun e w' => e = .returned (.bool true) ∧ Rst PW W q v (actOf s a) (actOf s a) w' := by
  have HS := Lib.hid (fun u (hu : Below w.heap.size w u) => h.on P hu)
  have hk := kinds ha.low
  have A2 := Lib.hid (act2 (r := s) (a := a))
  have A4 := Lib.hid (act4 (r := s) (a := a))
  have A6 := Lib.hid (act6 (r := s) (a := a))
  have A0 := Lib.hid (act0 (r := s) (a := a))
  have C2 := Lib.hid (fun u (hu : Rst PW W q v s s u) => P.held hu.pw hu.below.size (by omega))
  have D2 := Lib.hid (fun u s' (hu : Rst PW W q v s' s u) => rheld_any hu.rd hu.free hu.below.size (by omega))
  have C4 := Lib.hid (fun u (hu : Rst PW W q v s s u) => P.ack hu.pw hu.below.size a.f ps p cs c ha.kind hf (hu.lists hl).now)
  have D4 := Lib.hid (fun u s' (hu : Rst PW W q v s' s u) => rack_any hu.rd hu.below.size a.f ps p cs c (hu.lists hl).now)
  have C6 := Lib.hid (fun u (hu : Rst PW W q v s s u) => P.drop hu.pw hu.below.size a.gen a.hop ha.gen ha.hop)
  have D6 := Lib.hid (fun u s' (hu : Rst PW W q v s' s u) => rdrop_any hu.rd hu.below.size a.gen a.hop)
  have C0 := Lib.hid (fun u (hu : Rst PW W q v s s u) => P.hold hu.pw hu.below.size a.f ps p cs c ha.kind hf (hu.lists hl))
  have D0 := Lib.hid (fun u s' (hu : Rst PW W q v s' s u) => rhold_any hu.rd hu.free hu.below.size a.f ps p cs c (hu.lists hl))
  have HP := Lib.hid P
  have k0 := ha.low
  have k1 := ha.high
  generalize actOf s a = R at *
  obtain ⟨kind, f, gen, hop⟩ := a
  simp only [actVal, frameVal] at *
  obtain ⟨b0, b1, b2, b3, b4, b5, b6, b7, b8, b9, b10, b11, b12, b13⟩ := box14 (heap_alloc_new w (.cells #[.int .u8 kind, .int .i64 f.kind, .int .i64 f.src, .int .i64 f.dst, .int .i64 f.gen, .int .i64 f.hop, .int .u64 f.bits, .int .i64 f.token.gen, .int .i64 f.token.hop, .slice ps f.token.stamps.length cs, .int .i64 f.token.table.start, .slice p f.token.table.rows.length c, .int .i64 gen, .int .i64 hop] 43))
  have HK := Lib.hid (heap_alloc_new w (.cells #[.int .u8 kind, .int .i64 f.kind, .int .i64 f.src, .int .i64 f.dst, .int .i64 f.gen, .int .i64 f.hop, .int .u64 f.bits, .int .i64 f.token.gen, .int .i64 f.token.hop, .slice ps f.token.stamps.length cs, .int .i64 f.token.table.start, .slice p f.token.table.rows.length c, .int .i64 gen, .int .i64 hop] 43))
  have L0 := Lib.hid (HS.out _ (lay w (.cells #[.int .u8 kind, .int .i64 f.kind, .int .i64 f.src, .int .i64 f.dst, .int .i64 f.gen, .int .i64 f.hop, .int .u64 f.bits, .int .i64 f.token.gen, .int .i64 f.token.hop, .slice ps f.token.stamps.length cs, .int .i64 f.token.table.start, .slice p f.token.table.rows.length c, .int .i64 gen, .int .i64 hop] 43)))
  clear h P ha hl HS
  rcases hk with hk | hk | hk | hk
  · obtain rfl := A2.out hk
    clear A2 A4 A6 A0 C4 D4 C6 D6 C0 D0
    generalize heldF s = x at *
    generalize isHeld s = b at *
    generalize sends s = X at *
    have hbb : (b == b) = true := by simp
    rcases hk with hk | hk
    all_goals
      go_enter Try.func8, Try.ntmps8
      go_wp2_with (first
        | (go_at_call 10; (with_reducible refine (C2.out _ L0.out).mono ?_); rintro e u1 ⟨qs, q1, e1, e2, rfl, ht, hm⟩; have L1 := Lib.hid ((L0.out.own hm).on HP.out (lay u1 (.cells #[.int .i64 x.kind, .int .i64 x.src, .int .i64 x.dst, .int .i64 x.gen, .int .i64 x.hop, .int .u64 x.bits, .int .i64 x.token.gen, .int .i64 x.token.hop, .slice qs x.token.stamps.length e1, .int .i64 x.token.table.start, .slice q1 x.token.table.rows.length e2] 41))); have K1 := Lib.hid (heap_alloc_new u1 (.cells #[.int .i64 x.kind, .int .i64 x.src, .int .i64 x.dst, .int .i64 x.gen, .int .i64 x.hop, .int .u64 x.bits, .int .i64 x.token.gen, .int .i64 x.token.hop, .slice qs x.token.stamps.length e1, .int .i64 x.token.table.start, .slice q1 x.token.table.rows.length e2] 41)); have T1 := Lib.hid (fun u h1 h2 => ht u ((Kept.of_below (lay u1 (.cells #[.int .i64 x.kind, .int .i64 x.src, .int .i64 x.dst, .int .i64 x.gen, .int .i64 x.hop, .int .u64 x.bits, .int .i64 x.token.gen, .int .i64 x.token.hop, .slice qs x.token.stamps.length e1, .int .i64 x.token.table.start, .slice q1 x.token.table.rows.length e2] 41))).trans h1) ((Stays.below (lay u1 (.cells #[.int .i64 x.kind, .int .i64 x.src, .int .i64 x.dst, .int .i64 x.gen, .int .i64 x.hop, .int .u64 x.bits, .int .i64 x.token.gen, .int .i64 x.token.hop, .slice qs x.token.stamps.length e1, .int .i64 x.token.table.start, .slice q1 x.token.table.rows.length e2] 41))).trans h2)); have z1 := (L0.out.own hm).rd.lt; clear hm ht C2)
        | (go_at_call 16; (with_reducible refine (D2.out _ _ L1.out).mono ?_); rintro e u2 ⟨rs, r1, e3, e4, rfl, hl2, hs⟩; have B2 := lay u2 (.cells #[.int .i64 x.kind, .int .i64 x.src, .int .i64 x.dst, .int .i64 x.gen, .int .i64 x.hop, .int .u64 x.bits, .int .i64 x.token.gen, .int .i64 x.token.hop, .slice rs x.token.stamps.length e3, .int .i64 x.token.table.start, .slice r1 x.token.table.rows.length e4] 41); have L2 := Lib.hid ((L1.out.ref HP.out hs).on HP.out B2); have z2 := Nat.lt_of_lt_of_le (lt_of_heap K1.out) hs.size; obtain ⟨y0, y1, y2, y3, y4, y5, y6, y7, y8, y9, y10⟩ := box11 (f := x) ((B2.block _ z2).trans ((hs.only _ (by omega) (lt_of_heap K1.out)).trans K1.out)); obtain ⟨j0, j1, j2, j3, j4, j5, j6, j7, j8, j9, j10⟩ := box11 (f := x) (heap_alloc_new u2 (.cells #[.int .i64 x.kind, .int .i64 x.src, .int .i64 x.dst, .int .i64 x.gen, .int .i64 x.hop, .int .u64 x.bits, .int .i64 x.token.gen, .int .i64 x.token.hop, .slice rs x.token.stamps.length e3, .int .i64 x.token.table.start, .slice r1 x.token.table.rows.length e4] 41)); have CS := same_any x x qs q1 rs r1 e1 e2 e3 e4 _ (T1.out _ ((RStep.kept L1.out.rd hs).trans (Kept.of_below B2)) ((RStep.stays L1.out.free hs).trans (Stays.below B2))) (hl2.on (Stays.below B2)).now; rw [same_frame] at CS; simp only [frameVal] at CS; clear hl2 hs B2 T1 D2)
        | (go_at_call 15; (with_reducible refine CS.mono ?_); rintro e u3 ⟨rfl, hb⟩; have L3 := Lib.hid (L2.out.on HP.out hb); clear hb CS))
      go_ret
      exact ⟨rfl, L3.out⟩
  · obtain rfl := A4.out hk
    clear A2 A4 A6 A0 C2 D2 C6 D6 C0 D0
    generalize ack s f = X at *
    generalize acks s f = b at *
    have hbb : (b == b) = true := by simp
    rcases hk with hk | hk
    all_goals
      go_enter Try.func8, Try.ntmps8
      go_wp2_with (first
        | (go_at_call 12; (with_reducible refine (C4.out _ L0.out).mono ?_); rintro e u1 ⟨rfl, hm⟩; have L1 := Lib.hid (L0.out.own hm); obtain ⟨d0, d1, d2, d3, d4, d5, d6, d7, d8, d9, d10, d11, d12, d13⟩ := box14 (hm.off.block _ _ _ _ HK.out (by simp [mine])); clear hm C4)
        | (go_at_call 17; (with_reducible refine (D4.out _ _ L1.out).mono ?_); rintro e u2 ⟨rfl, hm⟩; have L2 := Lib.hid (L1.out.ref HP.out hm); clear hm D4))
      go_ret
      exact ⟨rfl, L2.out⟩
  · obtain rfl := A6.out hk
    clear A2 A4 A6 A0 C2 D2 C4 D4 C0 D0
    generalize drop s gen hop = X at *
    generalize drops s gen hop = b at *
    have hbb : (b == b) = true := by simp
    go_enter Try.func8, Try.ntmps8
    go_wp2_with (first
        | (go_at_call 13; (with_reducible refine (C6.out _ L0.out).mono ?_); rintro e u1 ⟨rfl, hm⟩; have L1 := Lib.hid (L0.out.own hm); obtain ⟨d0, d1, d2, d3, d4, d5, d6, d7, d8, d9, d10, d11, d12, d13⟩ := box14 (hm.off.block _ _ _ _ HK.out (by simp [mine])); clear hm C6)
        | (go_at_call 18; (with_reducible refine (D6.out _ _ L1.out).mono ?_); rintro e u2 ⟨rfl, hm⟩; have L2 := Lib.hid (L1.out.ref HP.out hm); clear hm D6))
    go_ret
    exact ⟨rfl, L2.out⟩
  · obtain rfl := A0.out hk
    clear A2 A4 A6 A0 C2 D2 C4 D4 C6 D6
    generalize hold s f = X at *
    have hbb : (X.2 == X.2) = true := by simp
    rcases hk with hk | hk
    all_goals
      go_enter Try.func8, Try.ntmps8
      go_wp2_with (first
        | (go_at_call 11; (with_reducible refine (C0.out _ L0.out).mono ?_); rintro e u1 ⟨rfl, hm⟩; have L1 := Lib.hid (L0.out.own hm); obtain ⟨d0, d1, d2, d3, d4, d5, d6, d7, d8, d9, d10, d11, d12, d13⟩ := box14 (hm.off.block _ _ _ _ HK.out (by simp [mine])); clear hm C0)
        | (go_at_call 19; (with_reducible refine (D0.out _ _ L1.out).mono ?_); rintro e u2 ⟨rfl, hm⟩; have L2 := Lib.hid (L1.out.ref HP.out hm); clear hm D0))
      go_ret
      exact ⟨rfl, L2.out⟩
end Go.Proofs.Ytkdjhphakopfeaa.Relay
