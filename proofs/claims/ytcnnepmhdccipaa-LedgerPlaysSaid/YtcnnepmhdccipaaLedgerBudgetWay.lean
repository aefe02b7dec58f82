/-
  LedgerBudget returns true, whatever the program's ledger is, if its calls do what is asked of them.
-/
import Derived.Test.YtcnnepmhdccipaaLedgerAlive
import Derived.Test.YtcnnepmhdccipaaLedgerRight
import Derived.Test.YtcnnepmhdccipaaLedgerBudgetSt
import Derived.Deep.DeepCutAuto
namespace Go.Proofs.Ytcnnepmhdccipaa.Ledger
open Go.RowKit
open _root_.Go.Proofs.Ytcnnepmhdccipaa.Frame (Rw Tb noRow LeasesAt cell_on tableOk Asked sameTable)
open _root_.Go.Proofs.Ytcnnepmhdccipaa.Codec (lt_of_heap frozen_of heap_set)
open _root_.Go.Proofs.Ytcnnepmhdccipaa.Sat (fit add sub mul fit_self rtwo_any rmul_any fit_lo fit_hi)

/-- The acts lie on. -/
theorem acts_box {u u' : World} {b : Nat} {cur : Array Value} {l : List Ac} (h : ∀ j, j < l.length → ActAt u b (0 + j * 5) (l.getD j noAc)) (h1 : u.heap[b]? = some (.cells cur 32 (0, 0))) (h2 : u'.heap[b]? = some (.cells cur 32 (0, 0))) {j : Nat} (hj : j < l.length) : ActAt u' b (0 + j * 5) (l.getD j noAc) := by
  have he : ∀ i, u'.cell? ⟨b, i, none⟩ = u.cell? ⟨b, i, none⟩ := fun i => World.cell?_of_block (w := u) (h2.trans h1.symm)
  obtain ⟨k0, k1, k2, k3, k4⟩ := h j hj
  exact ⟨by rw [he]; exact k0, by rw [he]; exact k1, by rw [he]; exact k2, by rw [he]; exact k3, by rw [he]; exact k4⟩
theorem rates_box {u : World} {g : Nat} {R B : Int} {T : TypeId} (h : u.heap[g]? = some (.cells #[.int .i64 R, .int .i64 B] T (0, 0))) : RatesAt u (some ⟨g, 0, none⟩) [(R, B)] := by
  obtain ⟨h0, h1, -⟩ := box2 h
  refine .inr ⟨g, 0, rfl, fun j hj => ?_⟩
  obtain rfl : j = 0 := by simpa using hj
  exact ⟨h0, h1⟩
theorem bud_start {W u : World} {bs : List (Nat × Array Value × TypeId)} (h : Mem W bs [] [] u) (ht : ∀ x ∈ bs, x.2.2 ≠ 3) : Bud W bs none [] (.slice none 0 0) (.slice none 0 0) (.slice none 0 0) [] [] [] u :=
  ⟨fun i g vs T e => ⟨h.boxes i g vs T e, ht _ (List.mem_of_getElem? e)⟩, .inl rfl, World.ownsRow_nil _ _ _ _, World.ownsRow_nil _ _ _ _, World.ownsRow_nil _ _ _ _, by simp [Value.ownBlock], by simp [Value.ownBlock], by simp [Value.ownBlock], h.below⟩
theorem own_cell {B : Nat} {u : World} {p : Option Addr} {n c : Nat} {l : List Int} (h : OwnI B u (.slice p n c) l) {k : Nat} (hk : k < l.length) : ∃ b, p = some ⟨b, 0, none⟩ ∧ u.cell? ⟨b, k, none⟩ = some (.int .i64 (l.getD k 0)) := by
  rcases h.2 with ⟨_, h0⟩ | ⟨b, cap, cur, e, h1, h2, h3, h4, h5, h6⟩
  · omega
  · simp only [Value.slice.injEq] at e
    obtain ⟨rfl, -, -⟩ := e
    have h' := World.ownsRow.cells (g := b) h rfl k (.int .i64 (l.getD k 0)) (by simp [cellsI, List.getD, hk])
    exact ⟨b, rfl, by rwa [Codec.add_at, Nat.zero_add] at h'⟩
theorem wrap_in {x : Int} (h0 : -9223372036854775808 ≤ x) (h1 : x ≤ 9223372036854775807) : IntKind.i64.wrap x = x := IntWalk.i64_in _ (by omega)
theorem own_form {B : Nat} {u : World} {v : Value} {l : List Int} {n : Nat} (h : OwnI B u v l) (hn : l.length = n) : ∃ p c, v = .slice p n c := by
  rcases h.2 with ⟨rfl, h0⟩ | ⟨b, cap, cur, e, -⟩
  · exact ⟨none, 0, by rw [← hn, h0]⟩
  · exact ⟨_, cap, by rw [← hn]; exact e⟩

set_option maxRecDepth 100000 in
set_option maxHeartbeats 8000000 in
theorem budget_few {I : Nat → Tb → Prop} (inv : Inv I) (P : Way9 I) (start R B : Int) (l : List Ac) (p : Option Addr) (c : Nat) (W : World) (hl : (l.length : Int) ≤ 60) (hln : ∀ a ∈ l, AcNum a)
    (hs0 : 0 ≤ start) (hs1 : start ≤ 2147483648) (hR0 : 0 ≤ R) (hR1 : R ≤ 2147483648) (hB0 : 0 ≤ B) (hB1 : B ≤ 2147483648) (ha : ActsAt W p l) :
    Calls Try.prog 4 #[.int .i64 start, .slice p l.length c, .agg #[.int .i64 R, .int .i64 B]] W (Asked W true) := by
  have hal := alive_way inv P
  have M0 := Lib.hid ((Mem.start W).box #[.int .i64 R, .int .i64 B] 44)
  obtain ⟨k0, k1, -⟩ := box2 (M0.out.boxes 0 _ _ _ rfl)
  have M1 := Lib.hid (((M0.out.box #[.int .i64 R, .int .i64 B] 44).box #[.int .i64 0, .int .i64 0, .int .i64 0, .int .i64 0, .int .i64 0, .int .i64 0, .int .i64 16, .int .i64 0, .slice (some ⟨W.heap.size + 1, 0, none⟩) 1 1] 27).box #[.int .i64 start, .slice none 0 0] 24)
  simp only [size_alloc] at M0 M1
  have hright := right_any l p c 7 _ (acts_below ha M1.out.below) (by omega)
  have HLN := Lib.hid hln
  clear ha hln
  go_enter Try.func4, Try.ntmps4
  go_wp2_with (go_at_call 21; (with_reducible refine hright.mono ?_); rintro e u1 ⟨pa, ca, rfl, hA, hb⟩; have M2 := Lib.hid (M1.out.on hb); have HA := Lib.hid hA; clear hright hb M1 hA)
  obtain ⟨ab, hab1, hab2, hab3⟩ : ∃ ab : List (Nat × Array Value × TypeId), (∀ x ∈ ab, x.2.2 = 32) ∧ (∀ (i : Nat) (g : Nat) (vs : Array Value) (T : TypeId), ab[i]? = some (g, vs, T) → u1.heap[g]? = some (.cells vs T (0, 0))) ∧ (l = [] ∨ ∃ bA curA, pa = some ⟨bA, 0, none⟩ ∧ ab = [(bA, curA, 32)] ∧ ∀ u : World, u.heap[bA]? = some (.cells curA 32 (0, 0)) → ∀ j, j < l.length → ActAt u bA (j * 5) ((l.map (turnAc 7)).getD j noAc)) := by
    rcases HA.out with h | ⟨bA, curA, e, h1, h2⟩
    · exact ⟨[], by simp, by simp, .inl (by simpa using h)⟩
    · refine ⟨[(bA, curA, 32)], by simp, fun i g vs T e2 => ?_, .inr ⟨bA, curA, e, rfl, fun u hu j hj => by have h := acts_box h2 h1 hu (show j < (l.map (turnAc 7)).length by simpa using hj); rwa [Nat.zero_add] at h⟩⟩
      cases i with
      | zero =>
        simp only [List.getElem?_cons_zero, Option.some.injEq, Prod.mk.injEq] at e2
        obtain ⟨rfl, rfl, rfl⟩ := e2
        exact h1
      | succ i => simp at e2
  have B0 := Lib.hid (bud_start (bs := [(W.heap.size + 1 + 1 + 1, #[.int .i64 start, .slice none 0 0], 24), (W.heap.size + 1 + 1, #[.int .i64 0, .int .i64 0, .int .i64 0, .int .i64 0, .int .i64 0, .int .i64 0, .int .i64 16, .int .i64 0, .slice (some ⟨W.heap.size + 1, 0, none⟩) 1 1], 27), (W.heap.size + 1, #[.int .i64 R, .int .i64 B], 44), (W.heap.size, #[.int .i64 R, .int .i64 B], 44)] ++ ab) ⟨fun i g vs T e => by
    rcases Nat.lt_or_ge i 4 with hi | hi
    · exact M2.out.boxes i g vs T (by rw [← e]; rcases i with _ | _ | _ | _ | i <;> first | rfl | omega)
    · exact hab2 (i - 4) g vs T (by rw [← e]; rw [List.getElem?_append_right (by simpa using hi)]; rfl), fun i p l e => by simp at e, fun i p l e => by simp at e, M2.out.below⟩ (by
      intro x hx
      simp only [List.mem_append, List.mem_cons, List.not_mem_nil, or_false] at hx
      rcases hx with (rfl | rfl | rfl | rfl) | hx
      · simp
      · simp
      · simp
      · simp
      · rw [hab1 x hx]; simp))
  have HAB := Lib.hid hab3
  have HABT := Lib.hid hab1
  have HT0 := Lib.hid (inv.first (show tableOk ⟨start, []⟩ = true by simp [tableOk, Frame.isIn, Frame.allTo]; omega))
  have HO0 := Lib.hid (one_none hs0 hs1 hB0)
  have HH0 := Lib.hid (hist_none (R := R) hB0 (mark := start) hs0)
  clear M2 HA hab1 hab2 hab3 k0 k1
  go_loopw [10, 11, 12, 13, 14, 15, 16, 17, 18, 19, 20] (fun v1 v2 v3 q i _ _ _ _ _ _ wr => ∃ (j : Nat) (T : Tb) (pT : Option Addr) (cT : Nat) (p1 p2 p3 : Option Addr) (c1 c2 c3 : Nat) (TS MS SS : List Int) (sp : Int), j ≤ l.length ∧ i = .int .i64 (j : Int) ∧ v1 = .slice p1 j c1 ∧ v2 = .slice p2 j c2 ∧ v3 = .slice p3 j c3 ∧ q = .int .i64 sp ∧ Hid (I j T) ∧ Hid (One start B j T) ∧ Hid (Hist R B j TS MS SS j sp (total (findRow T 7)) (findRow T 7).mark) ∧ Hid (Bud W ([(W.heap.size + 1 + 1 + 1, #[.int .i64 T.start, .slice pT T.rows.length (cT + T.rows.length)], 24), (W.heap.size + 1 + 1, #[.int .i64 0, .int .i64 0, .int .i64 0, .int .i64 0, .int .i64 0, .int .i64 0, .int .i64 16, .int .i64 0, .slice (some ⟨W.heap.size + 1, 0, none⟩) 1 1], 27), (W.heap.size + 1, #[.int .i64 R, .int .i64 B], 44), (W.heap.size, #[.int .i64 R, .int .i64 B], 44)] ++ ab) pT T.rows (.slice p1 j c1) (.slice p2 j c2) (.slice p3 j c3) TS MS SS wr)) (fun _ _ _ _ i _ _ _ _ _ _ _ => l.length - (intOf i).toNat)
  case atStart => exact ⟨0, ⟨start, []⟩, none, 0, none, none, none, 0, 0, 0, [], [], [], 0, by omega, rfl, rfl, rfl, rfl, rfl, HT0, HO0, by simpa [findRow, place, spot, total, Sat.add, Sat.sum, Sat.fit, Sat.top] using HH0, B0⟩
  case round =>
    obtain ⟨j, T, pT, cT, p1, p2, p3, c1, c2, c3, TS, MS, SS, sp, hj, rfl, rfl, rfl, rfl, rfl, hI, hO, hH, hB⟩ := hrel
    clear B0 HT0 HO0 HH0
    by_cases hlt : j < l.length
    · obtain ⟨bA, curA, rfl, rfl, hact0⟩ : ∃ bA curA, pa = some ⟨bA, 0, none⟩ ∧ ab = [(bA, curA, 32)] ∧ ∀ u : World, u.heap[bA]? = some (.cells curA 32 (0, 0)) → ∀ j, j < l.length → ActAt u bA (j * 5) ((l.map (turnAc 7)).getD j noAc) := by
        rcases HAB.out with h | h
        · rw [h] at hlt; simp at hlt
        · exact h
      have hlt' : (j : Int) < (l.length : Int) := by omega
      have hget : (l.map (turnAc 7)).getD j noAc = turnAc 7 (l.getD j noAc) := by simp [List.getD, hlt]
      have HACT := Lib.hid (show ∀ u : World, u.heap[bA]? = some (.cells curA 32 (0, 0)) → ActAt u bA (j * 5) (turnAc 7 (l.getD j noAc)) from fun u hu => by rw [← hget]; exact hact0 u hu j hlt)
      have haN0 := HLN.out _ (show l.getD j noAc ∈ l by simp [List.getD, hlt])
      clear hget hact0
      generalize l.getD j noAc = a0 at *
      have hf0 := fit_lo a0.now
      have hf1 := fit_hi a0.now
      have haN : AcNum (turnAc 7 a0) := ⟨haN0.1, num7, by show Num (fit a0.now); unfold Num; omega, haN0.2.2.2.1, haN0.2.2.2.2⟩
      have hA7 : (turnAc 7 a0).key = 7 := rfl
      have hA0 : 0 ≤ (turnAc 7 a0).now := hf0
      clear haN0 hf0 hf1
      generalize turnAc 7 a0 = a at *
      have hact := HACT.out _ (hB.out.boxes 4 _ _ _ rfl).1
      by_cases hbig : 2147483648 < a.now
      · obtain ⟨x0, x1, x2, x3, x4⟩ := hact
        clear haN
        generalize a.now = now at *
        go_wp2_with (go_at_call 7; (with_reducible refine (hal _).mono ?_); rintro e u2 ⟨rfl, hb⟩)
        go_ret
        exact ⟨rfl, hB.out.below.trans (hb.mono hB.out.below.size)⟩
      · have hj61 : j ≤ 61 := by omega
        have hj61' : j + 1 ≤ 61 := by omega
        have hact2 := one_act hs0 hR0 hR1 hB0 hB1 hO.out a haN.1.1 hA7 hA0 (by omega)
        have hYI := inv_act inv hI.out (cfB R B) haN (by simp [cfB])
        have hstep : ∀ (u : World), RowsAt u pT T.rows → RatesAt u (some ⟨W.heap.size + 1, 0, none⟩) [(R, B)] → _ := fun u h1 h2 => open_tabfar (step_far inv P hI.out hj61 a haN (cfB R B) (by simp [cfB]) pT cT (some ⟨W.heap.size + 1, 0, none⟩) 1 u h1 h2)
        have hYB := inv.base hYI
        obtain ⟨hyl, hyo⟩ := base_len hYB hj61'
        have hfind := fun (u : World) p c h => open_row (P.find p c 7 u hYI hj61' num7 h)
        have hfl := (base_find hYB num7).len
        have hsp1 : spends (cfB R B) T a = if a.kind % 5 = 2 then (actOf (cfB R B) T a).2 else 0 := rfl
        have hkind := haN.1
        generalize hYN : actOf (cfB R B) T a = YN at *
        obtain ⟨Y, N⟩ := YN
        simp only at *
        have htot := fun (u : World) p c h => total_any (findRow Y 7) p c u h (by omega)
        obtain ⟨hO2, hK1, hK2, hK3, hK4⟩ := hact2
        have hkey7 := find_key hO2
        have hav0 := (base_find hYB num7).lo
        have htt := one_total hB1 hO2
        have hmark2 := hO2.hi
        have htB := hO2.tot
        have hso := outs_lo fun x hx => ((base_find hYB num7).out x hx).2.1
        have hH2 := Lib.hid (hist_step hH.out hK1 hK2 hK3 hK4 (by omega) (by omega))
        have hsp0 := hH.out.sp0
        have hspj := hH.out.sp1
        have HYI := Lib.hid hYI
        have HO2 := Lib.hid hO2
        generalize spends (cfB R B) T a = sp2 at *
        obtain ⟨kind, key, now, node, nn⟩ := a
        simp only at hA7 hA0 hbig hkind hsp1
        subst hA7
        have hbig' : now ≤ 2147483648 := by omega
        have hHB := hH2.out
        have hsp2n := hHB.sp1
        have hsp2p := hHB.sp0
        have htB2 := hHB.totB
        have htt0 := hHB.tot0
        have hfm0 := hHB.mark0
        have HQ := Lib.hid (fun (k : Nat) (hk : k < j) => hist_ask hHB hR0 hR1 hB1 hj61' hmark2 hk)
        have HP := Lib.hid (hist_push hHB)
        have HLT := Lib.hid hH.out.lt
        have HLM := Lib.hid hH.out.lm
        have HLS := Lib.hid hH.out.ls
        have HBND := Lib.hid (fun (k : Nat) (hk : k < j) => hHB.all k hk)
        generalize hFF : findRow Y 7 = F at *
        generalize hTT : total F = tt at *
        have HFF := Lib.hid hFF
        have HTT := Lib.hid hTT
        clear hFF hTT hH2 hHB hH hO hI hYI hO2 hYB hYN hact haN hK1 hK2 hK3 hK4 htt htB hso hkey7 hfl hyl hyo hA0 hbig inv P
        obtain ⟨ts, tr⟩ := T
        obtain ⟨ys, yr⟩ := Y
        obtain ⟨fk, fa, fm, fo⟩ := F
        simp only [tabVal, acVal, cfVal, rowVal, cfB, List.length_cons, List.length_nil, Nat.zero_add] at *
        generalize hyn : yr.length = yn at *
        generalize tr.length = tn at *
        generalize fo.length = fn at *
        have HYN := Lib.hid hyn
        clear hyn
        have hNT1 : ∀ x ∈ ([(W.heap.size + 1 + 1 + 1, #[.int .i64 ts, .slice pT tn (cT + tn)], 24), (W.heap.size + 1 + 1, #[.int .i64 0, .int .i64 0, .int .i64 0, .int .i64 0, .int .i64 0, .int .i64 0, .int .i64 16, .int .i64 0, .slice (some ⟨W.heap.size + 1, 0, none⟩) 1 1], 27), (W.heap.size + 1, #[.int .i64 R, .int .i64 B], 44), (W.heap.size, #[.int .i64 R, .int .i64 B], 44)] ++ [(bA, curA, 32)] : List (Nat × Array Value × TypeId)), x.1 ≠ wr.heap.size ∨ x.2.2 ≠ 24 := by
          have h3 := lt_of_heap (hB.out.boxes 0 _ _ _ rfl).1
          intro x hx
          simp only [List.cons_append, List.nil_append, List.mem_cons, List.not_mem_nil, or_false] at hx
          rcases hx with rfl | rfl | rfl | rfl | rfl
          · exact .inl (by simp only; omega)
          · exact .inr (by simp)
          · exact .inr (by simp)
          · exact .inr (by simp)
          · exact .inr (by simp)
        have HNT := Lib.hid hNT1
        have hNT2 : ∀ x ∈ ([(W.heap.size + 1 + 1, #[.int .i64 0, .int .i64 0, .int .i64 0, .int .i64 0, .int .i64 0, .int .i64 0, .int .i64 16, .int .i64 0, .slice (some ⟨W.heap.size + 1, 0, none⟩) 1 1], 27), (W.heap.size + 1, #[.int .i64 R, .int .i64 B], 44), (W.heap.size, #[.int .i64 R, .int .i64 B], 44)] ++ [(bA, curA, 32)] : List (Nat × Array Value × TypeId)), x.1 ≠ W.heap.size + 1 + 1 + 1 ∨ x.2.2 ≠ 24 := by
          intro x hx
          simp only [List.cons_append, List.nil_append, List.mem_cons, List.not_mem_nil, or_false] at hx
          rcases hx with rfl | rfl | rfl | rfl
          · exact .inr (by simp)
          · exact .inr (by simp)
          · exact .inr (by simp)
          · exact .inr (by simp)
        have HNT2 := Lib.hid hNT2
        clear hNT1 hNT2
        obtain ⟨x0, x1, x2, x3, x4⟩ := HACT.out _ (hB.out.boxes 4 _ _ _ rfl).1
        simp only at x0 x1 x2 x3 x4
        go_upto_region 13 with fail
        go_cut [15, 16] (fun q15 q16 wx => ∃ (gx : Nat) (px : Option Addr) (cx : Nat), q15 = .pointer (some ⟨gx, 0, none⟩) ∧ q16 = .int .i64 N ∧ Hid (Bud W ([(gx, #[.int .i64 ys, .slice px yn (cx + yn)], 24), (W.heap.size + 1 + 1 + 1, #[.int .i64 ts, .slice pT tn (cT + tn)], 24), (W.heap.size + 1 + 1, #[.int .i64 0, .int .i64 0, .int .i64 0, .int .i64 0, .int .i64 0, .int .i64 0, .int .i64 16, .int .i64 0, .slice (some ⟨W.heap.size + 1, 0, none⟩) 1 1], 27), (W.heap.size + 1, #[.int .i64 R, .int .i64 B], 44), (W.heap.size, #[.int .i64 R, .int .i64 B], 44)] ++ [(bA, curA, 32)]) px yr (.slice p1 j c1) (.slice p2 j c2) (.slice p3 j c3) TS MS SS wx))
        case first =>
          have BD := Lib.hid (hB.out.on (Below.refl _ _).drew)
          have BZ0 := Lib.hid (hB.out.box #[.int .i64 0, .slice none 0 0] 24 (by decide))
          have BZ := Lib.hid (BZ0.out.on (Below.refl _ _).drew)
          have S0 := Lib.hid (And.intro ((box2 (hB.out.boxes 0 _ _ _ rfl).1).1) (And.intro ((box2 (hB.out.boxes 0 _ _ _ rfl).1).2.1) (And.intro ((HACT.out _ (hB.out.boxes 4 _ _ _ rfl).1).1) (And.intro ((HACT.out _ (hB.out.boxes 4 _ _ _ rfl).1).2.1) (And.intro ((HACT.out _ (hB.out.boxes 4 _ _ _ rfl).1).2.2.1) (And.intro ((HACT.out _ (hB.out.boxes 4 _ _ _ rfl).1).2.2.2.1) (And.intro ((HACT.out _ (hB.out.boxes 4 _ _ _ rfl).1).2.2.2.2) (And.intro ((nine_cells (hB.out.boxes 1 _ _ _ rfl).1).1) (And.intro ((nine_cells (hB.out.boxes 1 _ _ _ rfl).1).2.1) (And.intro ((nine_cells (hB.out.boxes 1 _ _ _ rfl).1).2.2.1) (And.intro ((nine_cells (hB.out.boxes 1 _ _ _ rfl).1).2.2.2.1) (And.intro ((nine_cells (hB.out.boxes 1 _ _ _ rfl).1).2.2.2.2.1) (And.intro ((nine_cells (hB.out.boxes 1 _ _ _ rfl).1).2.2.2.2.2.1) (And.intro ((nine_cells (hB.out.boxes 1 _ _ _ rfl).1).2.2.2.2.2.2.1) (And.intro ((nine_cells (hB.out.boxes 1 _ _ _ rfl).1).2.2.2.2.2.2.2.1) ((nine_cells (hB.out.boxes 1 _ _ _ rfl).1).2.2.2.2.2.2.2.2))))))))))))))))
          have SZ := Lib.hid (And.intro ((box2 (BZ0.out.boxes 1 _ _ _ rfl).1).1) (And.intro ((box2 (BZ0.out.boxes 1 _ _ _ rfl).1).2.1) (And.intro ((HACT.out _ (BZ0.out.boxes 5 _ _ _ rfl).1).1) (And.intro ((HACT.out _ (BZ0.out.boxes 5 _ _ _ rfl).1).2.1) (And.intro ((HACT.out _ (BZ0.out.boxes 5 _ _ _ rfl).1).2.2.1) (And.intro ((HACT.out _ (BZ0.out.boxes 5 _ _ _ rfl).1).2.2.2.1) (And.intro ((HACT.out _ (BZ0.out.boxes 5 _ _ _ rfl).1).2.2.2.2) (And.intro ((nine_cells (BZ0.out.boxes 2 _ _ _ rfl).1).1) (And.intro ((nine_cells (BZ0.out.boxes 2 _ _ _ rfl).1).2.1) (And.intro ((nine_cells (BZ0.out.boxes 2 _ _ _ rfl).1).2.2.1) (And.intro ((nine_cells (BZ0.out.boxes 2 _ _ _ rfl).1).2.2.2.1) (And.intro ((nine_cells (BZ0.out.boxes 2 _ _ _ rfl).1).2.2.2.2.1) (And.intro ((nine_cells (BZ0.out.boxes 2 _ _ _ rfl).1).2.2.2.2.2.1) (And.intro ((nine_cells (BZ0.out.boxes 2 _ _ _ rfl).1).2.2.2.2.2.2.1) (And.intro ((nine_cells (BZ0.out.boxes 2 _ _ _ rfl).1).2.2.2.2.2.2.2.1) ((nine_cells (BZ0.out.boxes 2 _ _ _ rfl).1).2.2.2.2.2.2.2.2))))))))))))))))
          go_region_held3 (fun u => u.cell? ⟨W.heap.size + 1 + 1 + 1, 0, none⟩ = some (.int .i64 ts) ∧ u.cell? ⟨W.heap.size + 1 + 1 + 1, 1, none⟩ = some (.slice pT tn (cT + tn)) ∧ u.cell? ⟨bA, j * 5, none⟩ = some (.int .u8 kind) ∧ u.cell? ⟨bA, j * 5 + 1, none⟩ = some (.int .i64 7) ∧ u.cell? ⟨bA, j * 5 + 2, none⟩ = some (.int .i64 now) ∧ u.cell? ⟨bA, j * 5 + 3, none⟩ = some (.int .i64 node) ∧ u.cell? ⟨bA, j * 5 + 4, none⟩ = some (.int .i64 nn) ∧ u.cell? ⟨W.heap.size + 1 + 1, 0, none⟩ = some (.int .i64 0) ∧ u.cell? ⟨W.heap.size + 1 + 1, 1, none⟩ = some (.int .i64 0) ∧ u.cell? ⟨W.heap.size + 1 + 1, 2, none⟩ = some (.int .i64 0) ∧ u.cell? ⟨W.heap.size + 1 + 1, 3, none⟩ = some (.int .i64 0) ∧ u.cell? ⟨W.heap.size + 1 + 1, 4, none⟩ = some (.int .i64 0) ∧ u.cell? ⟨W.heap.size + 1 + 1, 5, none⟩ = some (.int .i64 0) ∧ u.cell? ⟨W.heap.size + 1 + 1, 6, none⟩ = some (.int .i64 16) ∧ u.cell? ⟨W.heap.size + 1 + 1, 7, none⟩ = some (.int .i64 0) ∧ u.cell? ⟨W.heap.size + 1 + 1, 8, none⟩ = some (.slice (some ⟨W.heap.size + 1, 0, none⟩) 1 1)) (first | assumption | exact SN.out | exact SM.out | exact SL.out | exact SZ.out | exact S0.out) (first
            | (go_at_call 8; (with_reducible refine (hstep _ BD.out.rows.rest (rates_box (BD.out.boxes 2 _ _ _ rfl).1)).mono ?_); rintro e u2 ⟨px, cx, rfl, ⟨hr2, hf2⟩, hb⟩; have B6 := Lib.hid (BD.out.turn hb (hf2 _ BD.out.rows)); have SL := Lib.hid (And.intro ((box2 (B6.out.boxes 0 _ _ _ rfl).1).1) (And.intro ((box2 (B6.out.boxes 0 _ _ _ rfl).1).2.1) (And.intro ((HACT.out _ (B6.out.boxes 4 _ _ _ rfl).1).1) (And.intro ((HACT.out _ (B6.out.boxes 4 _ _ _ rfl).1).2.1) (And.intro ((HACT.out _ (B6.out.boxes 4 _ _ _ rfl).1).2.2.1) (And.intro ((HACT.out _ (B6.out.boxes 4 _ _ _ rfl).1).2.2.2.1) (And.intro ((HACT.out _ (B6.out.boxes 4 _ _ _ rfl).1).2.2.2.2) (And.intro ((nine_cells (B6.out.boxes 1 _ _ _ rfl).1).1) (And.intro ((nine_cells (B6.out.boxes 1 _ _ _ rfl).1).2.1) (And.intro ((nine_cells (B6.out.boxes 1 _ _ _ rfl).1).2.2.1) (And.intro ((nine_cells (B6.out.boxes 1 _ _ _ rfl).1).2.2.2.1) (And.intro ((nine_cells (B6.out.boxes 1 _ _ _ rfl).1).2.2.2.2.1) (And.intro ((nine_cells (B6.out.boxes 1 _ _ _ rfl).1).2.2.2.2.2.1) (And.intro ((nine_cells (B6.out.boxes 1 _ _ _ rfl).1).2.2.2.2.2.2.1) (And.intro ((nine_cells (B6.out.boxes 1 _ _ _ rfl).1).2.2.2.2.2.2.2.1) ((nine_cells (B6.out.boxes 1 _ _ _ rfl).1).2.2.2.2.2.2.2.2)))))))))))))))); have SM := Lib.hid (And.intro ((box2 ((B6.out.box #[.int .i64 0, .slice none 0 0] 24 (by decide)).boxes 1 _ _ _ rfl).1).1) (And.intro ((box2 ((B6.out.box #[.int .i64 0, .slice none 0 0] 24 (by decide)).boxes 1 _ _ _ rfl).1).2.1) (And.intro ((HACT.out _ ((B6.out.box #[.int .i64 0, .slice none 0 0] 24 (by decide)).boxes 5 _ _ _ rfl).1).1) (And.intro ((HACT.out _ ((B6.out.box #[.int .i64 0, .slice none 0 0] 24 (by decide)).boxes 5 _ _ _ rfl).1).2.1) (And.intro ((HACT.out _ ((B6.out.box #[.int .i64 0, .slice none 0 0] 24 (by decide)).boxes 5 _ _ _ rfl).1).2.2.1) (And.intro ((HACT.out _ ((B6.out.box #[.int .i64 0, .slice none 0 0] 24 (by decide)).boxes 5 _ _ _ rfl).1).2.2.2.1) (And.intro ((HACT.out _ ((B6.out.box #[.int .i64 0, .slice none 0 0] 24 (by decide)).boxes 5 _ _ _ rfl).1).2.2.2.2) (And.intro ((nine_cells ((B6.out.box #[.int .i64 0, .slice none 0 0] 24 (by decide)).boxes 2 _ _ _ rfl).1).1) (And.intro ((nine_cells ((B6.out.box #[.int .i64 0, .slice none 0 0] 24 (by decide)).boxes 2 _ _ _ rfl).1).2.1) (And.intro ((nine_cells ((B6.out.box #[.int .i64 0, .slice none 0 0] 24 (by decide)).boxes 2 _ _ _ rfl).1).2.2.1) (And.intro ((nine_cells ((B6.out.box #[.int .i64 0, .slice none 0 0] 24 (by decide)).boxes 2 _ _ _ rfl).1).2.2.2.1) (And.intro ((nine_cells ((B6.out.box #[.int .i64 0, .slice none 0 0] 24 (by decide)).boxes 2 _ _ _ rfl).1).2.2.2.2.1) (And.intro ((nine_cells ((B6.out.box #[.int .i64 0, .slice none 0 0] 24 (by decide)).boxes 2 _ _ _ rfl).1).2.2.2.2.2.1) (And.intro ((nine_cells ((B6.out.box #[.int .i64 0, .slice none 0 0] 24 (by decide)).boxes 2 _ _ _ rfl).1).2.2.2.2.2.2.1) (And.intro ((nine_cells ((B6.out.box #[.int .i64 0, .slice none 0 0] 24 (by decide)).boxes 2 _ _ _ rfl).1).2.2.2.2.2.2.2.1) ((nine_cells ((B6.out.box #[.int .i64 0, .slice none 0 0] 24 (by decide)).boxes 2 _ _ _ rfl).1).2.2.2.2.2.2.2.2)))))))))))))))); have B7 := Lib.hid (B6.out.box #[.int .i64 ys, .slice px yn (cx + yn)] 24 (by decide)); have SN := Lib.hid (And.intro ((box2 (B7.out.boxes 1 _ _ _ rfl).1).1) (And.intro ((box2 (B7.out.boxes 1 _ _ _ rfl).1).2.1) (And.intro ((HACT.out _ (B7.out.boxes 5 _ _ _ rfl).1).1) (And.intro ((HACT.out _ (B7.out.boxes 5 _ _ _ rfl).1).2.1) (And.intro ((HACT.out _ (B7.out.boxes 5 _ _ _ rfl).1).2.2.1) (And.intro ((HACT.out _ (B7.out.boxes 5 _ _ _ rfl).1).2.2.2.1) (And.intro ((HACT.out _ (B7.out.boxes 5 _ _ _ rfl).1).2.2.2.2) (And.intro ((nine_cells (B7.out.boxes 2 _ _ _ rfl).1).1) (And.intro ((nine_cells (B7.out.boxes 2 _ _ _ rfl).1).2.1) (And.intro ((nine_cells (B7.out.boxes 2 _ _ _ rfl).1).2.2.1) (And.intro ((nine_cells (B7.out.boxes 2 _ _ _ rfl).1).2.2.2.1) (And.intro ((nine_cells (B7.out.boxes 2 _ _ _ rfl).1).2.2.2.2.1) (And.intro ((nine_cells (B7.out.boxes 2 _ _ _ rfl).1).2.2.2.2.2.1) (And.intro ((nine_cells (B7.out.boxes 2 _ _ _ rfl).1).2.2.2.2.2.2.1) (And.intro ((nine_cells (B7.out.boxes 2 _ _ _ rfl).1).2.2.2.2.2.2.2.1) ((nine_cells (B7.out.boxes 2 _ _ _ rfl).1).2.2.2.2.2.2.2.2)))))))))))))))); clear hr2 hf2 hb B6)
            | (go_at_call 8; (with_reducible refine (hstep _ BZ.out.rows.rest (rates_box (BZ.out.boxes 3 _ _ _ rfl).1)).mono ?_); rintro e u2 ⟨px, cx, rfl, ⟨hr2, hf2⟩, hb⟩; have B6 := Lib.hid (BZ.out.turn hb (hf2 _ BZ.out.rows)); obtain ⟨y0, y1, ff⟩ := box2 (B6.out.boxes 0 _ _ _ rfl).1; have f0 := ff 0; have f1 := ff 1; clear ff; have SL := Lib.hid (And.intro ((box2 (B6.out.boxes 1 _ _ _ rfl).1).1) (And.intro ((box2 (B6.out.boxes 1 _ _ _ rfl).1).2.1) (And.intro ((HACT.out _ (B6.out.boxes 5 _ _ _ rfl).1).1) (And.intro ((HACT.out _ (B6.out.boxes 5 _ _ _ rfl).1).2.1) (And.intro ((HACT.out _ (B6.out.boxes 5 _ _ _ rfl).1).2.2.1) (And.intro ((HACT.out _ (B6.out.boxes 5 _ _ _ rfl).1).2.2.2.1) (And.intro ((HACT.out _ (B6.out.boxes 5 _ _ _ rfl).1).2.2.2.2) (And.intro ((nine_cells (B6.out.boxes 2 _ _ _ rfl).1).1) (And.intro ((nine_cells (B6.out.boxes 2 _ _ _ rfl).1).2.1) (And.intro ((nine_cells (B6.out.boxes 2 _ _ _ rfl).1).2.2.1) (And.intro ((nine_cells (B6.out.boxes 2 _ _ _ rfl).1).2.2.2.1) (And.intro ((nine_cells (B6.out.boxes 2 _ _ _ rfl).1).2.2.2.2.1) (And.intro ((nine_cells (B6.out.boxes 2 _ _ _ rfl).1).2.2.2.2.2.1) (And.intro ((nine_cells (B6.out.boxes 2 _ _ _ rfl).1).2.2.2.2.2.2.1) (And.intro ((nine_cells (B6.out.boxes 2 _ _ _ rfl).1).2.2.2.2.2.2.2.1) ((nine_cells (B6.out.boxes 2 _ _ _ rfl).1).2.2.2.2.2.2.2.2)))))))))))))))); have B7 := Lib.hid (B6.out.setTab (y := ys) (pp := px) (n := yn) (c := cx + yn) hB.out.below.size HNT.out); have SN := Lib.hid (And.intro ((box2 (B7.out.boxes 1 _ _ _ rfl).1).1) (And.intro ((box2 (B7.out.boxes 1 _ _ _ rfl).1).2.1) (And.intro ((HACT.out _ (B7.out.boxes 5 _ _ _ rfl).1).1) (And.intro ((HACT.out _ (B7.out.boxes 5 _ _ _ rfl).1).2.1) (And.intro ((HACT.out _ (B7.out.boxes 5 _ _ _ rfl).1).2.2.1) (And.intro ((HACT.out _ (B7.out.boxes 5 _ _ _ rfl).1).2.2.2.1) (And.intro ((HACT.out _ (B7.out.boxes 5 _ _ _ rfl).1).2.2.2.2) (And.intro ((nine_cells (B7.out.boxes 2 _ _ _ rfl).1).1) (And.intro ((nine_cells (B7.out.boxes 2 _ _ _ rfl).1).2.1) (And.intro ((nine_cells (B7.out.boxes 2 _ _ _ rfl).1).2.2.1) (And.intro ((nine_cells (B7.out.boxes 2 _ _ _ rfl).1).2.2.2.1) (And.intro ((nine_cells (B7.out.boxes 2 _ _ _ rfl).1).2.2.2.2.1) (And.intro ((nine_cells (B7.out.boxes 2 _ _ _ rfl).1).2.2.2.2.2.1) (And.intro ((nine_cells (B7.out.boxes 2 _ _ _ rfl).1).2.2.2.2.2.2.1) (And.intro ((nine_cells (B7.out.boxes 2 _ _ _ rfl).1).2.2.2.2.2.2.2.1) ((nine_cells (B7.out.boxes 2 _ _ _ rfl).1).2.2.2.2.2.2.2.2)))))))))))))))); clear hr2 hf2 hb B6))
          all_goals
            (go_wp2_with fail; go_meet; exact ⟨_, _, _, rfl, rfl, B7⟩)
        case rest =>
          obtain ⟨gx, px, cx, rfl, rfl, B7⟩ := hcut
          clear x0 x1 x2 x3 x4 hstep hB HNT
          have B8 := Lib.hid ((B7.out.sub (bs' := [(W.heap.size + 1 + 1 + 1, #[.int .i64 ts, .slice pT tn (cT + tn)], 24), (W.heap.size + 1 + 1, #[.int .i64 0, .int .i64 0, .int .i64 0, .int .i64 0, .int .i64 0, .int .i64 0, .int .i64 16, .int .i64 0, .slice (some ⟨W.heap.size + 1, 0, none⟩) 1 1], 27), (W.heap.size + 1, #[.int .i64 R, .int .i64 B], 44), (W.heap.size, #[.int .i64 R, .int .i64 B], 44)] ++ [(bA, curA, 32)]) (by simp)).setTab (y := ys) (pp := px) (n := yn) (c := cx + yn) (by omega) HNT2.out)
          obtain ⟨x0, -, -, -, -⟩ := HACT.out _ (B7.out.boxes 5 _ _ _ rfl).1
          simp only at x0
          obtain ⟨n0, n1, -⟩ := box2 (B7.out.boxes 0 _ _ _ rfl).1
          obtain ⟨t0, t1, ff⟩ := box2 (B7.out.boxes 1 _ _ _ rfl).1
          have f0 := ff 0
          have f1 := ff 1
          clear ff
          have hcase : (kind % 5 = 2 ∧ sp2 = N) ∨ (kind % 5 ≠ 2 ∧ sp2 = 0) := by
            by_cases e : kind % 5 = 2
            · exact .inl ⟨e, by rw [hsp1, if_pos e]⟩
            · exact .inr ⟨e, by rw [hsp1, if_neg e]⟩
          obtain ⟨hk0, hk1⟩ := hkind
          clear hsp1 B7
          generalize hspn : sp + sp2 = spn at *
          rcases hcase with ⟨hk5, rfl⟩ | ⟨hk5, rfl⟩
          case' inr => obtain rfl : spn = sp := by omega
          all_goals
            go_wp2_with (first
              | (go_at_call 11; (with_reducible refine (hfind _ _ _ B8.out.rows.rest).mono ?_); rintro e u3 ⟨pr, cr, rfl, hl3, hb⟩; have B9 := Lib.hid ((B8.out.on hb).box #[.int .i64 fk, .int .i64 fa, .int .i64 fm, .slice pr fn (cr + fn)] 38 (by decide)); have L9 := Lib.hid (hl3.below ((Below.refl u3.heap.size u3).alloc (Nat.le_refl _) (.cells #[.int .i64 fk, .int .i64 fa, .int .i64 fm, .slice pr fn (cr + fn)] 38))); obtain ⟨r0, r1, r2, r3, -⟩ := box4 (B9.out.boxes 0 _ _ _ rfl).1; clear hl3 hb hfind B8)
              | (go_at_call 20; (with_reducible refine (htot _ _ _ L9.out).mono ?_); rintro e u4 ⟨rfl, hb⟩; have B10 := Lib.hid (B9.out.on hb); clear r0 r1 r2 r3 hb L9 htot B9; obtain ⟨r0, r1, r2, r3, -⟩ := box4 (B10.out.boxes 0 _ _ _ rfl).1; obtain ⟨k0, k1, -⟩ := box2 (B10.out.boxes 4 _ _ _ rfl).1))
            have HLT2 := HLT.out
            have HLM2 := HLM.out
            have HLS2 := HLS.out
            go_loopw [20] (fun k wx => ∃ kk : Nat, kk ≤ j ∧ k = .int .i64 (kk : Int) ∧ Hid (Bud W ([(u3.heap.size, #[.int .i64 fk, .int .i64 fa, .int .i64 fm, .slice pr fn (cr + fn)], 38), (W.heap.size + 1 + 1 + 1, #[.int .i64 ys, .slice px yn (cx + yn)], 24), (W.heap.size + 1 + 1, #[.int .i64 0, .int .i64 0, .int .i64 0, .int .i64 0, .int .i64 0, .int .i64 0, .int .i64 16, .int .i64 0, .slice (some ⟨W.heap.size + 1, 0, none⟩) 1 1], 27), (W.heap.size + 1, #[.int .i64 R, .int .i64 B], 44), (W.heap.size, #[.int .i64 R, .int .i64 B], 44)] ++ [(bA, curA, 32)]) px yr (.slice p1 j c1) (.slice p2 j c2) (.slice p3 j c3) TS MS SS wx)) (fun k _ => j - (intOf k).toNat)
            case atStart => exact ⟨0, by omega, rfl, B10⟩
            case round =>
              obtain ⟨kk, hkj, rfl, hB2⟩ := hrel
              clear r0 r1 r2 r3 k0 k1 B10
              by_cases hkl : kk < j
              · obtain ⟨b1, rfl, e1⟩ := own_cell hB2.out.o1 (k := kk) (by rw [HLT2]; exact hkl)
                obtain ⟨b2, rfl, e2⟩ := own_cell hB2.out.o2 (k := kk) (by rw [HLM2]; exact hkl)
                obtain ⟨b3, rfl, e3⟩ := own_cell hB2.out.o3 (k := kk) (by rw [HLS2]; exact hkl)
                have hkl' : (kk : Int) < (j : Int) := by omega
                have hkl0 : (0 : Int) ≤ (kk : Int) := by omega
                have hq := HQ.out kk hkl
                obtain ⟨d1, d2, d3, d4, d5, d6, -⟩ := HBND.out kk hkl
                obtain ⟨k0, -, -⟩ := box2 (hB2.out.boxes 4 _ _ _ rfl).1
                obtain ⟨-, -, r2, -, -⟩ := box4 (hB2.out.boxes 0 _ _ _ rfl).1
                generalize TS.getD kk 0 = tk at *
                generalize MS.getD kk 0 = mk at *
                generalize SS.getD kk 0 = sk at *
                have hw1 : IntKind.i64.wrap (fm - mk) = fm - mk := wrap_in (by omega) (by omega)
                have hw2 : IntKind.i64.wrap (spn - sk) = spn - sk := wrap_in (by omega) (by omega)
                have hmul := rmul_any R (fm - mk)
                generalize mul R (fm - mk) = mx at *
                have htwo := rtwo_any tk mx
                generalize add [tk, mx] = ax at *
                have hq' : decide (ax < spn - sk) = false := decide_eq_false (by omega)
                go_wp2
                go_region_held3 (fun u => u.cell? ⟨b3, kk, none⟩ = some (.int .i64 sk) ∧ u.cell? ⟨b1, kk, none⟩ = some (.int .i64 tk) ∧ u.cell? ⟨W.heap.size, 0, none⟩ = some (.int .i64 R) ∧ u.cell? ⟨u3.heap.size, 2, none⟩ = some (.int .i64 fm) ∧ u.cell? ⟨b2, kk, none⟩ = some (.int .i64 mk)) (first | assumption | exact ⟨e3, e1, k0, r2, e2⟩) (first
                  | (go_at_call 23; (with_reducible refine (hmul _).mono ?_); rintro e u5 ⟨rfl, rfl⟩)
                  | (go_at_call 22; (with_reducible refine (htwo _).mono ?_); rintro e u5 ⟨rfl, rfl⟩))
                all_goals
                  go_wp2
                  go_roundw
                  case rel => exact ⟨kk + 1, by omega, by go_num, Lib.hid (hB2.out.on (by first | exact (Below.refl _ _).drew | exact below_drewN _ _ | exact (Below.refl _ _).drew.drew))⟩
                  case measure => simp [intOf]; omega
              · obtain rfl : kk = j := by omega
                obtain ⟨-, -, r2, -, -⟩ := box4 (hB2.out.boxes 0 _ _ _ rfl).1
                have hlen : kk ≤ 100000 := by omega
                have BA := Lib.hid (fun (x : Int) => hB2.out.on ((Below.refl _ _).alloc (Nat.le_refl _) (.cells #[.int .i64 x] 3)))
                go_wp2_with (first
                  | (at_builtin; refine push_int rfl (.tmp 138) (.tmp 140) rfl W.heap.size (.slice p1 kk c1) rfl TS kk HLT2 (BA.out tt).o1 (BA.out tt).below.size _ tt rfl (heap_alloc_new _ _) hlen ?_; intro q1 d1 w4 R4 G4 A4; have B12 := Lib.hid ((BA.out tt).push1 R4.out G4 A4).rot; have BC := Lib.hid (fun (x : Int) => B12.out.on ((Below.refl _ _).alloc (Nat.le_refl _) (.cells #[.int .i64 x] 3))); clear r2 R4 G4 A4 BA; obtain ⟨-, -, r2, -, -⟩ := box4 (B12.out.boxes 0 _ _ _ rfl).1)
                  | (at_builtin; refine push_int rfl (.tmp 142) (.tmp 145) rfl W.heap.size (.slice p2 kk c2) rfl MS kk HLM2 (BC.out fm).o1 (BC.out fm).below.size _ fm rfl (heap_alloc_new _ _) hlen ?_; intro q2 d2 w5 R5 G5 A5; have B13 := Lib.hid ((BC.out fm).push1 R5.out G5 A5).rot; have BE := Lib.hid (fun (x : Int) => B13.out.on ((Below.refl _ _).alloc (Nat.le_refl _) (.cells #[.int .i64 x] 3))); clear r2 R5 G5 A5 BC B12)
                  | (at_builtin; refine push_int rfl (.tmp 147) (.tmp 149) rfl W.heap.size (.slice p3 kk c3) rfl SS kk HLS2 (BE.out spn).o1 (BE.out spn).below.size _ spn rfl (heap_alloc_new _ _) hlen ?_; intro q3 d3 w6 R6 G6 A6; have B14 := Lib.hid ((BE.out spn).push1 R6.out G6 A6).rot; clear R6 G6 A6 BE B13))
                go_roundw
                case rel => exact ⟨kk + 1, ⟨ys, yr⟩, px, cx, q1, q2, q3, d1, d2, d3, TS ++ [tt], MS ++ [fm], SS ++ [spn], spn, by omega, by go_num, rfl, rfl, rfl, rfl, HYI, HO2, by rw [HFF.out, HTT.out]; exact HP, by simp only [HYN.out]; exact Lib.hid (B14.out.sub (by simp))⟩
                case measure => simp [intOf]; omega
    · go_wp2_with (go_at_call 7; (with_reducible refine (hal _).mono ?_); rintro e u2 ⟨rfl, hb⟩)
      go_ret
      exact ⟨rfl, hB.out.below.trans (hb.mono hB.out.below.size)⟩
end Go.Proofs.Ytcnnepmhdccipaa.Ledger
