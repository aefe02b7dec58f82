/-
  The document's keys of an edge: of its items, and of its estimates, as one list that rises.
  The document's Same, of two lists of items that are one; the law's Of; the document's Sum.
  The document's Wants of an edge.
  What is asked of the program's edge, whatever its blocks are: a predicate on memory, and what each call tells and leaves (Way14).
-/
import Derived.Laws.StructEq
import Derived.Test.YtlbpeeelgpjciaaGreatMgAe
import Derived.Test.YtlbpeeelgpjciaaGreatMgAk
import Derived.Test.YtlbpeeelgpjciaaGreatMgAf
import Derived.Test.YtlbpeeelgpjciaaGreatMgAh
import Derived.Test.YtlbpeeelgpjciaaGreatMgAj
import Derived.Test.YtlbpeeelgpjciaaGreatMgAi
namespace Go.Proofs.YtlbpeeelgpjciaaGreat.Edge
open Go.RowKit
open _root_.Go.Proofs.YtlbpeeelgpjciaaGreat.Codec (lt_of_heap frozen_of heap_set below_new)
open _root_.Go.Proofs.YtlbpeeelgpjciaaGreat.Kit (Enc Lies At Kept Laid Off cell_on lt_heap take_snoc below_drewN ints)

theorem lay' (w : World) (o : Obj) : Below w.heap.size w (w.alloc o) := (Below.refl _ w).alloc (Nat.le_refl _) o
/-- A slice of numbers that is cut from the front. -/
def Sl (w : World) (l : List Int) (v : Value) : Prop := ∃ p n c, v = .slice p n c ∧ l.length = n ∧ n ≤ c ∧ Lies ints w p l
theorem Sl.on {w w' : World} {l : List Int} {v : Value} (h : Sl w l v) (hb : Below w.heap.size w w') : Sl w' l v := by
  obtain ⟨p, n, c, e, h1, h2, h3⟩ := h
  exact ⟨p, n, c, e, h1, h2, h3.below hb⟩
theorem sl_own {w : World} {B : Nat} {v : Value} {l : List Int} (h : Kit.Own ints 3 B w v l) : Sl w l v := by
  obtain ⟨p, c, rfl, hl⟩ := h.lies
  refine ⟨p, _, c, rfl, rfl, ?_, hl⟩
  rcases h.2 with ⟨e, h0⟩ | ⟨g, cap, cur, e, h1, h2, h3, h4, h5⟩
  · omega
  · simp only [Value.slice.injEq] at e
    omega
def lenOf : Value → Nat
  | .slice _ n _ => n
  | _ => 0
/-- The first one, and the rest. -/
theorem Sl.cut {w : World} {x : Int} {l : List Int} {v : Value} (h : Sl w (x :: l) v) : ∃ b o c, v = .slice (some ⟨b, o, none⟩) (l.length + 1) c ∧ w.cell? ⟨b, o, none⟩ = some (.int .i64 x) ∧
    ∃ q d, (∀ W : World, (Instr.slice 106 (.slice (some ⟨b, o, none⟩) (l.length + 1) c) (some (.int .i64 1)) none none).run Tryz.prog W = .ok (.slice q l.length d) W) ∧ Sl w l (.slice q l.length d) := by
  obtain ⟨p, n, c, rfl, h1, h2, h3⟩ := h
  rcases h3 with h3 | ⟨b, o, rfl, hc⟩
  · cases h3
  · subst h1
    have k0 := hc 0 (by simp) 0 _ rfl
    simp only [List.getD_cons_zero, Nat.zero_mul, Nat.add_zero] at k0
    refine ⟨b, o, c, rfl, k0, ?_⟩
    have hsz : ∀ W : World, (sizeOf 3).run Tryz.prog W = .ok 1 W := fun W => by kernel_rfl
    rw [List.length_cons] at h2
    by_cases h : c = 1
    · subst h
      have hl : l = [] := List.eq_nil_of_length_eq_zero (by omega)
      subst hl
      exact ⟨some ⟨b, o, none⟩, 0, fun W => by simp [Instr.slice, Instr.sliceBounds, run_underlying Tryz.underlying106, hsz, go_sem], some ⟨b, o, none⟩, 0, 0, rfl, rfl, Nat.le_refl _, .inl rfl⟩
    · refine ⟨some ⟨b, o + 1, none⟩, c - 1, fun W => ?_, some ⟨b, o + 1, none⟩, l.length, c - 1, rfl, rfl, by omega, .inr ⟨b, o + 1, rfl, fun j hj k u hu => ?_⟩⟩
      · simp [Instr.slice, Instr.sliceBounds, run_underlying Tryz.underlying106, hsz, go_sem, h, Addr.add]
        intro h3
        omega
      · have := hc (j + 1) (by simpa using hj) k u (by simpa [List.getD] using hu)
        rw [show ints.n = 1 from rfl] at this ⊢
        rw [show o + 1 + j * 1 + k = o + (j + 1) * 1 + k by omega]
        exact this
theorem Sl.cutn {w : World} {x : Int} {l : List Int} {v : Value} (h : Sl w (x :: l) v) : ∃ n b o c, v = .slice (some ⟨b, o, none⟩) n c ∧ n = l.length + 1 ∧ w.cell? ⟨b, o, none⟩ = some (.int .i64 x) ∧
    ∃ q r d, r = l.length ∧ (∀ W : World, (Instr.slice 106 (.slice (some ⟨b, o, none⟩) n c) (some (.int .i64 1)) none none).run Tryz.prog W = .ok (.slice q r d) W) ∧ Sl w l (.slice q r d) := by
  obtain ⟨b, o, c, e, k0, q, d, hc, hs⟩ := h.cut
  exact ⟨_, b, o, c, e, rfl, k0, q, _, d, rfl, hc, hs⟩
theorem merge_nil (l : List Int) : merge l [] = l := by cases l <;> simp [merge]
theorem merge_lt {a b : Int} (l m : List Int) (h : a < b) : merge (a :: l) (b :: m) = a :: merge l (b :: m) := by rw [merge, if_pos h]
theorem merge_eq (a : Int) (l m : List Int) : merge (a :: l) (a :: m) = a :: merge l m := by rw [merge, if_neg (by omega), if_pos rfl]
theorem merge_gt {a b : Int} (l m : List Int) (h : b < a) : merge (a :: l) (b :: m) = b :: merge (a :: l) m := by rw [merge, if_neg (by omega), if_neg (by omega)]
set_option maxRecDepth 100000 in
set_option maxHeartbeats 4000000 in
theorem rkeys_any {B v : Nat} {c : Cf} {e : Eg} {w : World} (h : Ed B w v c e) (hB : B ≤ w.heap.size) (hf : e.Q.length ≤ 150 ∧ e.D.length ≤ 150) :
    Calls Tryz.prog 91 #[.pointer (some ⟨v, 0, none⟩)] w fun e' w' => ∃ y, e' = .returned y ∧ Kit.Own ints 3 w.heap.size w' y (keys e) ∧ Below w.heap.size w w' := by
  have c1 := Queue2.rkeys_own h.qu (by omega)
  have c2 := Lib.hid (fun u (hu : Below w.heap.size w u) => Demand2.rkeys_own (h.below hB hu).dm (by omega))
  have hq := Queue.keys_len e.Q
  have hd := Demand.keys_len e.D
  have HK := Lib.hid (show keys e = merge (Queue.keys e.Q) (Demand.keys e.D) from rfl)
  generalize keys e = R at *
  generalize Queue.keys e.Q = A at *
  generalize Demand.keys e.D = D at *
  clear h hB
  go_enter Tryz.func91, Tryz.ntmps91
  go_wp2_with (first
    | (go_at_call 133; (with_reducible refine c1.mono ?_); rintro e1 w1 ⟨p1, k1, rfl, ho, hb⟩; have HO1 := Lib.hid ho; have HB1 := Lib.hid hb; clear ho hb c1)
    | (go_at_call 134; (with_reducible refine (c2.out _ HB1.out).mono ?_); rintro e1 w2 ⟨p2, k2, rfl, ho, hb⟩; have S1 := Lib.hid ((sl_own HO1.out).on hb); have S2 := Lib.hid (sl_own ho); have HB2 := Lib.hid (HB1.out.trans (hb.mono HB1.out.size)); clear ho hb c2))
  go_loopw [3, 4, 5] (fun va vb y wr => ∃ (l m done : List Int), Hid (Sl w2 l va) ∧ Hid (Sl w2 m vb) ∧ Hid (Kit.Own ints 3 w2.heap.size wr y done) ∧ Hid (done ++ merge l m = R) ∧ (done.length + l.length + m.length ≤ 300) ∧ Hid (Below w2.heap.size w2 wr)) (fun va vb _ _ => lenOf va + lenOf vb)
  case atStart => exact ⟨A, D, [], S1, S2, Lib.hid (Kit.Own.none _ _ _ _), Lib.hid (by rw [HK.out]; rfl), by simp; omega, Lib.hid (Below.refl _ _)⟩
  case round =>
    obtain ⟨l, m, done, hl, hm, ho, hR, hn, hbw⟩ := hrel
    clear S1 S2 HK HO1 HB1
    obtain ⟨py, ky, rfl, -⟩ := ho.out.lies
    obtain ⟨nd, hnd⟩ : ∃ nd, done.length = nd := ⟨_, rfl⟩
    have hn' : nd + l.length + m.length ≤ 300 := by omega
    rw [hnd] at ho
    rw [hnd]
    have HND := Lib.hid hnd
    clear hnd hn
    have HB0 := hbw
    have HO0 := ho
    clear hbw ho
    rcases l with - | ⟨x, l⟩
    · obtain ⟨pa, na, ka, rfl, ha1, ha2, -⟩ := hl.out
      simp only [List.length_nil] at ha1
      subst ha1
      rcases m with - | ⟨z, m⟩
      · obtain ⟨pb, nb, kb, rfl, hb1, hb2, -⟩ := hm.out
        simp only [List.length_nil] at hb1
        subst hb1
        have HE := Lib.hid (show done = R by have := hR.out; simpa [merge] using this)
        clear hR hl hm
        go_wp2
        go_ret
        exact ⟨_, rfl, by rw [← HE.out]; exact Kit.Own.lower HO0.out HB2.out.size, HB2.out.trans (HB0.out.mono HB2.out.size)⟩
      · obtain ⟨nb, bb, ob, kb, rfl, hnb, xb, qb, rb, db, hrb, hcutb, hsb⟩ := hm.out.cutn
        have HSb := Lib.hid hsb
        have gb1 : (0 : Int) < (nb : Int) := by omega
        have gb2 : ((nb : Int) == 0) = false := by rw [beq_eq_false_iff_ne]; omega
        have gb3 : 0 < nb := by omega
        have gb4 : (nb == 0) = false := by rw [beq_eq_false_iff_ne]; omega
        have gb5 : ¬ nb = 0 := by omega
        have HNb := Lib.hid hnb
        have HRb := Lib.hid hrb
        have HCb := Lib.hid (fun u (hu : Below w2.heap.size w2 u) => cell_on xb hu)
        clear hnb hrb hsb xb
        have HE := Lib.hid (show (done ++ [z]) ++ merge [] m = R by have := hR.out; simpa [merge] using this)
        have hla := hl
        have hlen : nd ≤ 300 := by omega
        clear hR hl hm
        have xb := HCb.out _ HB0.out
        go_wp2
        go_quiet (fail)
        have HB3 := Lib.hid (HB0.out.trans ((below_drewN wr nq).mono HB0.out.size))
        have HO3 := Lib.hid (HO0.out.on (below_drewN wr nq))
        clear HB0 HO0 xb
        generalize wr.drewN nq = w3 at *
        have xb := HCb.out _ HB3.out
        go_wp2
        go_quiet (fail)
        have HB4 := Lib.hid (HB3.out.trans ((below_drewN w3 nq).mono HB3.out.size))
        have HO4 := Lib.hid (HO3.out.on (below_drewN w3 nq))
        clear HB3 HO3 xb
        generalize w3.drewN nq = w4 at *
        have xb := HCb.out _ HB4.out
        go_wp2_with (at_builtin; refine Kit.push Queue2.laidI rfl _ _ rfl w2 w4 (.slice py nd ky) rfl done nd HND.out HO4.out HB4.out (lay' _ _) w4.heap.size z rfl (heap_alloc_new _ _) (by omega) ?_; intro p6 c6 w6 R6 B6)
        go_roundw
        case rel => exact ⟨[], m, done ++ [z], hla, HSb, R6, HE, by have h1 := hn'; simp only [List.length_cons, List.length_nil] at h1; simp; have := HND.out; omega, Lib.hid B6⟩
        case measure => simp only [lenOf]; have h1 := HNb.out; have h2 := HRb.out; omega
    · obtain ⟨na, ba, oa, ka, rfl, hna, xa, qa, ra, da, hra, hcuta, hsa⟩ := hl.out.cutn
      have HSa := Lib.hid hsa
      have ga1 : (0 : Int) < (na : Int) := by omega
      have ga2 : ((na : Int) == 0) = false := by rw [beq_eq_false_iff_ne]; omega
      have ga3 : 0 < na := by omega
      have ga4 : (na == 0) = false := by rw [beq_eq_false_iff_ne]; omega
      have ga5 : ¬ na = 0 := by omega
      have HNa := Lib.hid hna
      have HRa := Lib.hid hra
      have HCa := Lib.hid (fun u (hu : Below w2.heap.size w2 u) => cell_on xa hu)
      clear hna hra hsa xa
      rcases m with - | ⟨z, m⟩
      · obtain ⟨pb, nb, kb, rfl, hb1, hb2, -⟩ := hm.out
        simp only [List.length_nil] at hb1
        subst hb1
        have HE := Lib.hid (show (done ++ [x]) ++ merge l [] = R by have := hR.out; simp [merge_nil] at this ⊢; exact this)
        have hmb := hm
        have hlen : nd ≤ 300 := by omega
        clear hR hl hm
        have xa := HCa.out _ HB0.out
        go_wp2
        go_quiet (fail)
        have HB3 := Lib.hid (HB0.out.trans ((below_drewN wr nq).mono HB0.out.size))
        have HO3 := Lib.hid (HO0.out.on (below_drewN wr nq))
        clear HB0 HO0 xa
        generalize wr.drewN nq = w3 at *
        have xa := HCa.out _ HB3.out
        go_wp2_with (at_builtin; refine Kit.push Queue2.laidI rfl _ _ rfl w2 w3 (.slice py nd ky) rfl done nd HND.out HO3.out HB3.out (lay' _ _) w3.heap.size x rfl (heap_alloc_new _ _) (by omega) ?_; intro p6 c6 w6 R6 B6)
        go_roundw
        case rel => exact ⟨l, [], done ++ [x], HSa, hmb, R6, HE, by have h1 := hn'; simp only [List.length_cons, List.length_nil] at h1; simp; have := HND.out; omega, Lib.hid B6⟩
        case measure => simp only [lenOf]; have h1 := HNa.out; have h2 := HRa.out; omega
      · obtain ⟨nb, bb, ob, kb, rfl, hnb, xb, qb, rb, db, hrb, hcutb, hsb⟩ := hm.out.cutn
        have HSb := Lib.hid hsb
        have gb1 : (0 : Int) < (nb : Int) := by omega
        have gb2 : ((nb : Int) == 0) = false := by rw [beq_eq_false_iff_ne]; omega
        have gb3 : 0 < nb := by omega
        have gb4 : (nb == 0) = false := by rw [beq_eq_false_iff_ne]; omega
        have gb5 : ¬ nb = 0 := by omega
        have HNb := Lib.hid hnb
        have HRb := Lib.hid hrb
        have HCb := Lib.hid (fun u (hu : Below w2.heap.size w2 u) => cell_on xb hu)
        clear hnb hrb hsb xb
        have hlen : nd ≤ 300 := by omega
        have hml := Lib.hid hn'
        have hlkeep := hl
        have hmkeep := hm
        clear hl hm hn'
        have xa := HCa.out _ HB0.out
        have xb := HCb.out _ HB0.out
        rcases Int.lt_trichotomy x z with hlt | heq | hgt
        · have HE := Lib.hid (show (done ++ [x]) ++ merge l (z :: m) = R by have := hR.out; rw [merge_lt _ _ hlt] at this; simpa using this)
          have HSB := Lib.hid (show Sl w2 (z :: m) (.slice (some ⟨bb, ob, none⟩) nb kb) from hmkeep.out)
          clear hR
          go_wp2
          go_quiet (fail)
          have HB3 := Lib.hid (HB0.out.trans ((below_drewN wr nq).mono HB0.out.size))
          have HO3 := Lib.hid (HO0.out.on (below_drewN wr nq))
          clear HB0 HO0 xa xb
          generalize wr.drewN nq = w3 at *
          have xa := HCa.out _ HB3.out
          have xb := HCb.out _ HB3.out
          go_wp2_with (at_builtin; refine Kit.push Queue2.laidI rfl _ _ rfl w2 w3 (.slice py nd ky) rfl done nd HND.out HO3.out HB3.out (lay' _ _) w3.heap.size x rfl (heap_alloc_new _ _) (by omega) ?_; intro p6 c6 w6 R6 B6)
          go_roundw
          case rel => exact ⟨l, z :: m, done ++ [x], HSa, HSB, R6, HE, by simp; have h1 := hml.out; have h2 := HND.out; simp at h1; omega, Lib.hid B6⟩
          case measure => simp only [lenOf]; have h1 := HNa.out; have h2 := HRa.out; omega
        · subst heq
          have HE := Lib.hid (show (done ++ [x]) ++ merge l m = R by have := hR.out; rw [merge_eq] at this; simpa using this)
          have hxx : ¬ x < x := Int.lt_irrefl x
          have hxe : (x == x) = true := by simp
          clear hR
          go_wp2
          go_quiet (fail)
          have HB3 := Lib.hid (HB0.out.trans ((below_drewN wr nq).mono HB0.out.size))
          have HO3 := Lib.hid (HO0.out.on (below_drewN wr nq))
          clear HB0 HO0 xa xb
          generalize wr.drewN nq = w3 at *
          have xa := HCa.out _ HB3.out
          have xb := HCb.out _ HB3.out
          go_wp2
          go_quiet (fail)
          have HB4 := Lib.hid (HB3.out.trans ((below_drewN w3 nq).mono HB3.out.size))
          have HO4 := Lib.hid (HO3.out.on (below_drewN w3 nq))
          clear HB3 HO3 xa xb
          generalize w3.drewN nq = w4 at *
          have xa := HCa.out _ HB4.out
          have xb := HCb.out _ HB4.out
          go_wp2_with (at_builtin; refine Kit.push Queue2.laidI rfl _ _ rfl w2 w4 (.slice py nd ky) rfl done nd HND.out HO4.out HB4.out (lay' _ _) w4.heap.size x rfl (heap_alloc_new _ _) (by omega) ?_; intro p6 c6 w6 R6 B6)
          go_roundw
          case rel => exact ⟨l, m, done ++ [x], HSa, HSb, R6, HE, by simp; have h1 := hml.out; have h2 := HND.out; simp at h1; omega, Lib.hid B6⟩
          case measure => simp only [lenOf]; have h1 := HNa.out; have h2 := HRa.out; have h3 := HNb.out; have h4 := HRb.out; omega
        · have HE := Lib.hid (show (done ++ [z]) ++ merge (x :: l) m = R by have := hR.out; rw [merge_gt _ _ hgt] at this; simpa using this)
          have HSA := Lib.hid (show Sl w2 (x :: l) (.slice (some ⟨ba, oa, none⟩) na ka) from hlkeep.out)
          have hxx : ¬ x < z := by omega
          have hxe : (x == z) = false := by rw [beq_eq_false_iff_ne]; omega
          clear hR
          go_wp2
          go_quiet (fail)
          have HB3 := Lib.hid (HB0.out.trans ((below_drewN wr nq).mono HB0.out.size))
          have HO3 := Lib.hid (HO0.out.on (below_drewN wr nq))
          clear HB0 HO0 xa xb
          generalize wr.drewN nq = w3 at *
          have xa := HCa.out _ HB3.out
          have xb := HCb.out _ HB3.out
          go_wp2
          go_quiet (fail)
          have HB4 := Lib.hid (HB3.out.trans ((below_drewN w3 nq).mono HB3.out.size))
          have HO4 := Lib.hid (HO3.out.on (below_drewN w3 nq))
          clear HB3 HO3 xa xb
          generalize w3.drewN nq = w4 at *
          have xa := HCa.out _ HB4.out
          have xb := HCb.out _ HB4.out
          go_wp2_with (at_builtin; refine Kit.push Queue2.laidI rfl _ _ rfl w2 w4 (.slice py nd ky) rfl done nd HND.out HO4.out HB4.out (lay' _ _) w4.heap.size z rfl (heap_alloc_new _ _) (by omega) ?_; intro p6 c6 w6 R6 B6)
          go_roundw
          case rel => exact ⟨x :: l, m, done ++ [z], HSA, HSb, R6, HE, by simp; have h1 := hml.out; have h2 := HND.out; simp at h1; omega, Lib.hid B6⟩
          case measure => simp only [lenOf]; have h1 := HNb.out; have h2 := HRb.out; omega
end Go.Proofs.YtlbpeeelgpjciaaGreat.Edge

namespace Go.Proofs.YtlbpeeelgpjciaaGreat.Queue2
open _root_.Go.Proofs.YtlbpeeelgpjciaaGreat.Queue
variable {ov : Nat}
open Go.RowKit
open _root_.Go.Proofs.YtlbpeeelgpjciaaGreat.Codec (lt_of_heap frozen_of heap_set below_new own_below)
open _root_.Go.Proofs.YtlbpeeelgpjciaaGreat.Kit (Enc Lies Own At Kept Laid cell_on lt_heap take_snoc below_drewN box5)

/-- Are they the same? -/
def same5 (a b : It) : Bool := a.id == b.id && (a.key == b.key && (a.cost == b.cost && (a.cls == b.cls && a.til == b.til)))
theorem same5_iff {a b : It} : same5 a b = true ↔ a = b := by
  obtain ⟨a1, a2, a3, a4, a5⟩ := a
  obtain ⟨b1, b2, b3, b4, b5⟩ := b
  simp [same5]
theorem eq5 (a b : It) (w : World) : (Op.equalIn 10000 95 (val a) (val b)).run Tryz.prog w = .ok (same5 a b) w := by
  obtain ⟨a1, a2, a3, a4, a5⟩ := a
  obtain ⟨b1, b2, b3, b4, b5⟩ := b
  unfold val same5
  rw [run_equalIn_agg w 9999 _ _ _ (by kernel_rfl) (by kernel_rfl)]
  have e : ∀ (a b : Int) (w : World), (Op.equalIn 9999 3 (.int .i64 a) (.int .i64 b)).run Tryz.prog w = .ok (a == b) w := fun a b w => run_equalIn_int w 9998 _ _ _ a b Tryz.underlying3
  by_cases h1 : a1 = b1
  · by_cases h2 : a2 = b2
    · by_cases h3 : a3 = b3
      · by_cases h4 : a4 = b4
        · by_cases h5 : a5 = b5
          · simp [Program.fieldsOf, Tryz.underlying95, Op.eqFields, part, isAgg, run_underlying Tryz.underlying3, e, h1, h2, h3, h4, h5]
          · simp [Program.fieldsOf, Tryz.underlying95, Op.eqFields, part, isAgg, run_underlying Tryz.underlying3, e, h1, h2, h3, h4, h5]
        · simp [Program.fieldsOf, Tryz.underlying95, Op.eqFields, part, isAgg, run_underlying Tryz.underlying3, e, h1, h2, h3, h4]
      · simp [Program.fieldsOf, Tryz.underlying95, Op.eqFields, part, isAgg, run_underlying Tryz.underlying3, e, h1, h2, h3]
    · simp [Program.fieldsOf, Tryz.underlying95, Op.eqFields, part, isAgg, run_underlying Tryz.underlying3, e, h1, h2]
  · simp [Program.fieldsOf, Tryz.underlying95, Op.eqFields, part, isAgg, run_underlying Tryz.underlying3, e, h1]
theorem neq5 (a b : It) (w : World) : (binOp .neq 95 (val a) (val b)).run Tryz.prog w = .ok (.bool (!same5 a b)) w := by
  have := eq5 a b w
  unfold val at this ⊢
  rw [run_neq_struct, this]; rfl
theorem eql5 (a b : It) (w : World) : (binOp .eql 95 (val a) (val b)).run Tryz.prog w = .ok (.bool (same5 a b)) w := by
  have := eq5 a b w
  unfold val at this ⊢
  rw [run_eql_struct, this]; rfl

/-- Two lists that lie are the same list: Same says so. -/
theorem rsame_any {l : List It} {p q : Option Addr} {c d : Nat} {w : World} (h : Lies item w p l) (h' : Lies item w q l) (hl : l.length ≤ 1000) :
    Calls Tryz.prog 11 #[.slice p l.length c, .slice q l.length d] w fun e w' => e = .returned (.bool true) ∧ Below w.heap.size w w' := by
  have HB := Lib.hid (Below.refl w.heap.size w)
  have HL := Lib.hid h
  have HM := Lib.hid h'
  clear h h'
  have hne : ((l.length : Int) != (l.length : Int)) = false := by simp
  go_enter Tryz.func11, Tryz.ntmps11
  go_wp2
  go_loopw [5] (fun i wr => ∃ j : Nat, j ≤ l.length ∧ i = .int .i64 (j : Int) ∧ Hid (Below w.heap.size w wr)) (fun i _ => l.length - (intOf i).toNat)
  case atStart => exact ⟨0, by omega, rfl, HB⟩
  case round =>
    obtain ⟨j, hj, rfl, hbw⟩ := hrel
    by_cases hlt : j < l.length
    · obtain ⟨b, o, rfl, ha⟩ := lies_at (HL.out.below hbw.out) hlt
      obtain ⟨k0, k1, k2, k3, k4⟩ := at5 ha
      obtain ⟨b', o', rfl, ha'⟩ := lies_at (HM.out.below hbw.out) hlt
      obtain ⟨x0, x1, x2, x3, x4⟩ := at5 ha'
      have hlt' : (j : Int) < (l.length : Int) := by omega
      have heq := fun i => neq5 (l.getD j z) (l.getD j z) (wr.drewN i)
      rw [same5_iff.2 rfl] at heq
      clear HL HM ha ha'
      generalize l.getD j z = x at *
      obtain ⟨xi, xk, xc, xs, xt⟩ := x
      simp only [val, Bool.not_true] at heq k0 k1 k2 k3 k4 x0 x1 x2 x3 x4
      go_wp2
      go_quiet (fail)
      go_wp2
      go_roundw
      case rel => exact ⟨j + 1, by omega, by go_num, Lib.hid (hbw.out.trans ((below_drewN _ _).mono hbw.out.size))⟩
      case measure => simp only [intOf]; omega
    · have hlt' : ¬ (j : Int) < (l.length : Int) := by omega
      clear HL HM
      go_wp2
      go_ret
      exact ⟨rfl, hbw.out⟩

set_option maxRecDepth 100000 in
set_option maxHeartbeats 4000000 in
/-- Of: the program's items, as the document has them. -/
theorem of_any {l : List It} {p : Option Addr} {c : Nat} {w : World} (h : Lies item w p l) (hl : l.length ≤ 1000) :
    Calls Tryz.prog 12 #[.slice p l.length c] w fun e w' => ∃ q d, e = .returned (.slice q l.length d) ∧ Lies item w' q l ∧ Below w.heap.size w w' := by
  have HL := Lib.hid h
  clear h
  go_enter Tryz.func12, Tryz.ntmps12
  go_wp2
  go_loopw [3, 4] (fun y i wr => ∃ (j : Nat) (q : Option Addr) (d : Nat), j ≤ l.length ∧ i = .int .i64 (j : Int) ∧ y = .slice q j d ∧ Hid (Own item 95 w.heap.size wr y (l.take j)) ∧ Below w.heap.size w wr) (fun _ i _ => l.length - (intOf i).toNat)
  case atStart => exact ⟨0, none, 0, by omega, rfl, rfl, Lib.hid (Own.none _ _ _ _), Below.refl _ _⟩
  case round =>
    obtain ⟨j, q, d, hj, rfl, rfl, hown, hbw⟩ := hrel
    have HBW := Lib.hid hbw
    by_cases hlt : j < l.length
    · obtain ⟨b, o, rfl, ha⟩ := lies_at (HL.out.below hbw) hlt
      obtain ⟨k0, k1, k2, k3, k4⟩ := at5 ha
      have hlt' : (j : Int) < (l.length : Int) := by omega
      have HT := Lib.hid (take_snoc z hlt)
      have HN := Lib.hid (show (l.take j).length = j by simp; omega)
      clear hbw ha HL
      generalize l.getD j z = x at *
      generalize l.take j = L at *
      obtain ⟨xi, xk, xc, xs, xt⟩ := x
      simp only at k0 k1 k2 k3 k4
      have HU := Lib.hid (fun (o : Obj) => (Below.refl wr.heap.size wr).alloc (Nat.le_refl _) o)
      have HG := Lib.hid (fun (o o' : Obj) => show ((wr.alloc o).alloc o').heap[wr.heap.size + 1]? = some o' from by have := heap_alloc_new (wr.alloc o) o'; simpa using this)
      go_wp2_with (at_builtin; refine Kit.push laidR rfl _ _ rfl w wr (.slice q j d) rfl L j HN.out hown.out HBW.out ((HU.out _).alloc (HU.out _).size _) (wr.heap.size + 1) ⟨xi, xk, xc, xs, xt⟩ rfl (HG.out _ _) (by omega) ?_; intro p4 c4 w4 R4 B4)
      go_roundw
      case rel => exact ⟨j + 1, p4, c4, by omega, by go_num, rfl, by rw [HT.out]; exact R4, B4⟩
      case measure => simp only [intOf]; omega
    · have hlt' : ¬ (j : Int) < (l.length : Int) := by omega
      have e : j = l.length := by omega
      have hw := hown.out
      rw [List.take_of_length_le (by omega)] at hw
      obtain ⟨q', d', hq, hlies⟩ := hw.lies
      simp only [Value.slice.injEq] at hq
      obtain ⟨rfl, -, rfl⟩ := hq
      have HQ := Lib.hid hlies
      clear hlies hw hown
      go_wp2
      subst e
      refine bodyPost_ret (v := .slice q l.length d) (by simp [results, Tryz.results12, go_sem]) rfl ⟨q, ⟨d, rfl⟩, HQ.out, HBW.out⟩
theorem sums_at {l : List It} {j : Nat} (h : j < l.length) : sums (l.take (j + 1)) = Sat.add [sums (l.take j), (l.getD j z).cost] := by
  rw [take_snoc z h, sums_snoc]
set_option maxRecDepth 100000 in
set_option maxHeartbeats 4000000 in
theorem rsum_any {B v : Nat} {room : Int} {l : List It} {w : World} (h : Qu B w v ov room l) (hl : l.length ≤ 1000) (key : Int) :
    Calls Tryz.prog 93 #[.pointer (some ⟨v, ov, none⟩), .int .i64 key] w fun e w' => e = .returned (.int .i64 (sum l key)) ∧ Below w.heap.size w w' := by
  have HO := rof_any h hl key
  have HM := Lib.hid (show sum l key = sums (of l key) from rfl)
  have hm : (of l key).length ≤ 1000 := Nat.le_trans (of_len l key) hl
  generalize of l key = m at *
  have HS := Lib.hid (fun (j : Nat) (hj : j < m.length) => sums_at hj)
  have H0 := Lib.hid (show sums [] = 0 from rfl)
  generalize sums = SU at *
  generalize sum l key = R at *
  have ct := _root_.Go.Proofs.YtlbpeeelgpjciaaGreat.Sat.rtwo_any
  clear h
  go_enter Tryz.func93, Tryz.ntmps93
  go_wp2_with (go_at_call 77; (with_reducible refine HO.mono ?_); rintro e w1 ⟨p, c, rfl, hp, hb⟩; have HP := Lib.hid hp; have HB1 := Lib.hid hb; clear hp hb HO)
  go_loopw [6, 7] (fun s i wr => ∃ j : Nat, j ≤ m.length ∧ i = .int .i64 (j : Int) ∧ s = .int .i64 (SU (m.take j)) ∧ w1 = wr) (fun _ i _ => m.length - (intOf i).toNat)
  case atStart => exact ⟨0, by omega, rfl, by rw [List.take_zero, H0.out], rfl⟩
  case round =>
    obtain ⟨j, hj, rfl, rfl, rfl⟩ := hrel
    by_cases hlt : j < m.length
    · obtain ⟨b, o, rfl, ha⟩ := lies_at HP.out hlt
      obtain ⟨k0, k1, k2, k3, k4⟩ := at5 ha
      have hlt' : (j : Int) < (m.length : Int) := by omega
      have HE := Lib.hid (HS.out j hlt)
      clear ha HS
      generalize l.getD j z = x at *
      generalize (m.getD j z).cost = xc at *
      generalize SU (m.take j) = s0 at *
      have ct2 := ct s0 xc
      go_wp2_with (go_at_call 85; (with_reducible refine (ct2 _).mono ?_); rintro e w2 ⟨rfl, rfl⟩)
      go_roundw
      case rel => exact ⟨j + 1, by omega, by go_num, by rw [HE.out], trivial⟩
      case measure => simp only [intOf]; omega
    · have hlt' : ¬ (j : Int) < (m.length : Int) := by omega
      have HE := Lib.hid (show SU (m.take j) = R by rw [List.take_of_length_le (by omega), HM.out])
      generalize SU (m.take j) = s0 at *
      go_wp2
      go_ret
      exact ⟨by simp; exact HE.out, HB1.out⟩
end Go.Proofs.YtlbpeeelgpjciaaGreat.Queue2

namespace Go.Proofs.YtlbpeeelgpjciaaGreat.Edge
open Go.RowKit
open _root_.Go.Proofs.YtlbpeeelgpjciaaGreat.Codec (lt_of_heap frozen_of heap_set below_new)
open _root_.Go.Proofs.YtlbpeeelgpjciaaGreat.Kit (Enc Lies At Kept Laid Off cell_on lt_heap take_snoc below_drewN ints)

/-- Keys, and amounts. -/
def pair : Enc (Int × Int) := ⟨2, fun x => [.int .i64 x.1, .int .i64 x.2], (0, 0), by decide, fun _ => rfl, fun x u hu => by simp at hu; rcases hu with rfl | rfl <;> rfl⟩
theorem laidP : Laid Tryz.prog pair 98 96 := ⟨Tryz.underlying96, .agg #[.int .i64 0, .int .i64 0], 16, by kernel_rfl, rfl, by decide⟩
/-- What is wanted of the first ones. -/
def wantsOf (c : Cf) (e : Eg) (l : List Int) : List (Int × Int) := (l.map fun k => (k, amount c e k)).filter fun p => decide (0 < p.2)
theorem wants_at {c : Cf} {e : Eg} {l : List Int} {j : Nat} (h : j < l.length) : wantsOf c e (l.take (j + 1)) = if 0 < amount c e (l.getD j 0) then wantsOf c e (l.take j) ++ [(l.getD j 0, amount c e (l.getD j 0))] else wantsOf c e (l.take j) := by
  unfold wantsOf
  rw [take_snoc 0 h, List.map_append, List.filter_append]
  simp only [List.map_cons, List.map_nil, List.filter_cons, List.filter_nil, decide_eq_true_eq]
  split <;> simp
theorem wants_len (c : Cf) (e : Eg) (l : List Int) : (wantsOf c e l).length ≤ l.length := by
  unfold wantsOf
  exact Nat.le_trans (List.length_filter_le _ _) (by simp)
theorem merge_len : ∀ (a b : List Int), (merge a b).length ≤ a.length + b.length
  | [], b => by simp [merge]
  | a :: l, [] => by simp [merge]
  | a :: l, b :: m => by
    have h1 := merge_len l (b :: m)
    have h2 := merge_len l m
    have h3 := merge_len (a :: l) m
    rw [merge]
    simp only [List.length_cons] at *
    split
    · simp only [List.length_cons]; omega
    · split
      · simp only [List.length_cons]; omega
      · simp only [List.length_cons]; omega
/-- The nine cells of the configuration. -/
def Nine9 (w : World) (v : Nat) (c : Cf) (p : Option Addr) (k : Nat) : Prop := w.cell? ⟨v, 0, none⟩ = some (.int .i64 c.n) ∧ w.cell? ⟨v, 1, none⟩ = some (.int .i64 c.sk) ∧ w.cell? ⟨v, 2, none⟩ = some (.int .i64 c.tl) ∧ w.cell? ⟨v, 3, none⟩ = some (.int .i64 c.va) ∧ w.cell? ⟨v, 4, none⟩ = some (.int .i64 c.lo) ∧ w.cell? ⟨v, 5, none⟩ = some (.int .i64 c.he) ∧
    w.cell? ⟨v, 6, none⟩ = some (.int .i64 c.ke) ∧ w.cell? ⟨v, 7, none⟩ = some (.int .i64 c.qu) ∧ w.cell? ⟨v, 8, none⟩ = some (.slice p c.zs.length k)
theorem Nine9.on {w w' : World} {v : Nat} {c : Cf} {p : Option Addr} {k : Nat} (h : Nine9 w v c p k) (hb : Below w.heap.size w w') : Nine9 w' v c p k := by
  obtain ⟨h0, h1, h2, h3, h4, h5, h6, h7, h8⟩ := h
  exact ⟨cell_on h0 hb, cell_on h1 hb, cell_on h2 hb, cell_on h3 hb, cell_on h4 hb, cell_on h5 hb, cell_on h6 hb, cell_on h7 hb, cell_on h8 hb⟩
theorem ints_at {w : World} {p : Option Addr} {l : List Int} (h : Lies ints w p l) {j : Nat} (hj : j < l.length) : ∃ b o, p = some ⟨b, o, none⟩ ∧ w.cell? ⟨b, o + j, none⟩ = some (.int .i64 (l.getD j 0)) := by
  obtain ⟨b, o, e, ha⟩ := Kit.lies_at h hj
  refine ⟨b, o, e, ?_⟩
  have := ha 0 _ rfl
  rwa [show ints.n = 1 from rfl, Nat.mul_one] at this
set_option maxRecDepth 100000 in
set_option maxHeartbeats 8000000 in
theorem rwants_any {B v : Nat} {c : Cf} {e : Eg} {w : World} (h : Ed B w v c e) (hB : B ≤ w.heap.size) (hf : e.Q.length ≤ 150 ∧ e.D.length ≤ 150) :
    Calls Tryz.prog 40 #[.pointer (some ⟨v, 0, none⟩)] w fun e' w' => ∃ p k, e' = .returned (.slice p (wants c e).length k) ∧ Lies pair w' p (wants c e) ∧ Below w.heap.size w w' := by
  have c1 := rkeys_any h hB hf
  obtain ⟨p, k, hr, h9⟩ := h.conf
  have H9 := Lib.hid (show Nine9 w v c p k from h9)
  have HR := Lib.hid (fun key (hk : ¬ c.rate key < 0) => rate_cell hk hr)
  have HBB := Lib.hid hB
  have HK := Lib.hid (fun u key => rrate_any c p k key u)
  have HS := Lib.hid (fun u key (hu : Below w.heap.size w u) => Queue2.rsum_any (h.below hB hu).qu (by omega) key)
  have HW := Lib.hid (fun u key a b (hu : Below w.heap.size w u) => Demand2.rwant_any (h.below hB hu).dm (by omega) key a b)
  have HD := Lib.hid (show wants c e = wantsOf c e ((keys e).take (keys e).length) by rw [List.take_length]; rfl)
  have hkl : (keys e).length ≤ 300 := Nat.le_trans (merge_len _ _) (by have := Queue.keys_len e.Q; have := Demand.keys_len e.D; omega)
  have HAM := Lib.hid (fun key => show amount c e key = if 0 ≤ c.rate key then Demand.want (Demand.of e.D key) (Queue.sum e.Q key) (c.b key) else 0 from rfl)
  generalize wants c e = R at *
  generalize keys e = l at *
  have WS := Lib.hid (fun (j : Nat) (hj : j < l.length) => wants_at (c := c) (e := e) hj)
  have WL := Lib.hid (fun j => wants_len c e (l.take j))
  have W0 := Lib.hid (show wantsOf c e (l.take 0) = [] from rfl)
  simp only [Cf.val] at HK
  clear h hr h9
  go_enter Tryz.func40, Tryz.ntmps40
  go_wp2_with (go_at_call 91; (with_reducible refine c1.mono ?_); rintro e1 w1 ⟨y, rfl, ho, hb⟩; have HB1 := Lib.hid hb; obtain ⟨pl, kl, rfl, hl⟩ := Kit.Own.lies ho; have HL := Lib.hid hl; clear ho hb hl c1)
  go_loopw [3, 5] (fun y i wr => ∃ (j : Nat) (q : Option Addr) (d n : Nat), j ≤ l.length ∧ i = .int .i64 (j : Int) ∧ y = .slice q n d ∧ Hid (Kit.Own pair 98 w1.heap.size wr y (wantsOf c e (l.take j))) ∧ Hid ((wantsOf c e (l.take j)).length = n) ∧ Hid (Below w1.heap.size w1 wr)) (fun _ i _ => l.length - (intOf i).toNat)
  case atStart => exact ⟨0, none, 0, 0, by omega, rfl, rfl, by rw [W0.out]; exact Lib.hid (Kit.Own.none _ _ _ _), by rw [W0.out]; exact Lib.hid rfl, Lib.hid (Below.refl _ _)⟩
  case round =>
    obtain ⟨j, q, d, n, hj, rfl, rfl, hown, hn, hbw⟩ := hrel
    by_cases hlt : j < l.length
    · have hlt' : (j : Int) < (l.length : Int) := by omega
      obtain ⟨b, o, rfl, hk0⟩ := ints_at HL.out hlt
      have hn5 : n ≤ 300 := by rw [← hn.out]; exact Nat.le_trans (WL.out j) (by simp; omega)
      have HWS := Lib.hid (WS.out j hlt)
      have HX := Lib.hid (fun u (hu : Below w1.heap.size w1 u) => And.intro (cell_on hk0 hu) (H9.out.on (HB1.out.trans (hu.mono HB1.out.size))))
      have HAMK := Lib.hid (HAM.out (l.getD j 0))
      generalize wantsOf c e (l.take j) = WJ at *
      generalize l.getD j 0 = key at *
      generalize amount c e key = am at *
      clear hk0 WS WL W0 HD HAM
      have t0 := HX.out _ hbw.out
      simp only [Nine9] at t0
      obtain ⟨k0, c0, c1', c2, c3, c4, c5, c6, c7, c8⟩ := t0
      go_wp2
      go_region_held3 (fun u => u.cell? ⟨v, 0, none⟩ = some (.int .i64 c.n) ∧ u.cell? ⟨v, 1, none⟩ = some (.int .i64 c.sk) ∧ u.cell? ⟨v, 2, none⟩ = some (.int .i64 c.tl) ∧ u.cell? ⟨v, 3, none⟩ = some (.int .i64 c.va) ∧ u.cell? ⟨v, 4, none⟩ = some (.int .i64 c.lo) ∧ u.cell? ⟨v, 5, none⟩ = some (.int .i64 c.he) ∧
          u.cell? ⟨v, 6, none⟩ = some (.int .i64 c.ke) ∧ u.cell? ⟨v, 7, none⟩ = some (.int .i64 c.qu) ∧ u.cell? ⟨v, 8, none⟩ = some (.slice p c.zs.length k) ∧ u.cell? ⟨b, o + j, none⟩ = some (.int .i64 key)) (first | assumption | exact ⟨c0, c1', c2, c3, c4, c5, c6, c7, c8, k0⟩) (first
        | (go_at_call 81; (with_reducible refine (HK.out _ _).mono ?_); rintro e1 w3 ⟨rfl, hb⟩; have HB3 := Lib.hid ((Below.refl _ wr).drew.trans (hb.mono (Below.refl wr.heap.size wr).drew.size)); have t3 : _ ∧ _ ∧ _ ∧ _ ∧ _ ∧ _ ∧ _ ∧ _ ∧ _ ∧ _ := (have t := HX.out _ (hbw.out.trans (HB3.out.mono hbw.out.size)); ⟨t.2.1, t.2.2.1, t.2.2.2.1, t.2.2.2.2.1, t.2.2.2.2.2.1, t.2.2.2.2.2.2.1, t.2.2.2.2.2.2.2.1, t.2.2.2.2.2.2.2.2.1, t.2.2.2.2.2.2.2.2.2, t.1⟩); clear hb))
      obtain ⟨c0, c1', c2, c3, c4, c5, c6, c7, c8, k0⟩ := t3
      have HBW := Lib.hid (hbw.out.trans (HB3.out.mono hbw.out.size))
      have HBX := Lib.hid (HB1.out.trans (HBW.out.mono HB1.out.size))
      have HO3 := Lib.hid (hown.out.on HB3.out)
      have HRK := Lib.hid (HR.out key)
      have HSK := Lib.hid (fun u => HS.out u key)
      have HWK := Lib.hid (fun u a b => HW.out u key a b)
      clear hown hbw HR HS HW HK
      generalize c.b key = bb at *
      generalize c.rate key = kk at *
      generalize Queue.sum e.Q key = qs at *
      generalize Demand.of e.D key = dd at *
      by_cases hkk : kk < 0
      · have hkk2 : ¬ 0 ≤ kk := by omega
        have HE := Lib.hid (show wantsOf c e (l.take (j + 1)) = WJ by rw [HWS.out, if_neg]; have := HAMK.out; rw [if_neg hkk2] at this; omega)
        clear HWS HAMK
        go_wp2
        go_roundw
        case rel => exact ⟨j + 1, q, d, n, by omega, by go_num, rfl, by rw [HE.out]; exact HO3, by rw [HE.out]; exact hn, HBW⟩
        case measure => simp only [intOf]; omega
      · obtain ⟨j', b', o', rfl, hj', rfl, hbB, hcell⟩ := HRK.out (by omega)
        have HX0 := Lib.hid (fun u (hu : Below w.heap.size w u) => cell_on hcell hu)
        have k1 := HX0.out _ HBX.out
        have HAE := Lib.hid (show am = Demand.want dd qs bb by rw [HAMK.out, if_pos (by omega)])
        clear HAMK HRK hcell hkk
        go_wp2
        go_region_held3 (fun u => u.cell? ⟨v, 8, none⟩ = some (.slice (some ⟨b', o', none⟩) c.zs.length k) ∧ u.cell? ⟨b, o + j, none⟩ = some (.int .i64 key) ∧ u.cell? ⟨b', o' + j' * 2 + 1, none⟩ = some (.int .i64 bb)) (first | assumption | exact ⟨c8, k0, k1⟩) (first
          | (go_at_call 93; (with_reducible refine (HSK.out _ (HBX.out.trans ((Below.refl _ w3).drew.mono HBX.out.size))).mono ?_); rintro e1 w4 ⟨rfl, hb⟩; have HB4 := Lib.hid ((Below.refl _ w3).drew.trans (hb.mono (Below.refl w3.heap.size w3).drew.size)); have t4 : _ ∧ _ ∧ _ := ⟨cell_on c8 HB4.out, cell_on k0 HB4.out, cell_on k1 HB4.out⟩; clear hb)
          | (go_at_call 92; (with_reducible refine (HWK.out _ _ _ (HBX.out.trans (HB4.out.mono HBX.out.size))).mono ?_); rintro e1 w5 ⟨rfl, hb⟩; have HB5 := Lib.hid (HB4.out.trans (hb.mono HB4.out.size)); have t5 : _ ∧ _ ∧ _ := ⟨cell_on c8 HB5.out, cell_on k0 HB5.out, cell_on k1 HB5.out⟩; clear hb))
        obtain ⟨c8', k0', -⟩ := t5
        have HBW5 := Lib.hid (HBW.out.trans (HB5.out.mono HBW.out.size))
        have HO5 := Lib.hid (HO3.out.on HB5.out)
        clear c0 c1' c2 c3 c4 c5 c6 c7 c8 k0 k1 HO3 HSK HWK HX0
        obtain rfl := HAE.out.symm
        generalize Demand.want dd qs bb = am at *
        by_cases ham : 0 < am
        · have HE := Lib.hid (show wantsOf c e (l.take (j + 1)) = WJ ++ [(key, am)] by rw [HWS.out, if_pos ham])
          clear HWS HAE
          go_wp2_with (at_builtin; refine Kit.push laidP rfl _ _ rfl w1 w5 (.slice q n d) rfl WJ n hn.out HO5.out HBW5.out (lay' _ _) w5.heap.size (key, am) rfl (heap_alloc_new _ _) (by omega) ?_; intro p6 c6 w6 R6 B6)
          go_roundw
          case rel => exact ⟨j + 1, p6, c6, n + 1, by omega, by go_num, rfl, by rw [HE.out]; exact R6, by rw [HE.out]; exact Lib.hid (by rw [List.length_append, hn.out]; rfl), Lib.hid B6⟩
          case measure => simp only [intOf]; omega
        · have HE := Lib.hid (show wantsOf c e (l.take (j + 1)) = WJ by rw [HWS.out, if_neg ham])
          clear HWS HAE
          go_wp2
          go_roundw
          case rel => exact ⟨j + 1, q, d, n, by omega, by go_num, rfl, by rw [HE.out]; exact HO5, by rw [HE.out]; exact hn, HBW5⟩
          case measure => simp only [intOf]; omega
    · have hlt' : ¬ (j : Int) < (l.length : Int) := by omega
      have HE := Lib.hid (show R = wantsOf c e (l.take j) by rw [HD.out]; have e : j = l.length := by omega
                                                             subst e; rfl)
      generalize wantsOf c e (l.take j) = WJ at *
      clear WS WL W0 HD HAM HR HK HS HW H9
      go_wp2
      obtain ⟨q', d', e', hlq⟩ := Kit.Own.lies hown.out
      refine bodyPost_ret (v := .slice q n d) (by simp [results, Tryz.results40, go_sem]) rfl ?_
      have e1 := hn.out
      have e2 := HE.out
      subst e2 e1
      rw [Value.slice.injEq] at e'
      obtain ⟨rfl, -, rfl⟩ := e'
      exact ⟨_, ⟨_, rfl⟩, hlq, HB1.out.trans (hbw.out.mono HB1.out.size)⟩
end Go.Proofs.YtlbpeeelgpjciaaGreat.Edge

namespace Go.Proofs.YtlbpeeelgpjciaaGreat.Edge
open Go.RowKit
open _root_.Go.Proofs.YtlbpeeelgpjciaaGreat.Codec (lt_of_heap frozen_of heap_set below_new)
open _root_.Go.Proofs.YtlbpeeelgpjciaaGreat.Kit (Enc Lies At Kept Laid Off cell_on lt_heap take_snoc below_drewN)
open _root_.Go.Proofs.YtlbpeeelgpjciaaGreat.Lease (Lz Num)
open _root_.Go.Proofs.YtlbpeeelgpjciaaGreat.Queue (It)

/-- The document's blocks, and what was told. -/
abbrev mine : List TypeId := [60, 93, 95, 178, 79, 84]
theorem lease_off {T : TypeId} {ts : List TypeId} {B : Nat} {w w' : World} {y : Value} {l : List Lz} (h : Lease.Own T B w y l) (ho : Off ts w w') (ht : T ∈ ts) : Lease.Own T B w' y l := by
  refine ⟨h.1, ?_⟩
  rcases h.2 with h0 | ⟨g, cap, cur, rfl, h1, h2, h3⟩
  · exact .inl h0
  · exact .inr ⟨g, cap, cur, rfl, h1, ho.block g _ _ _ h2 ht, h3⟩
theorem Ed.off {w w' : World} {B v : Nat} {c : Cf} {e : Eg} (h : Ed B w v c e) (ho : Off mine w w') (hb : Below B w w') : Ed B w' v c e := by
  obtain ⟨h0, cs, p, k, yL, yQ, yD, h1, h2, h3, h4, h5, h6, h7, h8, h9, h10⟩ := h
  exact ⟨h0, cs, p, k, yL, yQ, yD, ho.block v _ _ _ h1 (by simp [mine]), h2, h3.on hb, h4, lease_off h5 ho (by simp [mine]), h6, h7, Kit.Own.off h8 ho (by simp [mine]), h9, Kit.Own.off h10 ho (by simp [mine])⟩
theorem EStep.kept1 {w w' : World} {B v : Nat} {c : Cf} {e e' : Eg} (h : Ed B w v c e) (hs : EStep B w v c e' w') : Kept [60, 79] w w' := by
  obtain ⟨_, cs, p, k, yL, yQ, yD, h1, _⟩ := h
  refine ⟨hs.size, fun g o e ht => (hs.only g ?_ (lt_heap e)).trans e⟩
  rintro rfl
  rw [h1] at e
  exact ht _ _ _ (Option.some.inj e).symm (by simp)
/-- A slice's block is of a type. -/
def Typed (w : World) (p : Option Addr) (T : TypeId) : Prop := ∀ a, p = some a → ∃ cs z, w.heap[a.block]? = some (Obj.cells cs T z)
theorem Typed.below {w w' : World} {p : Option Addr} {T : TypeId} (h : Typed w p T) (hb : Below w.heap.size w w') : Typed w' p T := fun a e => by
  obtain ⟨cs, z, k⟩ := h a e
  exact ⟨cs, z, (hb.block _ (lt_of_heap k)).trans k⟩
theorem Typed.off {w w' : World} {p : Option Addr} {T : TypeId} {ts : List TypeId} (h : Typed w p T) (ho : Off ts w w') (ht : T ∈ ts) : Typed w' p T := fun a e => by
  obtain ⟨cs, z, k⟩ := h a e
  exact ⟨cs, z, ho.block _ _ _ _ k ht⟩
theorem typed_ne {w : World} {p : Option Addr} {T : TypeId} {B v : Nat} {c : Cf} {e : Eg} (h : Typed w p T) (hv : Ed B w v c e) (hT : T ≠ 60) : ∀ a, p = some a → a.block ≠ v := by
  rintro a ea rfl
  obtain ⟨cs, z, k⟩ := h a ea
  obtain ⟨_, cs', p, k', yL, yQ, yD, h1, _⟩ := hv
  rw [k] at h1
  simp only [Option.some.injEq, Obj.cells.injEq] at h1
  exact hT h1.2.1
theorem Typed.step {w w' : World} {p : Option Addr} {T : TypeId} {B v : Nat} {c : Cf} {e e' : Eg} (h : Typed w p T) (hv : Ed B w v c e) (hT : T ≠ 60) (hs : EStep B w v c e' w') : Typed w' p T := fun a ea => by
  obtain ⟨cs, z, k⟩ := h a ea
  exact ⟨cs, z, (hs.only _ (typed_ne h hv hT a ea) (lt_of_heap k)).trans k⟩
theorem lies_off {α : Type} {E : Enc α} {w w' : World} {p : Option Addr} {l : List α} {T : TypeId} {ts : List TypeId} (h : Lies E w p l) (ht : Typed w p T) (ho : Off ts w w') (hT : T ∈ ts) : Lies E w' p l := by
  rcases h with h | ⟨b, o, rfl, hc⟩
  · exact .inl h
  · obtain ⟨cs, z, k⟩ := ht _ rfl
    exact .inr ⟨b, o, rfl, fun j hj i u hu => (World.cell?_of_block (a := ⟨b, o + j * E.n + i, none⟩) ((ho.block _ _ _ _ k hT).trans k.symm)).trans (hc j hj i u hu)⟩
theorem lies_estep {α : Type} {E : Enc α} {w w' : World} {p : Option Addr} {l : List α} {T : TypeId} {B v : Nat} {c : Cf} {e e' : Eg} (h : Lies E w p l) (ht : Typed w p T) (hv : Ed B w v c e) (hT : T ≠ 60) (hs : EStep B w v c e' w') : Lies E w' p l := by
  rcases h with h | ⟨b, o, rfl, hc⟩
  · exact .inl h
  · obtain ⟨cs, z, k⟩ := ht _ rfl
    exact .inr ⟨b, o, rfl, fun j hj i u hu => (World.cell?_of_block (a := ⟨b, o + j * E.n + i, none⟩) (hs.only b (typed_ne ht hv hT ⟨b, o, none⟩ rfl) (lt_of_heap (o := .cells cs T z) (by exact k)))).trans (hc j hj i u hu)⟩
theorem Typed.kept {w w' : World} {p : Option Addr} {T : TypeId} {ts : List TypeId} (h : Typed w p T) (hk : Kept ts w w') (hT : T ∉ ts) : Typed w' p T := fun a e => by
  obtain ⟨cs, z, k⟩ := h a e
  exact ⟨cs, z, hk.block _ _ _ _ k hT⟩
theorem lies_kept {α : Type} {E : Enc α} {w w' : World} {p : Option Addr} {l : List α} {T : TypeId} {ts : List TypeId} (h : Lies E w p l) (ht : Typed w p T) (hk : Kept ts w w') (hT : T ∉ ts) : Lies E w' p l := by
  rcases h with h | ⟨b, o, rfl, hc⟩
  · exact .inl h
  · obtain ⟨cs, z, k⟩ := ht _ rfl
    exact .inr ⟨b, o, rfl, fun j hj i u hu => (World.cell?_of_block (a := ⟨b, o + j * E.n + i, none⟩) ((hk.block _ _ _ _ k hT).trans k.symm)).trans (hc j hj i u hu)⟩
/-- Answers that the program tells. -/
def Says (w : World) (v : Value) (l : List An) : Prop := ∃ p c, v = .slice p l.length c ∧ Lies ans w p l ∧ Typed w p 79 ∧ (p = none → c = 0)
theorem says_none (w : World) : Says w (.slice none 0 0) [] := ⟨none, 0, rfl, .inl rfl, fun a e => by simp at e, fun _ => rfl⟩
theorem Says.off {w w' : World} {v : Value} {l : List An} (h : Says w v l) (ho : Off mine w w') : Says w' v l := by
  obtain ⟨p, c, e, h1, h2, h3⟩ := h
  exact ⟨p, c, e, lies_off h1 h2 ho (by simp [mine]), h2.off ho (by simp [mine]), h3⟩
theorem Says.below {w w' : World} {v : Value} {l : List An} (h : Says w v l) (hb : Below w.heap.size w w') : Says w' v l := by
  obtain ⟨p, c, e, h1, h2, h3⟩ := h
  exact ⟨p, c, e, h1.below hb, h2.below hb, h3⟩
theorem Says.step {w w' : World} {v : Value} {l : List An} {B b : Nat} {c : Cf} {e e' : Eg} (h : Says w v l) (hv : Ed B w b c e) (hs : EStep B w b c e' w') : Says w' v l := by
  obtain ⟨p, k, ev, h1, h2, h3⟩ := h
  exact ⟨p, k, ev, lies_estep h1 h2 hv (by decide) hs, h2.step hv (by decide) hs, h3⟩
/-- Base, world, the edge's address, its configuration, what it holds. -/
abbrev Pw := Nat → World → Nat → Cf → Eg → Prop
/-- The program's edge moves. -/
structure Moved (PW : Pw) (B : Nat) (w : World) (q : Nat) (c : Cf) (e : Eg) (w' : World) : Prop where
  pw : PW B w' q c e
  off : Off mine w w'
  below : Below B w w'
def CfNum (c : Cf) : Prop := Num c.n ∧ Num c.sk ∧ Num c.tl ∧ Num c.va ∧ Num c.lo ∧ Num c.he ∧ Num c.ke ∧ Num c.qu
/-- Not many. -/
def Lens (e : Eg) : Prop := e.L.length ≤ 100 ∧ e.Q.length ≤ 16 ∧ e.D.length ≤ 100
structure Way14 (PW : Pw) : Prop where
  below : ∀ {B w q c e w'}, PW B w q c e → Below w.heap.size w w' → PW B w' q c e
  kept : ∀ {B w q c e w'}, PW B w q c e → Kept [60, 79] w w' → Below B w w' → PW B w' q c e
  new : ∀ c p k w, RatesB w.heap.size w p c.zs → c.zs.length ≤ 100 → CfNum c → c.check = 0 → Calls Tryz.prog 6 #[c.val p k] w fun x w' => ∃ q, x = .returned (.tuple #[.pointer (some ⟨q, 0, none⟩), .int .i64 0]) ∧ PW w.heap.size w' q c e0 ∧ Below w.heap.size w w'
  newno : ∀ c p k w, RatesB w.heap.size w p c.zs → c.zs.length ≤ 100 → CfNum c → c.check ≠ 0 → Calls Tryz.prog 6 #[c.val p k] w fun x w' => x = .returned (.tuple #[.pointer none, .int .i64 c.check]) ∧ Below w.heap.size w w'
  ask : ∀ {B w q c e}, PW B w q c e → B ≤ w.heap.size → Good c e → Lens e → ∀ r, RqNum r → ∀ now, Num now → Calls Tryz.prog 19 #[.pointer (some ⟨q, 0, none⟩), rval r, .int .i64 now] w fun x w' => ∃ y, x = .returned y ∧ Says w' y (ask c e r now).2 ∧ Moved PW B w q c (ask c e r now).1 w'
  grant : ∀ {B w q c e}, PW B w q c e → B ≤ w.heap.size → Good c e → Lens e → ∀ l, Lease.Nums l → ∀ now, Num now → Calls Tryz.prog 20 #[.pointer (some ⟨q, 0, none⟩), Lease.val l, .int .i64 now] w fun x w' => ∃ y, x = .returned y ∧ Says w' y (grant e l now).2 ∧ Moved PW B w q c (grant e l now).1 w'
  close : ∀ {B w q c e}, PW B w q c e → B ≤ w.heap.size → Good c e → Lens e → ∀ key gen, Num key → Num gen → Calls Tryz.prog 25 #[.pointer (some ⟨q, 0, none⟩), .int .i64 key, .int .i64 gen] w fun x w' => x = .returned (.int .i64 (close e key gen).2) ∧ Moved PW B w q c (close e key gen).1 w'
  drop : ∀ {B w q c e}, PW B w q c e → B ≤ w.heap.size → Good c e → Lens e → ∀ gen, Num gen → Calls Tryz.prog 18 #[.pointer (some ⟨q, 0, none⟩), .int .i64 gen] w fun x w' => x = .returned (.tuple #[]) ∧ Moved PW B w q c (drop e gen) w'
  expire : ∀ {B w q c e}, PW B w q c e → B ≤ w.heap.size → Good c e → Lens e → ∀ now, Num now → Calls Tryz.prog 22 #[.pointer (some ⟨q, 0, none⟩), .int .i64 now] w fun x w' => ∃ y, x = .returned y ∧ Says w' y (expire e now).2 ∧ Moved PW B w q c (expire e now).1 w'
  refuse : ∀ {B w q c e}, PW B w q c e → B ≤ w.heap.size → Good c e → Lens e → ∀ key why, Num key → Num why → Calls Tryz.prog 23 #[.pointer (some ⟨q, 0, none⟩), .int .i64 key, .int .i64 why] w fun x w' => ∃ y, x = .returned y ∧ Says w' y (refuse e key why).2 ∧ Moved PW B w q c (refuse e key why).1 w'
  crash : ∀ {B w q c e}, PW B w q c e → B ≤ w.heap.size → Good c e → Lens e → Calls Tryz.prog 24 #[.pointer (some ⟨q, 0, none⟩)] w fun x w' => ∃ y, x = .returned y ∧ Says w' y (crash e).2 ∧ Moved PW B w q c (crash e).1 w'
  wants : ∀ {B w q c e}, PW B w q c e → Good c e → Lens e → Calls Tryz.prog 21 #[.pointer (some ⟨q, 0, none⟩)] w fun x w' => ∃ p k, x = .returned (.slice p (wants c e).length k) ∧ Lies pair w' p (wants c e) ∧ Typed w' p 84 ∧ Below w.heap.size w w'
  waiting : ∀ {B w q c e}, PW B w q c e → Good c e → Lens e → Calls Tryz.prog 13 #[.pointer (some ⟨q, 0, none⟩)] w fun x w' => ∃ p k, x = .returned (.slice p e.Q.length k) ∧ Lies Queue.item w' p e.Q ∧ Typed w' p 77 ∧ Below w.heap.size w w'
  leases : ∀ {B w q c e}, PW B w q c e → Good c e → Lens e → Calls Tryz.prog 16 #[.pointer (some ⟨q, 0, none⟩)] w fun x w' => ∃ p k, x = .returned (.slice p e.L.length k) ∧ Lease.Lies w' p e.L ∧ Below w.heap.size w w'
  nask : ∀ r now w, Calls Tryz.prog 19 #[.pointer none, rval r, .int .i64 now] w fun x w' => ∃ p k, x = .returned (.slice p 0 k) ∧ Below w.heap.size w w'
  ngrant : ∀ l now w, Calls Tryz.prog 20 #[.pointer none, Lease.val l, .int .i64 now] w fun x w' => ∃ p k, x = .returned (.slice p 0 k) ∧ Below w.heap.size w w'
  nclose : ∀ key gen w, Calls Tryz.prog 25 #[.pointer none, .int .i64 key, .int .i64 gen] w fun x w' => x = .returned (.int .i64 (-1)) ∧ Below w.heap.size w w'
  ndrop : ∀ gen w, Calls Tryz.prog 18 #[.pointer none, .int .i64 gen] w fun x w' => x = .returned (.tuple #[]) ∧ Below w.heap.size w w'
  nexpire : ∀ now w, Calls Tryz.prog 22 #[.pointer none, .int .i64 now] w fun x w' => ∃ p k, x = .returned (.slice p 0 k) ∧ Below w.heap.size w w'
  nrefuse : ∀ key why w, Calls Tryz.prog 23 #[.pointer none, .int .i64 key, .int .i64 why] w fun x w' => ∃ p k, x = .returned (.slice p 0 k) ∧ Below w.heap.size w w'
  ncrash : ∀ w, Calls Tryz.prog 24 #[.pointer none] w fun x w' => ∃ p k, x = .returned (.slice p 0 k) ∧ Below w.heap.size w w'
  nwants : ∀ w, Calls Tryz.prog 21 #[.pointer none] w fun x w' => ∃ p k, x = .returned (.slice p 0 k) ∧ Below w.heap.size w w'
  nwaiting : ∀ w, Calls Tryz.prog 13 #[.pointer none] w fun x w' => ∃ p k, x = .returned (.slice p 0 k) ∧ Below w.heap.size w w'
  nleases : ∀ w, Calls Tryz.prog 16 #[.pointer none] w fun x w' => ∃ p k, x = .returned (.slice p 0 k) ∧ Below w.heap.size w w'
/-- Both edges, while acts are done: what is the program's, what is the document's. -/
structure Est (PW : Pw) (W : World) (q v : Nat) (c : Cf) (s t : Eg) (u : World) : Prop where
  pw : PW W.heap.size u q c s
  ed : Ed W.heap.size u v c t
  below : Below W.heap.size W u
section
variable {PW : Pw} {W u u' : World} {q v : Nat} {c : Cf} {s t s' t' : Eg}
theorem Est.on (P : Way14 PW) (h : Est PW W q v c s t u) (hb : Below u.heap.size u u') : Est PW W q v c s t u' :=
  ⟨P.below h.pw hb, h.ed.below h.below.size hb, h.below.trans (hb.mono h.below.size)⟩
theorem Est.own (h : Est PW W q v c s t u) (hm : Moved PW W.heap.size u q c s' u') : Est PW W q v c s' t u' :=
  ⟨hm.pw, h.ed.off hm.off hm.below, h.below.trans hm.below⟩
theorem Est.ref (P : Way14 PW) (h : Est PW W q v c s t u) (hm : EStep W.heap.size u v c t' u') : Est PW W q v c s t' u' :=
  ⟨P.kept h.pw (hm.kept1 h.ed) hm.below, hm.ed, h.below.trans hm.below⟩
end
end Go.Proofs.YtlbpeeelgpjciaaGreat.Edge
