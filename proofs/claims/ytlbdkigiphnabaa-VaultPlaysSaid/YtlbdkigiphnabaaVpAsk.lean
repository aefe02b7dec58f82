/-
  The program's both, Rises, numbers, right of any states: each tells what the plain functions of VaultPlain tell, and of what lay when the call began nothing has turned.
-/
import Derived.Test.YtlbdkigiphnabaaVaultSame
import Derived.Deep.RegionHeld3
namespace Go.Proofs.Ytlbdkigiphnabaa.Vault
open Go.RowKit
open _root_.Go.Proofs.Ytlbdkigiphnabaa.Codec (Cel cells8 Made puts goods IsBytes own_lower lt_of_heap)

/-- The least state that each of two rises to. -/
def both (a b : Sv) : Sv := ⟨max a.p b.p, if b.g < a.g ∨ (a.g = b.g ∧ b.h < a.h) then a.g else b.g, if b.g < a.g ∨ (a.g = b.g ∧ b.h < a.h) then a.h else b.h, max a.r b.r⟩
theorem same_both (a b : Sv) : same4 (both a b) b = rises a b := by
  rw [Bool.eq_iff_iff, same4_iff, rises_iff]
  obtain ⟨p, g, h, r⟩ := a
  obtain ⟨p', g', h', r'⟩ := b
  simp only [both, Sv.mk.injEq]
  by_cases hc : g' < g ∨ (g = g' ∧ h' < h)
  · rw [if_pos hc, if_pos hc]
    constructor
    · rintro ⟨h1, h2, h3, h4⟩
      omega
    · rintro ⟨h1, h2, h3⟩
      omega
  · rw [if_neg hc, if_neg hc]
    constructor
    · rintro ⟨h1, h2, h3, h4⟩
      omega
    · rintro ⟨h1, h2, h3⟩
      exact ⟨by omega, rfl, rfl, by omega⟩

/-- A state's box. -/
theorem box25 {u : World} {b : Nat} {p g h r : Int} (hb : u.heap[b]? = some (.cells #[.int .i64 p, .int .i64 g, .int .i64 h, .int .i64 r] 25 (0, 0))) :
    u.cell? ⟨b, 0, none⟩ = some (.int .i64 p) ∧ u.cell? ⟨b, 1, none⟩ = some (.int .i64 g) ∧ u.cell? ⟨b, 2, none⟩ = some (.int .i64 h) ∧ u.cell? ⟨b, 3, none⟩ = some (.int .i64 r) :=
  ⟨by rw [cell_of_row u b 0 _ _ (0, 0) hb]; rfl, by rw [cell_of_row u b 1 _ _ (0, 0) hb]; rfl, by rw [cell_of_row u b 2 _ _ (0, 0) hb]; rfl, by rw [cell_of_row u b 3 _ _ (0, 0) hb]; rfl⟩

set_option maxRecDepth 100000 in
set_option maxHeartbeats 4000000 in
theorem both_any (a b : Sv) (w : World) : Calls Try.prog 40 #[val a, val b] w fun e w' => e = .returned (val (both a b)) ∧ Below w.heap.size w w' := by
  have hb : Below w.heap.size w ((w.alloc (.cells #[.int .i64 a.p, .int .i64 a.g, .int .i64 a.h, .int .i64 a.r] 25)).alloc (.cells #[.int .i64 b.p, .int .i64 b.g, .int .i64 b.h, .int .i64 b.r] 25)) :=
    ((Below.refl _ _).alloc (Nat.le_refl _) _).alloc (by simp) _
  have HB := Lib.hid hb
  clear hb
  have hc : (both a b = ⟨max a.p b.p, a.g, a.h, max a.r b.r⟩ ∧ b.g < a.g) ∨ (both a b = ⟨max a.p b.p, a.g, a.h, max a.r b.r⟩ ∧ a.g = b.g ∧ b.h < a.h) ∨
      (both a b = ⟨max a.p b.p, b.g, b.h, max a.r b.r⟩ ∧ a.g < b.g) ∨ (both a b = ⟨max a.p b.p, b.g, b.h, max a.r b.r⟩ ∧ a.g = b.g ∧ a.h ≤ b.h) := by
    unfold both
    by_cases hc : b.g < a.g ∨ (a.g = b.g ∧ b.h < a.h)
    · simp only [if_pos hc, true_and]
      omega
    · simp only [if_neg hc, true_and]
      omega
  obtain ⟨p, g, h, r⟩ := a
  obtain ⟨p', g', h', r'⟩ := b
  simp only [val] at *
  generalize both ⟨p, g, h, r⟩ ⟨p', g', h', r'⟩ = R at hc ⊢
  have fin : ∀ {v u : Value}, v = u → Ending.returned v = .returned u := fun h => h ▸ rfl
  rcases hc with ⟨rfl, c1⟩ | ⟨rfl, rfl, c2⟩ | ⟨rfl, c1⟩ | ⟨rfl, rfl, c2⟩
  all_goals
    go_enter Try.func40, Try.ntmps40
    go_wp2
  all_goals try go_region
  all_goals try go_wp2
  all_goals
    refine bodyPost_ret ?gh rfl ⟨rfl, ?gb⟩
    case gh => simp [results, Try.results40, go_sem] <;> omega
    case gb => repeat' (first
      | exact Below.refl _ _
      | with_reducible refine Below.drew ?_
      | with_reducible refine Below.setCell ?_ (by first | omega | (simp; done) | (simp; omega)) _
      | with_reducible refine Below.alloc ?_ (by first | omega | (simp; done) | (simp; omega)) _)

set_option maxRecDepth 100000 in
/-- Rises. -/
theorem prises_any (a b : Sv) (w : World) : Calls Try.prog 19 #[val a, val b] w fun e w' => e = .returned (.bool (rises a b)) ∧ Below w.heap.size w w' := by
  have hb : Below w.heap.size w ((w.alloc (.cells #[.int .i64 a.p, .int .i64 a.g, .int .i64 a.h, .int .i64 a.r] 25)).alloc (.cells #[.int .i64 b.p, .int .i64 b.g, .int .i64 b.h, .int .i64 b.r] 25)) :=
    ((Below.refl _ _).alloc (Nat.le_refl _) _).alloc (by simp) _
  have h1 : ((w.alloc (.cells #[.int .i64 a.p, .int .i64 a.g, .int .i64 a.h, .int .i64 a.r] 25)).alloc (.cells #[.int .i64 b.p, .int .i64 b.g, .int .i64 b.h, .int .i64 b.r] 25)).heap[w.heap.size]? = some (.cells #[.int .i64 a.p, .int .i64 a.g, .int .i64 a.h, .int .i64 a.r] 25 (0, 0)) :=
    (Below.heap_alloc _ _ _ (by simp)).trans (heap_alloc_new _ _)
  have h2 : ((w.alloc (.cells #[.int .i64 a.p, .int .i64 a.g, .int .i64 a.h, .int .i64 a.r] 25)).alloc (.cells #[.int .i64 b.p, .int .i64 b.g, .int .i64 b.h, .int .i64 b.r] 25)).heap[w.heap.size + 1]? = some (.cells #[.int .i64 b.p, .int .i64 b.g, .int .i64 b.h, .int .i64 b.r] 25 (0, 0)) := by
    have := heap_alloc_new (w.alloc (.cells #[.int .i64 a.p, .int .i64 a.g, .int .i64 a.h, .int .i64 a.r] 25)) (.cells #[.int .i64 b.p, .int .i64 b.g, .int .i64 b.h, .int .i64 b.r] 25)
    rwa [show (w.alloc (.cells #[.int .i64 a.p, .int .i64 a.g, .int .i64 a.h, .int .i64 a.r] 25)).heap.size = w.heap.size + 1 by simp] at this
  have hboth := fun u => both_any a b u
  have heq := fun (u : World) => eql_own (both a b) b u
  simp only [same_both] at heq
  generalize both a b = c at hboth heq
  generalize rises a b = R at heq ⊢
  obtain ⟨p, g, h, r⟩ := a
  obtain ⟨p', g', h', r'⟩ := b
  obtain ⟨p2, g2, h2', r2⟩ := c
  simp only [val] at *
  have HB := Lib.hid hb
  have hlt : ((w.alloc (.cells #[.int .i64 p, .int .i64 g, .int .i64 h, .int .i64 r] 25)).alloc (.cells #[.int .i64 p', .int .i64 g', .int .i64 h', .int .i64 r'] 25)).heap.size = w.heap.size + 1 + 1 := by simp
  go_enter Try.func19, Try.ntmps19
  go_wp2
  generalize (w.alloc (.cells #[.int .i64 p, .int .i64 g, .int .i64 h, .int .i64 r] 25)).alloc (.cells #[.int .i64 p', .int .i64 g', .int .i64 h', .int .i64 r'] 25) = w1 at *
  have hbox : ∀ u, Below w1.heap.size w1 u → (u.cell? ⟨w.heap.size, 0, none⟩ = some (.int .i64 p) ∧ u.cell? ⟨w.heap.size, 1, none⟩ = some (.int .i64 g) ∧ u.cell? ⟨w.heap.size, 2, none⟩ = some (.int .i64 h) ∧ u.cell? ⟨w.heap.size, 3, none⟩ = some (.int .i64 r)) ∧
      (u.cell? ⟨w.heap.size + 1, 0, none⟩ = some (.int .i64 p') ∧ u.cell? ⟨w.heap.size + 1, 1, none⟩ = some (.int .i64 g') ∧ u.cell? ⟨w.heap.size + 1, 2, none⟩ = some (.int .i64 h') ∧ u.cell? ⟨w.heap.size + 1, 3, none⟩ = some (.int .i64 r')) :=
    fun u hu => ⟨box25 ((hu.block _ (by omega)).trans h1), box25 ((hu.block _ (by omega)).trans h2)⟩
  have HX := Lib.hid hbox
  have D0 := Lib.hid (Below.refl w1.heap.size w1).drew
  have k0 := hbox _ D0.out
  clear hbox h1 h2 hb hlt
  go_region_held3 (fun u => (u.cell? ⟨w.heap.size, 0, none⟩ = some (.int .i64 p) ∧ u.cell? ⟨w.heap.size, 1, none⟩ = some (.int .i64 g) ∧ u.cell? ⟨w.heap.size, 2, none⟩ = some (.int .i64 h) ∧ u.cell? ⟨w.heap.size, 3, none⟩ = some (.int .i64 r)) ∧
      (u.cell? ⟨w.heap.size + 1, 0, none⟩ = some (.int .i64 p') ∧ u.cell? ⟨w.heap.size + 1, 1, none⟩ = some (.int .i64 g') ∧ u.cell? ⟨w.heap.size + 1, 2, none⟩ = some (.int .i64 h') ∧ u.cell? ⟨w.heap.size + 1, 3, none⟩ = some (.int .i64 r'))) (first | assumption | exact k0) (first
    | (go_at_call 40; (with_reducible refine (hboth _).mono ?_); rintro e u1 ⟨rfl, hb1⟩; have D1 := Lib.hid (D0.out.trans (hb1.mono D0.out.size)); have k1 := HX.out _ D1.out; clear hb1))
  all_goals
    go_wp2
    go_ret
    exact ⟨rfl, HB.out.trans (D1.out.mono HB.out.size)⟩

set_option maxRecDepth 100000 in
/-- numbers: a new block of four. -/
theorem numbers_any (s : Sv) (w : World) : Calls Try.prog 46 #[val s] w fun e w' => e = .returned (.slice (some ⟨w.heap.size + 1, 0, none⟩) 4 4) ∧ w'.heap[w.heap.size + 1]? = some (.cells (cells s) 3 (0, 0)) ∧ Below w.heap.size w w' := by
  have hb : Below w.heap.size w ((w.alloc (.cells #[.int .i64 s.p, .int .i64 s.g, .int .i64 s.h, .int .i64 s.r] 25)).alloc (.cells #[.int .i64 s.p, .int .i64 s.g, .int .i64 s.h, .int .i64 s.r] 3)) :=
    ((Below.refl _ _).alloc (Nat.le_refl _) _).alloc (by simp) _
  have h2 : ((w.alloc (.cells #[.int .i64 s.p, .int .i64 s.g, .int .i64 s.h, .int .i64 s.r] 25)).alloc (.cells #[.int .i64 s.p, .int .i64 s.g, .int .i64 s.h, .int .i64 s.r] 3)).heap[w.heap.size + 1]? = some (.cells #[.int .i64 s.p, .int .i64 s.g, .int .i64 s.h, .int .i64 s.r] 3 (0, 0)) := by
    have := heap_alloc_new (w.alloc (.cells #[.int .i64 s.p, .int .i64 s.g, .int .i64 s.h, .int .i64 s.r] 25)) (.cells #[.int .i64 s.p, .int .i64 s.g, .int .i64 s.h, .int .i64 s.r] 3)
    rwa [show (w.alloc (.cells #[.int .i64 s.p, .int .i64 s.g, .int .i64 s.h, .int .i64 s.r] 25)).heap.size = w.heap.size + 1 by simp] at this
  have HB := Lib.hid hb
  have H2 := Lib.hid h2
  clear hb h2
  obtain ⟨p, g, h, r⟩ := s
  simp only [val, cells] at *
  go_enter Try.func46, Try.ntmps46
  go_wp2
  go_ret
  exact ⟨rfl, H2.out, HB.out⟩

set_option maxRecDepth 100000 in
/-- right. -/
theorem pright_any (s : Sv) (w : World) : Calls Try.prog 33 #[val s] w fun e w' => e = .returned (.bool (right s)) ∧ Below w.heap.size w w' := by
  have hall := right_all s
  have hlen : (nums s).length = 4 := rfl
  have hb0 : Below w.heap.size w (w.alloc (.cells #[.int .i64 s.p, .int .i64 s.g, .int .i64 s.h, .int .i64 s.r] 25)) := (Below.refl _ _).alloc (Nat.le_refl _) _
  have hnum := numbers_any s (w.alloc (.cells #[.int .i64 s.p, .int .i64 s.g, .int .i64 s.h, .int .i64 s.r] 25))
  have hc : ∀ (u : World) (b : Nat), u.heap[b]? = some (.cells (cells s) 3 (0, 0)) → ∀ j, j < 4 → u.cell? ⟨b, j, none⟩ = some (.int .i64 ((nums s).getD j 0)) := by
    intro u b hu j hj
    rw [cell_of_row _ _ j _ _ (0, 0) hu]
    match j, hj with
    | 0, _ => rfl
    | 1, _ => rfl
    | 2, _ => rfl
    | 3, _ => rfl
  rw [show (w.alloc (.cells #[.int .i64 s.p, .int .i64 s.g, .int .i64 s.h, .int .i64 s.r] 25)).heap.size = w.heap.size + 1 by simp] at hnum
  obtain ⟨p, g, h, r⟩ := s
  simp only [val] at *
  generalize nums ⟨p, g, h, r⟩ = l at hall hlen hc
  generalize right ⟨p, g, h, r⟩ = R at hall ⊢
  have HB0 := Lib.hid hb0
  have HC := Lib.hid hc
  have HA := Lib.hid hall
  have HL := Lib.hid hlen
  clear hc hb0 hall hlen
  go_enter Try.func33, Try.ntmps33
  go_wp2_with (go_at_call 46; (with_reducible refine hnum.mono ?_); rintro e w1 ⟨rfl, hn1, hb1⟩; have HK := Lib.hid (HC.out _ _ hn1); have HB := Lib.hid (HB0.out.trans (hb1.mono (Nat.le_succ _))); clear hnum hn1 hb1 HB0 HC)
  go_loop [8] (fun i => ∃ j : Nat, j ≤ 4 ∧ i = .int .i64 (j : Int) ∧ Hid ((l.take j).all may = true)) (fun i => 4 - (intOf i).toNat)
  case atStart => exact ⟨0, by omega, rfl, by simp [Hid]⟩
  case round =>
    obtain ⟨j, hj, rfl, hok⟩ := hrel
    by_cases hlt : j < 4
    · have hcell := HK.out j hlt
      have hs : l.take (j + 1) = l.take j ++ [l.getD j 0] := Codec.take_snoc l j (by rw [HL.out]; exact hlt)
      have hbad : may (l.getD j 0) = false → R = false := by
        intro hm
        rw [HA.out, List.all_eq_false]
        exact ⟨l.getD j 0, (by have := HL.out; simp [List.getD, show j < l.length by omega]), (by rw [hm]; simp)⟩
      have hgood : may (l.getD j 0) = true → (l.take (j + 1)).all may = true := by
        intro hm
        rw [hs, List.all_append, hok.out, List.all_cons, hm]
        rfl
      generalize l.getD j 0 = y at hcell hbad hgood
      have HBD := Lib.hid hbad
      have HGD := Lib.hid hgood
      clear hs hbad hgood HK HA HL hok
      by_cases h0 : y < 0
      · have HR := Lib.hid (HBD.out (by simp [may]; omega))
        clear HBD HGD
        go_wp2
        go_ret
        exact ⟨by rw [HR.out]; rfl, HB.out⟩
      · by_cases h1 : 1099511627776 < y
        · have HR := Lib.hid (HBD.out (by simp [may]; omega))
          have h0' : 0 ≤ y := by omega
          clear HBD HGD h0
          go_wp2
          go_ret
          exact ⟨by rw [HR.out]; rfl, HB.out⟩
        · have HR := Lib.hid (HGD.out (may_iff.2 ⟨by omega, by omega⟩))
          have h0' : 0 ≤ y := by omega
          have h1' : y ≤ 1099511627776 := by omega
          clear HBD HGD h0 h1
          go_wp2
          go_round
          case rel => exact ⟨j + 1, by omega, by go_num, HR⟩
          case measure => simp [intOf]; omega
    · obtain rfl : j = 4 := by omega
      have HR := Lib.hid (show R = true by rw [HA.out, ← List.take_length (l := l), HL.out]; exact hok.out)
      clear HK HA HL hok
      go_wp2
      go_ret
      exact ⟨by rw [HR.out]; rfl, HB.out⟩
end Go.Proofs.Ytlbdkigiphnabaa.Vault
