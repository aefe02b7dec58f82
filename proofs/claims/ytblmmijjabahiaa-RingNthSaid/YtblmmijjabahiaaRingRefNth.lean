/-
  The document's Nth of a slice whose cells are ints returns the m-th greatest of them, and true, or 0 and false, if there is none; of what lay nothing has turned; any ints, any m, any slice of at most 1000.
-/
import Derived.Test.YtblmmijjabahiaaRingNthPlain
import Derived.Deep.QuietTactic
import Derived.BigQuiet
namespace Go.Proofs.Ytblmmijjabahiaa.Ring
open Go.RowKit

theorem refnth_out (p : Option Addr) (n c : Nat) (m : Int) (w : World) (h : ¬ (1 ≤ m ∧ m ≤ (n : Int))) :
    Calls Try.prog 38 #[.slice p n c, .int .i64 m] w fun e w' => e = .returned (.tuple #[.int .i64 0, .bool false]) ∧ w = w' := by
  by_cases h1 : m < 1
  · go_enter Try.func38, Try.ntmps38
    go_wp2
    go_ret2
    exact ⟨rfl, rfl⟩
  · have h2 : (n : Int) < m := by omega
    clear h
    go_enter Try.func38, Try.ntmps38
    go_wp2
    go_ret2
    exact ⟨rfl, rfl⟩

/-- The world's cells as they were; at most draws. -/
def Still (w w' : World) : Prop := (∀ p, w'.cell? p = w.cell? p) ∧ Below w.heap.size w w'
theorem Still.refl (w : World) : Still w w := ⟨fun _ => rfl, Below.refl _ _⟩
theorem Still.drew {w w' : World} (h : Still w w') (n : Nat) : Still w (w'.drewN n) := ⟨fun p => h.1 p, h.2.trans ⟨rfl, rfl, rfl, Nat.le_refl _, fun _ _ => rfl⟩⟩

set_option maxRecDepth 100000 in
set_option maxHeartbeats 4000000 in
theorem refnth_in (b off c : Nat) (zs : List Int) (m : Int) (w : World) (hl : zs.length ≤ 1000) (h1 : 1 ≤ m) (h2 : m ≤ (zs.length : Int))
    (hc : ∀ j, j < zs.length → w.cell? ⟨b, off + j, none⟩ = some (.int .i64 (zs.getD j 0))) :
    Calls Try.prog 38 #[.slice (some ⟨b, off, none⟩) zs.length c, .int .i64 m] w fun e w' => e = .returned (.tuple #[.int .i64 (nth zs m), .bool true]) ∧ Below w.heap.size w w' := by
  have HC := Lib.hid hc; clear hc
  have HG := Lib.hid (nth_good zs m h1 h2)
  have hm : Try.prog.follows .mixedOrders = true := by kernel_rfl
  go_enter Try.func38, Try.ntmps38
  go_wp2
  go_loopw [6] (fun i wr => ∃ k : Nat, i = .int .i64 (k : Int) ∧ k ≤ zs.length ∧ Hid (∀ j, j < k → ¬ Good zs m (zs.getD j 0)) ∧ Hid (Still w wr))
    (fun i _ => zs.length - (intOf i).toNat)
  case atStart => exact ⟨0, rfl, by omega, Lib.hid (fun j hj => absurd hj (by omega)), Lib.hid (Still.refl w)⟩
  case round =>
    obtain ⟨k, rfl, hk, HN, HS⟩ := hrel
    by_cases hlt : k < zs.length
    · have hlt' : (k : Int) < (zs.length : Int) := by omega
      obtain ⟨y, hy⟩ : ∃ y, zs.getD k 0 = y := ⟨_, rfl⟩
      have hck := HC.out k hlt
      rw [hy] at hck
      have HY := Lib.hid hy; clear hy
      have HK := Lib.hid hck; clear hck
      go_wp2
      go_loopw [7, 8, 9] (fun a s j wr2 => ∃ q : Nat, j = .int .i64 (q : Int) ∧ q ≤ zs.length ∧ a = .int .i64 ((more (zs.take q) y : Nat) : Int) ∧ s = .int .i64 ((same (zs.take q) y : Nat) : Int) ∧ Hid (Still w wr2))
        (fun _ _ j _ => zs.length - (intOf j).toNat)
      case atStart => exact ⟨0, rfl, by omega, rfl, rfl, HS⟩
      case round =>
        obtain ⟨q, rfl, hq, rfl, rfl, HS2⟩ := hrel
        have g2 : wr.cell? ⟨b, off + k, none⟩ = some (.int .i64 y) := (HS2.out.1 _).trans HK.out
        by_cases hq' : q < zs.length
        · have hq'' : (q : Int) < (zs.length : Int) := by omega
          have g1 : wr.cell? ⟨b, off + q, none⟩ = some (.int .i64 (zs.getD q 0)) := (HS2.out.1 _).trans (HC.out q hq')
          have mt := more_take zs y q hq'
          have st := same_take zs y q hq'
          have mh := more_hi zs y q
          have sh := same_hi zs y q
          generalize zs.getD q 0 = z at g1 mt st
          generalize more (zs.take q) y = mo at *
          generalize same (zs.take q) y = sa at *
          have hw : (y < z ∧ (z == y) = false ∧ more (zs.take (q + 1)) y = mo + 1 ∧ same (zs.take (q + 1)) y = sa) ∨ (z ≤ y ∧ (z == y) = true ∧ more (zs.take (q + 1)) y = mo ∧ same (zs.take (q + 1)) y = sa + 1) ∨ (z ≤ y ∧ (z == y) = false ∧ more (zs.take (q + 1)) y = mo ∧ same (zs.take (q + 1)) y = sa) := by
            rcases Int.lt_trichotomy y z with c | c | c
            · rw [if_pos c] at mt; rw [if_neg (by omega)] at st
              exact .inl ⟨c, beq_eq_false_iff_ne.2 (by omega), mt, st⟩
            · rw [if_neg (by omega)] at mt; rw [if_pos c.symm] at st
              exact .inr (.inl ⟨by omega, beq_iff_eq.2 c.symm, mt, st⟩)
            · rw [if_neg (by omega)] at mt; rw [if_neg (by omega)] at st
              exact .inr (.inr ⟨by omega, beq_eq_false_iff_ne.2 (by omega), mt, st⟩)
          clear mt st
          rcases hw with ⟨c1, c2, m1, m2⟩ | ⟨c1, c2, m1, m2⟩ | ⟨c1, c2, m1, m2⟩
          all_goals
            have M1 := Lib.hid m1; clear m1
            have M2 := Lib.hid m2; clear m2
            go_wp2
            go_quiet (fail)
            go_wp2
            go_quiet (fail)
            go_wp2
            go_roundw
            case rel => exact ⟨q + 1, by simp, by omega, by rw [M1.out] <;> simp, by rw [M2.out] <;> simp, Lib.hid (HS2.out.drew _)⟩
            case measure => simp only [intOf]; omega
        · have hqe : q = zs.length := by omega
          subst hqe
          have mh := more_hi zs y zs.length
          have sh := same_hi zs y zs.length
          have hle := least_eq zs y
          rw [List.take_length] at mh sh
          simp only [List.take_length]
          by_cases hg1 : (more zs y : Int) < m
          · by_cases hg2 : m ≤ (more zs y : Int) + (same zs y : Int)
            · have hyn : y = nth zs m := good_one (zs := zs) (m := m) ⟨hg1, by rw [hle]; omega⟩ HG.out.1
              have HYN := Lib.hid hyn; clear hyn
              clear hle
              generalize more zs y = mo at *
              generalize same zs y = sa at *
              go_wp2
              go_ret2
              exact ⟨by rw [← HYN.out]; rfl, HS2.out.2⟩
            · have hng : ¬ Good zs m y := fun h => by have := h.2; rw [hle] at this; omega
              have HNG := Lib.hid hng; clear hng
              clear hle
              generalize more zs y = mo at *
              generalize same zs y = sa at *
              go_wp2
              go_roundw
              case rel => exact ⟨k + 1, by simp, by omega, Lib.hid (fun j hj => by
                rcases Nat.lt_or_ge j k with cj | cj
                · exact HN.out j cj
                · have : j = k := by omega
                  rw [this, HY.out]; exact HNG.out), HS2⟩
              case measure => simp only [intOf]; omega
          · have hng : ¬ Good zs m y := fun h => hg1 h.1
            have HNG := Lib.hid hng; clear hng
            clear hle
            generalize more zs y = mo at *
            generalize same zs y = sa at *
            go_wp2
            go_roundw
            case rel => exact ⟨k + 1, by simp, by omega, Lib.hid (fun j hj => by
              rcases Nat.lt_or_ge j k with cj | cj
              · exact HN.out j cj
              · have : j = k := by omega
                rw [this, HY.out]; exact HNG.out), HS2⟩
            case measure => simp only [intOf]; omega
    · exfalso
      obtain ⟨hg, hmem⟩ := HG.out
      obtain ⟨j, hj, hje⟩ := List.mem_iff_getElem.1 hmem
      have := HN.out j (by omega)
      rw [show zs.getD j 0 = nth zs m by simp [hj, hje]] at this
      exact this hg
end Go.Proofs.Ytblmmijjabahiaa.Ring
