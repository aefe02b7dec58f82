/-
  The document's Same, of two lists of items that are one; the law's Of; the document's Sum.
  The document's Nth of a slice whose cells are ints returns the m-th greatest of them, and true, or 0 and false, if there is none; of what lay nothing has turned; any ints, any m, any slice of at most 1000.
-/
import Derived.Laws.StructEq
import Derived.Deep.QuietTactic
import Derived.Lib.Hide
import Derived.BigQuiet
import Derived.Test.YtbgdlokegibkmaaGreatMnAb
import Derived.Test.YtbgdlokegibkmaaGreatChecked
import Derived.Test.YtbgdlokegibkmaaGreatMnAa
namespace Go.Proofs.YtbgdlokegibkmaaGreat.Queue
open Go.RowKit
open _root_.Go.Proofs.YtbgdlokegibkmaaGreat.Codec (lt_of_heap frozen_of heap_set own_below)
open _root_.Go.Proofs.YtbgdlokegibkmaaGreat.Kit (Enc Lies Own At Kept Laid cell_on lt_heap take_snoc below_drewN box5)
/-- Are they the same? -/
def same5 (a b : It) : Bool := a.id == b.id && (a.key == b.key && (a.cost == b.cost && (a.cls == b.cls && a.til == b.til)))
theorem same5_iff {a b : It} : same5 a b = true ↔ a = b := by
  obtain ⟨a1, a2, a3, a4, a5⟩ := a
  obtain ⟨b1, b2, b3, b4, b5⟩ := b
  simp [same5]
theorem eq5 (a b : It) (w : World) : (Op.equalIn 10000 113 (val a) (val b)).run Tryz.prog w = .ok (same5 a b) w := by
  obtain ⟨a1, a2, a3, a4, a5⟩ := a
  obtain ⟨b1, b2, b3, b4, b5⟩ := b
  unfold val same5
  rw [run_equalIn_agg w 9999 _ _ _ (by kernel_rfl) (by kernel_rfl)]
  have e : ∀ (a b : Int) (w : World), (Op.equalIn 9999 3 (.int .i64 a) (.int .i64 b)).run Tryz.prog w = .ok (a == b) w := fun a b w => run_equalIn_int w 9998 _ _ _ a b Tryz.underlying3
  by_cases h1 : a1 = b1
  · by_cases h2 : a2 = b2
    · by_cases h3 : a3 = b3
      · by_cases h4 : a4 = b4
        · by_cases h5 : a5 = b5
          · simp [Program.fieldsOf, Tryz.underlying113, Op.eqFields, part, isAgg, run_underlying Tryz.underlying3, e, h1, h2, h3, h4, h5]
          · simp [Program.fieldsOf, Tryz.underlying113, Op.eqFields, part, isAgg, run_underlying Tryz.underlying3, e, h1, h2, h3, h4, h5]
        · simp [Program.fieldsOf, Tryz.underlying113, Op.eqFields, part, isAgg, run_underlying Tryz.underlying3, e, h1, h2, h3, h4]
      · simp [Program.fieldsOf, Tryz.underlying113, Op.eqFields, part, isAgg, run_underlying Tryz.underlying3, e, h1, h2, h3]
    · simp [Program.fieldsOf, Tryz.underlying113, Op.eqFields, part, isAgg, run_underlying Tryz.underlying3, e, h1, h2]
  · simp [Program.fieldsOf, Tryz.underlying113, Op.eqFields, part, isAgg, run_underlying Tryz.underlying3, e, h1]
theorem neq5 (a b : It) (w : World) : (binOp .neq 113 (val a) (val b)).run Tryz.prog w = .ok (.bool (!same5 a b)) w := by
  have := eq5 a b w
  unfold val at this ⊢
  rw [run_neq_struct, this]; rfl
/-- Two lists that lie are the same list: Same says so. -/
theorem rsame_any {l : List It} {p q : Option Addr} {c d : Nat} {w : World} (h : Lies item w p l) (h' : Lies item w q l) (hl : l.length ≤ 1000) :
    Calls Tryz.prog 28 #[.slice p l.length c, .slice q l.length d] w fun e w' => e = .returned (.bool true) ∧ Below w.heap.size w w' := by
  have HB := Lib.hid (Below.refl w.heap.size w)
  have HL := Lib.hid h
  have HM := Lib.hid h'
  clear h h'
  have hne : ((l.length : Int) != (l.length : Int)) = false := by simp
  go_enter Tryz.func28, Tryz.ntmps28
  go_wp2
  go_loopw [5] (fun i wr => ∃ j : Nat, j ≤ l.length ∧ i = .int .i64 (j : Int) ∧ Hid (Below w.heap.size w wr)) (fun i _ => l.length - (intOf i).toNat)
  case atStart => exact ⟨0, by omega, rfl, HB⟩
  case round =>
    obtain ⟨j, hj, rfl, hbw⟩ := hrel
    by_cases hlt : j < l.length
    · obtain ⟨b, o, rfl, ha⟩ := lies_at (HL.out.below hbw.out) hlt
      obtain ⟨k0, k1, k2, k3, k4⟩ := at5 ha
      obtain ⟨b', o', rfl, ha'⟩ := lies_at (HM.out.below hbw.out) hlt
      obtain ⟨x0, x1, x2, x3, x4⟩ := at5 ha'
      have hlt' : (j : Int) < (l.length : Int) := by omega
      have heq := fun i => neq5 (l.getD j z) (l.getD j z) (wr.drewN i)
      rw [same5_iff.2 rfl] at heq
      clear HL HM ha ha'
      generalize l.getD j z = x at *
      obtain ⟨xi, xk, xc, xs, xt⟩ := x
      simp only [val, Bool.not_true] at heq k0 k1 k2 k3 k4 x0 x1 x2 x3 x4
      go_wp2
      go_quiet (fail)
      go_wp2
      go_roundw
      case rel => exact ⟨j + 1, by omega, by go_num, Lib.hid (hbw.out.trans ((below_drewN _ _).mono hbw.out.size))⟩
      case measure => simp only [intOf]; omega
    · have hlt' : ¬ (j : Int) < (l.length : Int) := by omega
      clear HL HM
      go_wp2
      go_ret
      exact ⟨rfl, hbw.out⟩
theorem sums_at {l : List It} {j : Nat} (h : j < l.length) : sums (l.take (j + 1)) = Sat.add [sums (l.take j), (l.getD j z).cost] := by
  rw [take_snoc z h, sums_snoc]
end Go.Proofs.YtbgdlokegibkmaaGreat.Queue

namespace Go.Proofs.YtbgdlokegibkmaaGreat.Ring
open Go.RowKit
theorem refnth_out (p : Option Addr) (n c : Nat) (m : Int) (w : World) (h : ¬ (1 ≤ m ∧ m ≤ (n : Int))) :
    Calls Tryz.prog 131 #[.slice p n c, .int .i64 m] w fun e w' => e = .returned (.tuple #[.int .i64 0, .bool false]) ∧ w = w' := by
  by_cases h1 : m < 1
  · go_enter Tryz.func131, Tryz.ntmps131
    go_wp2
    go_ret2
    exact ⟨rfl, rfl⟩
  · have h2 : (n : Int) < m := by omega
    clear h
    go_enter Tryz.func131, Tryz.ntmps131
    go_wp2
    go_ret2
    exact ⟨rfl, rfl⟩
/-- The world's cells as they were; at most draws. -/
def Still (w w' : World) : Prop := (∀ p, w'.cell? p = w.cell? p) ∧ Below w.heap.size w w'
theorem Still.refl (w : World) : Still w w := ⟨fun _ => rfl, Below.refl _ _⟩
theorem Still.drew {w w' : World} (h : Still w w') (n : Nat) : Still w (w'.drewN n) := ⟨fun p => h.1 p, h.2.trans ⟨rfl, rfl, rfl, Nat.le_refl _, fun _ _ => rfl⟩⟩
set_option maxRecDepth 100000 in
set_option maxHeartbeats 4000000 in
theorem refnth_in (b off c : Nat) (zs : List Int) (m : Int) (w : World) (hl : zs.length ≤ 1000) (h1 : 1 ≤ m) (h2 : m ≤ (zs.length : Int))
    (hc : ∀ j, j < zs.length → w.cell? ⟨b, off + j, none⟩ = some (.int .i64 (zs.getD j 0))) :
    Calls Tryz.prog 131 #[.slice (some ⟨b, off, none⟩) zs.length c, .int .i64 m] w fun e w' => e = .returned (.tuple #[.int .i64 (nth zs m), .bool true]) ∧ Below w.heap.size w w' := by
  have HC := Lib.hid hc; clear hc
  have HG := Lib.hid (nth_good zs m h1 h2)
  have hm : Tryz.prog.follows .mixedOrders = true := by kernel_rfl
  go_enter Tryz.func131, Tryz.ntmps131
  go_wp2
  go_loopw [6] (fun i wr => ∃ k : Nat, i = .int .i64 (k : Int) ∧ k ≤ zs.length ∧ Hid (∀ j, j < k → ¬ Good zs m (zs.getD j 0)) ∧ Hid (Still w wr))
    (fun i _ => zs.length - (intOf i).toNat)
  case atStart => exact ⟨0, rfl, by omega, Lib.hid (fun j hj => absurd hj (by omega)), Lib.hid (Still.refl w)⟩
  case round =>
    obtain ⟨k, rfl, hk, HN, HS⟩ := hrel
    by_cases hlt : k < zs.length
    · have hlt' : (k : Int) < (zs.length : Int) := by omega
      obtain ⟨y, hy⟩ : ∃ y, zs.getD k 0 = y := ⟨_, rfl⟩
      have hck := HC.out k hlt
      rw [hy] at hck
      have HY := Lib.hid hy; clear hy
      have HK := Lib.hid hck; clear hck
      go_wp2
      go_loopw [7, 8, 9] (fun a s j wr2 => ∃ q : Nat, j = .int .i64 (q : Int) ∧ q ≤ zs.length ∧ a = .int .i64 ((more (zs.take q) y : Nat) : Int) ∧ s = .int .i64 ((same (zs.take q) y : Nat) : Int) ∧ Hid (Still w wr2))
        (fun _ _ j _ => zs.length - (intOf j).toNat)
      case atStart => exact ⟨0, rfl, by omega, rfl, rfl, HS⟩
      case round =>
        obtain ⟨q, rfl, hq, rfl, rfl, HS2⟩ := hrel
        have g2 : wr.cell? ⟨b, off + k, none⟩ = some (.int .i64 y) := (HS2.out.1 _).trans HK.out
        by_cases hq' : q < zs.length
        · have hq'' : (q : Int) < (zs.length : Int) := by omega
          have g1 : wr.cell? ⟨b, off + q, none⟩ = some (.int .i64 (zs.getD q 0)) := (HS2.out.1 _).trans (HC.out q hq')
          have mt := more_take zs y q hq'
          have st := same_take zs y q hq'
          have mh := more_hi zs y q
          have sh := same_hi zs y q
          generalize zs.getD q 0 = z at g1 mt st
          generalize more (zs.take q) y = mo at *
          generalize same (zs.take q) y = sa at *
          have hw : (y < z ∧ (z == y) = false ∧ more (zs.take (q + 1)) y = mo + 1 ∧ same (zs.take (q + 1)) y = sa) ∨ (z ≤ y ∧ (z == y) = true ∧ more (zs.take (q + 1)) y = mo ∧ same (zs.take (q + 1)) y = sa + 1) ∨ (z ≤ y ∧ (z == y) = false ∧ more (zs.take (q + 1)) y = mo ∧ same (zs.take (q + 1)) y = sa) := by
            rcases Int.lt_trichotomy y z with c | c | c
            · rw [if_pos c] at mt; rw [if_neg (by omega)] at st
              exact .inl ⟨c, beq_eq_false_iff_ne.2 (by omega), mt, st⟩
            · rw [if_neg (by omega)] at mt; rw [if_pos c.symm] at st
              exact .inr (.inl ⟨by omega, beq_iff_eq.2 c.symm, mt, st⟩)
            · rw [if_neg (by omega)] at mt; rw [if_neg (by omega)] at st
              exact .inr (.inr ⟨by omega, beq_eq_false_iff_ne.2 (by omega), mt, st⟩)
          clear mt st
          rcases hw with ⟨c1, c2, m1, m2⟩ | ⟨c1, c2, m1, m2⟩ | ⟨c1, c2, m1, m2⟩
          all_goals
            have M1 := Lib.hid m1; clear m1
            have M2 := Lib.hid m2; clear m2
            go_wp2
            go_quiet (fail)
            go_wp2
            go_quiet (fail)
            go_wp2
            go_roundw
            case rel => exact ⟨q + 1, by simp, by omega, by rw [M1.out] <;> simp, by rw [M2.out] <;> simp, Lib.hid (HS2.out.drew _)⟩
            case measure => simp only [intOf]; omega
        · have hqe : q = zs.length := by omega
          subst hqe
          have mh := more_hi zs y zs.length
          have sh := same_hi zs y zs.length
          have hle := least_eq zs y
          rw [List.take_length] at mh sh
          simp only [List.take_length]
          by_cases hg1 : (more zs y : Int) < m
          · by_cases hg2 : m ≤ (more zs y : Int) + (same zs y : Int)
            · have hyn : y = nth zs m := good_one (zs := zs) (m := m) ⟨hg1, by rw [hle]; omega⟩ HG.out.1
              have HYN := Lib.hid hyn; clear hyn
              clear hle
              generalize more zs y = mo at *
              generalize same zs y = sa at *
              go_wp2
              go_ret2
              exact ⟨by rw [← HYN.out]; rfl, HS2.out.2⟩
            · have hng : ¬ Good zs m y := fun h => by have := h.2; rw [hle] at this; omega
              have HNG := Lib.hid hng; clear hng
              clear hle
              generalize more zs y = mo at *
              generalize same zs y = sa at *
              go_wp2
              go_roundw
              case rel => exact ⟨k + 1, by simp, by omega, Lib.hid (fun j hj => by
                rcases Nat.lt_or_ge j k with cj | cj
                · exact HN.out j cj
                · have : j = k := by omega
                  rw [this, HY.out]; exact HNG.out), HS2⟩
              case measure => simp only [intOf]; omega
          · have hng : ¬ Good zs m y := fun h => hg1 h.1
            have HNG := Lib.hid hng; clear hng
            clear hle
            generalize more zs y = mo at *
            generalize same zs y = sa at *
            go_wp2
            go_roundw
            case rel => exact ⟨k + 1, by simp, by omega, Lib.hid (fun j hj => by
              rcases Nat.lt_or_ge j k with cj | cj
              · exact HN.out j cj
              · have : j = k := by omega
                rw [this, HY.out]; exact HNG.out), HS2⟩
            case measure => simp only [intOf]; omega
    · exfalso
      obtain ⟨hg, hmem⟩ := HG.out
      obtain ⟨j, hj, hje⟩ := List.mem_iff_getElem.1 hmem
      have := HN.out j (by omega)
      rw [show zs.getD j 0 = nth zs m by simp [hj, hje]] at this
      exact this hg
end Go.Proofs.YtbgdlokegibkmaaGreat.Ring
