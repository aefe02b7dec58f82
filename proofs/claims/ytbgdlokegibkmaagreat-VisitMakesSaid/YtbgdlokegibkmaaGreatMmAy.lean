/-
  The program's Until and Valid (package token), of any token of at most 1000 stamps, for any span, at any reading.
-/
import Derived.Deep.QuietTactic
import Derived.BigQuiet
import Derived.Deep.RegionHeld3
import Derived.Test.YtbgdlokegibkmaaGreatMmAc
import Derived.Test.YtbgdlokegibkmaaGreatMmAx
import Derived.Test.YtbgdlokegibkmaaGreatMmAa
import Derived.Test.YtbgdlokegibkmaaGreatMmAb
namespace Go.Proofs.YtbgdlokegibkmaaGreat.Token
open Go.RowKit
open _root_.Go.Proofs.YtbgdlokegibkmaaGreat.Frame (Rw Tb Tk noRow LeasesAt RowAt RowsAt cell_on Asked tokenOk)
open _root_.Go.Proofs.YtbgdlokegibkmaaGreat.Codec (Ints lt_of_heap frozen_of heap_set)
open _root_.Go.Proofs.YtbgdlokegibkmaaGreat.Ring (nth maj maj_any nth_in nth_out)
open _root_.Go.Proofs.YtbgdlokegibkmaaGreat.Sat (fit add fit_any add2)
/-- The m-th greatest, of any list of ints, and whether there is one. -/
theorem nth_any (l : List Int) (p : Option Addr) (c : Nat) (m : Int) (u : World) (hl : l.length ≤ 1000) (hi : Ints u p l) :
    Calls Tryz.prog 145 #[.slice p l.length c, .int .i64 m] u fun e w' => e = .returned (.tuple #[.int .i64 (nth l m), .bool (decide (1 ≤ m ∧ m ≤ (l.length : Int)))]) ∧ Below u.heap.size u w' := by
  by_cases h : 1 ≤ m ∧ m ≤ (l.length : Int)
  · rcases hi with h0 | ⟨b, o, rfl, hc⟩
    · subst h0
      simp only [List.length_nil] at h
      omega
    · rw [decide_eq_true h]
      exact nth_in b o c l m u hl h.1 h.2 hc
  · rw [decide_eq_false h, show nth l m = 0 by unfold nth; rw [if_neg h]]
    refine (nth_out p l.length c m u h).mono ?_
    rintro e w' ⟨rfl, rfl⟩
    exact ⟨rfl, Below.refl _ _⟩
set_option maxRecDepth 100000 in
theorem until_core (g h s span m R S : Int) (ok : Bool) (ps p : Option Addr) (n cs k c : Nat) (w : World)
    (hm : ∀ u, Calls Tryz.prog 146 #[.int .i64 (n : Int)] u fun e w' => e = .returned (.int .i64 m) ∧ u = w')
    (hnth : ∀ u, Below w.heap.size w u → Calls Tryz.prog 145 #[.slice ps n cs, .int .i64 m] u fun e w' => e = .returned (.tuple #[.int .i64 R, .bool ok]) ∧ Below u.heap.size u w')
    (ha : ∀ (u : World) (b : Nat), b = u.heap.size → Calls Tryz.prog 88 #[.slice (some ⟨b, 0, none⟩) 2 2] (u.alloc (.cells #[.int .i64 R, .int .i64 span] 3)) fun e w' => e = .returned (.int .i64 S) ∧ u.alloc (.cells #[.int .i64 R, .int .i64 span] 3) = w')
    (U : Int) (hU : (ok = false ∧ U = -1) ∨ (ok = true ∧ R < 0 ∧ U = -1) ∨ (ok = true ∧ ¬ R < 0 ∧ U = S)) :
    Calls Tryz.prog 101 #[.agg #[.int .i64 g, .int .i64 h, .slice ps n cs, .int .i64 s, .slice p k c], .int .i64 span] w fun e w' => e = .returned (.int .i64 U) ∧ Below w.heap.size w w' := by
  have M0 := Lib.hid ((Mem.start w).box #[.int .i64 g, .int .i64 h, .slice ps n cs, .int .i64 s, .slice p k c] 30)
  obtain ⟨b0, b1, b2, b3, b4⟩ := box5 (M0.out.boxes 0 _ _ _ rfl)
  rcases hU with ⟨rfl, rfl⟩ | ⟨rfl, hR, rfl⟩ | ⟨rfl, hR, rfl⟩
  all_goals
    go_enter Tryz.func101, Tryz.ntmps101
    go_wp2
    generalize w.alloc (.cells #[.int .i64 g, .int .i64 h, .slice ps n cs, .int .i64 s, .slice p k c] 30) = W at *
    go_region_held3 (fun u => u.cell? ⟨w.heap.size, 2, none⟩ = some (.slice ps n cs)) (first | assumption | go_keep) (first | (go_at_call 146; (with_reducible refine (hm _).mono ?_); rintro e w1 ⟨rfl, rfl⟩) | (go_at_call 145; (with_reducible refine (hnth _ (M0.out.drew.below)).mono ?_); rintro e w1 ⟨rfl, hb⟩; have M1 := Lib.hid (M0.out.drew.on hb); have SL := (box5 (M1.out.boxes 0 _ _ _ rfl)).2.2.1; clear hb))
    all_goals
      go_wp2_with (go_at_call 88; (with_reducible refine (ha _ _ ?hb).mono ?_); (case hb => simp); rintro e w1 ⟨rfl, rfl⟩)
      go_ret
      first
        | exact ⟨rfl, M1.out.below⟩
        | exact ⟨rfl, M1.out.below.alloc M1.out.below.size _⟩
theorem puntil_any (t : Tk) (ps : Option Addr) (cs : Nat) (p : Option Addr) (c : Nat) (span : Int) (w : World) (hn : t.stamps.length ≤ 1000) (hi : Ints w ps t.stamps) :
    Calls Tryz.prog 101 #[tokVal t ps cs p c, .int .i64 span] w fun e w' => e = .returned (.int .i64 (upto t.stamps span)) ∧ Below w.heap.size w w' := by
  unfold tokVal
  refine until_core t.gen t.hop t.table.start span (maj t.stamps.length) (nth t.stamps (maj t.stamps.length)) (add [nth t.stamps (maj t.stamps.length), span]) (decide (1 ≤ maj t.stamps.length ∧ maj t.stamps.length ≤ (t.stamps.length : Int))) ps p t.stamps.length cs _ c w (fun u => maj_any _ u (by omega)) (fun u hu => nth_any t.stamps ps cs _ u hn (hi.below hu)) (fun u b hb => add2 _ _ u b hb) _ ?_
  by_cases h : 1 ≤ maj t.stamps.length ∧ maj t.stamps.length ≤ (t.stamps.length : Int)
  · by_cases h2 : nth t.stamps (maj t.stamps.length) < 0
    · exact .inr (.inl ⟨decide_eq_true h, h2, upto_never h.1 h.2 h2⟩)
    · exact .inr (.inr ⟨decide_eq_true h, h2, upto_till h.1 h.2 (by omega)⟩)
  · exact .inl ⟨decide_eq_false h, upto_out h⟩
set_option maxRecDepth 100000 in
theorem valid_core (g h s now span F U : Int) (ps p : Option Addr) (n cs k c : Nat) (w : World)
    (hf : ∀ u, Calls Tryz.prog 100 #[.int .i64 now] u fun e w' => e = .returned (.int .i64 F) ∧ u = w')
    (hu : ∀ u, Below w.heap.size w u → Calls Tryz.prog 101 #[.agg #[.int .i64 g, .int .i64 h, .slice ps n cs, .int .i64 s, .slice p k c], .int .i64 span] u fun e w' => e = .returned (.int .i64 U) ∧ Below u.heap.size u w') :
    Calls Tryz.prog 54 #[.agg #[.int .i64 g, .int .i64 h, .slice ps n cs, .int .i64 s, .slice p k c], .int .i64 now, .int .i64 span] w (Asked w (decide (F ≤ U))) := by
  have M0 := Lib.hid ((Mem.start w).box #[.int .i64 g, .int .i64 h, .slice ps n cs, .int .i64 s, .slice p k c] 30)
  obtain ⟨b0, b1, b2, b3, b4⟩ := box5 (M0.out.boxes 0 _ _ _ rfl)
  go_enter Tryz.func54, Tryz.ntmps54
  go_wp2
  generalize w.alloc (.cells #[.int .i64 g, .int .i64 h, .slice ps n cs, .int .i64 s, .slice p k c] 30) = W at *
  go_region_held3 (fun u => u.cell? ⟨w.heap.size, 0, none⟩ = some (.int .i64 g) ∧ u.cell? ⟨w.heap.size, 1, none⟩ = some (.int .i64 h) ∧ u.cell? ⟨w.heap.size, 2, none⟩ = some (.slice ps n cs) ∧ u.cell? ⟨w.heap.size, 3, none⟩ = some (.int .i64 s) ∧ u.cell? ⟨w.heap.size, 4, none⟩ = some (.slice p k c)) (first | assumption | exact ⟨b0, b1, b2, b3, b4⟩ | go_keep) (first | (go_at_call 100; (with_reducible refine (hf _).mono ?_); rintro e w1 ⟨rfl, rfl⟩) | (go_at_call 101; (with_reducible refine (hu _ (M0.out.drew.below)).mono ?_); rintro e w1 ⟨rfl, hb⟩; have M1 := Lib.hid (M0.out.drew.on hb); have SL := box5 (M1.out.boxes 0 _ _ _ rfl); clear hb))
  all_goals
    go_wp2
    go_ret
    exact ⟨rfl, M1.out.below⟩
theorem pvalid_any (t : Tk) (ps : Option Addr) (cs : Nat) (p : Option Addr) (c : Nat) (now span : Int) (w : World) (hn : t.stamps.length ≤ 1000) (hi : Ints w ps t.stamps) :
    Calls Tryz.prog 54 #[tokVal t ps cs p c, .int .i64 now, .int .i64 span] w (Asked w (valid t.stamps now span)) := by
  rw [valid_upto]
  have hu := fun (u : World) (hb : Below w.heap.size w u) => puntil_any t ps cs p c span u hn (hi.below hb)
  unfold tokVal at hu ⊢
  exact valid_core t.gen t.hop t.table.start now span (fit now) (upto t.stamps span) ps p t.stamps.length cs t.table.rows.length c w (fun u => fit_any now u) hu
end Go.Proofs.YtbgdlokegibkmaaGreat.Token
