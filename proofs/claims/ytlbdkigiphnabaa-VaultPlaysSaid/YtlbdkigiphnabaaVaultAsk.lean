/-
  The document's Right, Rises, Bytes of any states: each tells what the plain functions of VaultPlain tell, and of what lay when the call began nothing has turned.
-/
import Derived.Test.YtlbdkigiphnabaaCodecPut
import Derived.Test.YtlbdkigiphnabaaCodecRefReads
import Derived.Test.YtlbdkigiphnabaaDiskRef
import Derived.Test.YtlbdkigiphnabaaVaultPlain
namespace Go.Proofs.Ytlbdkigiphnabaa.Vault
open Go.RowKit
open _root_.Go.Proofs.Ytlbdkigiphnabaa.Codec (Cel cells8 Made puts goods IsBytes own_lower lt_of_heap)

/-- A state, by value. -/
def val (s : Sv) : Value := .agg #[.int .i64 s.p, .int .i64 s.g, .int .i64 s.h, .int .i64 s.r]
def cells (s : Sv) : Array Value := #[.int .i64 s.p, .int .i64 s.g, .int .i64 s.h, .int .i64 s.r]

theorem right_all (s : Sv) : right s = (nums s).all may := by simp [right, nums]

set_option maxRecDepth 100000 in
theorem rright_any (s : Sv) (w : World) : Calls Try.prog 30 #[val s] w fun e w' => e = .returned (.bool (right s)) ∧ Below w.heap.size w w' := by
  have hall := right_all s
  have hlen : (nums s).length = 4 := rfl
  have hb : Below w.heap.size w ((w.alloc (.cells #[.int .i64 s.p, .int .i64 s.g, .int .i64 s.h, .int .i64 s.r] 47)).alloc (.cells #[.int .i64 s.p, .int .i64 s.g, .int .i64 s.h, .int .i64 s.r] 3)) :=
    ((Below.refl _ _).alloc (Nat.le_refl _) _).alloc (by simp) _
  have hc : ∀ j, j < 4 → ((w.alloc (.cells #[.int .i64 s.p, .int .i64 s.g, .int .i64 s.h, .int .i64 s.r] 47)).alloc (.cells #[.int .i64 s.p, .int .i64 s.g, .int .i64 s.h, .int .i64 s.r] 3)).cell? ⟨w.heap.size + 1, j, none⟩ = some (.int .i64 ((nums s).getD j 0)) := by
    intro j hj
    have h1 := heap_alloc_new (w.alloc (.cells #[.int .i64 s.p, .int .i64 s.g, .int .i64 s.h, .int .i64 s.r] 47)) (.cells #[.int .i64 s.p, .int .i64 s.g, .int .i64 s.h, .int .i64 s.r] 3)
    rw [show (w.alloc (.cells #[.int .i64 s.p, .int .i64 s.g, .int .i64 s.h, .int .i64 s.r] 47)).heap.size = w.heap.size + 1 by simp] at h1
    rw [cell_of_row _ _ j _ _ (0, 0) h1]
    match j, hj with
    | 0, _ => rfl
    | 1, _ => rfl
    | 2, _ => rfl
    | 3, _ => rfl
  obtain ⟨p, g, h, r⟩ := s
  simp only [val] at *
  generalize nums ⟨p, g, h, r⟩ = l at hall hlen hc
  generalize right ⟨p, g, h, r⟩ = R at hall ⊢
  have HC := Lib.hid hc
  have HB := Lib.hid hb
  have HA := Lib.hid hall
  have HL := Lib.hid hlen
  clear hc hb hall hlen
  go_enter Try.func30, Try.ntmps30
  go_wp2
  go_loop [4] (fun i => ∃ j : Nat, j ≤ 4 ∧ i = .int .i64 (j : Int) ∧ Hid ((l.take j).all may = true)) (fun i => 4 - (intOf i).toNat)
  case atStart => exact ⟨0, by omega, rfl, by simp [Hid]⟩
  case round =>
    obtain ⟨j, hj, rfl, hok⟩ := hrel
    by_cases hlt : j < 4
    · have hcell := HC.out j hlt
      have hs : l.take (j + 1) = l.take j ++ [l.getD j 0] := Codec.take_snoc l j (by rw [HL.out]; exact hlt)
      have hbad : may (l.getD j 0) = false → R = false := by
        intro hm
        rw [HA.out, List.all_eq_false]
        exact ⟨l.getD j 0, (by have := HL.out; simp [List.getD, show j < l.length by omega]), (by rw [hm]; simp)⟩
      have hgood : may (l.getD j 0) = true → (l.take (j + 1)).all may = true := by
        intro hm
        rw [hs, List.all_append, hok.out, List.all_cons, hm]
        rfl
      generalize l.getD j 0 = y at hcell hbad hgood
      have HBD := Lib.hid hbad
      have HGD := Lib.hid hgood
      clear hs hbad hgood HC HA HL hok
      by_cases h0 : y < 0
      · have HR := Lib.hid (HBD.out (by simp [may]; omega))
        clear HBD HGD
        go_wp2
        go_ret
        exact ⟨by rw [HR.out]; rfl, HB.out⟩
      · by_cases h1 : 1099511627776 < y
        · have HR := Lib.hid (HBD.out (by simp [may]; omega))
          have h0' : 0 ≤ y := by omega
          clear HBD HGD h0
          go_wp2
          go_ret
          exact ⟨by rw [HR.out]; rfl, HB.out⟩
        · have HR := Lib.hid (HGD.out (may_iff.2 ⟨by omega, by omega⟩))
          have h0' : 0 ≤ y := by omega
          have h1' : y ≤ 1099511627776 := by omega
          clear HBD HGD h0 h1
          go_wp2
          go_round
          case rel => exact ⟨j + 1, by omega, by go_num, HR⟩
          case measure => simp [intOf]; omega
    · obtain rfl : j = 4 := by omega
      have HR := Lib.hid (show R = true by rw [HA.out, ← List.take_length (l := l), HL.out]; exact hok.out)
      clear HC HA HL hok
      go_wp2
      go_ret
      exact ⟨by rw [HR.out]; rfl, HB.out⟩

set_option maxRecDepth 100000 in
theorem rrises_any (a b : Sv) (w : World) : Calls Try.prog 20 #[val a, val b] w fun e w' => e = .returned (.bool (rises a b)) ∧ Below w.heap.size w w' := by
  have hb : Below w.heap.size w ((w.alloc (.cells #[.int .i64 a.p, .int .i64 a.g, .int .i64 a.h, .int .i64 a.r] 47)).alloc (.cells #[.int .i64 b.p, .int .i64 b.g, .int .i64 b.h, .int .i64 b.r] 47)) :=
    ((Below.refl _ _).alloc (Nat.le_refl _) _).alloc (by simp) _
  have HB := Lib.hid hb
  clear hb
  have hc : (rises a b = false ∧ b.p < a.p) ∨ (rises a b = false ∧ a.p ≤ b.p ∧ b.r < a.r) ∨ (rises a b = true ∧ a.p ≤ b.p ∧ a.r ≤ b.r ∧ a.g < b.g) ∨ (rises a b = false ∧ a.p ≤ b.p ∧ a.r ≤ b.r ∧ b.g < a.g) ∨
      (rises a b = true ∧ a.p ≤ b.p ∧ a.r ≤ b.r ∧ a.g = b.g ∧ a.h ≤ b.h) ∨ (rises a b = false ∧ a.p ≤ b.p ∧ a.r ≤ b.r ∧ a.g = b.g ∧ b.h < a.h) := by
    have hf : ¬ (a.p ≤ b.p ∧ a.r ≤ b.r ∧ (a.g < b.g ∨ (a.g = b.g ∧ a.h ≤ b.h))) → rises a b = false := fun h => Bool.eq_false_iff.2 fun e => h (rises_iff.1 e)
    have ht : (a.p ≤ b.p ∧ a.r ≤ b.r ∧ (a.g < b.g ∨ (a.g = b.g ∧ a.h ≤ b.h))) → rises a b = true := rises_iff.2
    by_cases h1 : b.p < a.p
    · exact .inl ⟨hf (by omega), h1⟩
    · by_cases h2 : b.r < a.r
      · exact .inr (.inl ⟨hf (by omega), by omega, h2⟩)
      · by_cases h3 : a.g < b.g
        · exact .inr (.inr (.inl ⟨ht (by omega), by omega, by omega, h3⟩))
        · by_cases h4 : b.g < a.g
          · exact .inr (.inr (.inr (.inl ⟨hf (by omega), by omega, by omega, h4⟩)))
          · by_cases h5 : a.h ≤ b.h
            · exact .inr (.inr (.inr (.inr (.inl ⟨ht (by omega), by omega, by omega, by omega, h5⟩))))
            · exact .inr (.inr (.inr (.inr (.inr ⟨hf (by omega), by omega, by omega, by omega, by omega⟩))))
  obtain ⟨p, g, h, r⟩ := a
  obtain ⟨p', g', h', r'⟩ := b
  simp only [val] at *
  generalize rises ⟨p, g, h, r⟩ ⟨p', g', h', r'⟩ = R at hc ⊢
  rcases hc with ⟨rfl, c1⟩ | ⟨rfl, c1, c2⟩ | ⟨rfl, c1, c2, c3⟩ | ⟨rfl, c1, c2, c3⟩ | ⟨rfl, c1, c2, rfl, c4⟩ | ⟨rfl, c1, c2, rfl, c4⟩
  all_goals
    go_enter Try.func20, Try.ntmps20
    go_wp2
    go_ret
    exact ⟨by first | rfl | (simp; omega), HB.out⟩

theorem put_good {w w1 : World} {l : List Int} {e : Ending} (h1 : Codec.PutTold w l e w1) (hg : goods l = true) : Made 5 w (puts l) (fun v => .tuple #[v, .int .i64 0]) e w1 := by
  rcases h1 with h1 | h1
  · exact h1.2
  · rw [hg] at h1
    cases h1.1

/-- A record's bytes. -/
theorem rbytes_any (s : Sv) (h : right s = true) (w : World) : Calls Try.prog 36 #[val s] w (Made 5 w (rec s) id) := by
  have hb : Below w.heap.size w ((w.alloc (.cells #[.int .i64 s.p, .int .i64 s.g, .int .i64 s.h, .int .i64 s.r] 47)).alloc (.cells #[.int .i64 s.p, .int .i64 s.g, .int .i64 s.h, .int .i64 s.r] 3)) :=
    ((Below.refl _ _).alloc (Nat.le_refl _) _).alloc (by simp) _
  have hc : ∀ j, j < (nums s).length → ((w.alloc (.cells #[.int .i64 s.p, .int .i64 s.g, .int .i64 s.h, .int .i64 s.r] 47)).alloc (.cells #[.int .i64 s.p, .int .i64 s.g, .int .i64 s.h, .int .i64 s.r] 3)).cell? ⟨w.heap.size + 1, 0 + j, none⟩ = some (.int .i64 ((nums s).getD j 0)) := by
    intro j hj
    have h1 := heap_alloc_new (w.alloc (.cells #[.int .i64 s.p, .int .i64 s.g, .int .i64 s.h, .int .i64 s.r] 47)) (.cells #[.int .i64 s.p, .int .i64 s.g, .int .i64 s.h, .int .i64 s.r] 3)
    rw [show (w.alloc (.cells #[.int .i64 s.p, .int .i64 s.g, .int .i64 s.h, .int .i64 s.r] 47)).heap.size = w.heap.size + 1 by simp] at h1
    rw [cell_of_row _ _ (0 + j) _ _ (0, 0) h1]
    match j, hj with
    | 0, _ => rfl
    | 1, _ => rfl
    | 2, _ => rfl
    | 3, _ => rfl
  have hput := Codec.put_some (w.heap.size + 1) 0 4 (nums s) _ (by simp [nums]) hc
  have hg := goods_nums h
  have HG := Lib.hid hg
  have HB := Lib.hid hb
  clear hc hb hg h
  obtain ⟨p, g, h, r⟩ := s
  simp only [val] at *
  generalize hn : nums ⟨p, g, h, r⟩ = l at hput HG
  have hl : l.length = 4 := by rw [← hn]; rfl
  rw [hl] at hput
  have HR := Lib.hid (show rec ⟨p, g, h, r⟩ = puts l by rw [← hn]; rfl)
  clear hn hl
  go_enter Try.func36, Try.ntmps36
  go_wp2_with (go_at_call 49; (with_reducible refine hput.mono ?_); rintro e w1 h1; obtain ⟨v, rfl, ho, hb1⟩ := put_good h1 HG.out; have HO := Lib.hid ho; have HB1 := Lib.hid hb1; clear hput h1 ho hb1)
  go_ret
  refine ⟨v, rfl, ?_, HB.out.trans (HB1.out.mono HB.out.size)⟩
  rw [HR.out]
  exact own_lower HO.out HB.out.size
end Go.Proofs.Ytlbdkigiphnabaa.Vault
