/-
  The document's Token and none, of any token: each returns what the plain functions of FramePlain give; of what lay when the call began nothing has turned.
-/
import Derived.Test.YtkdjhphakopfeaaFrameTable
namespace Go.Proofs.Ytkdjhphakopfeaa.Frame
open Go.RowKit Codec

theorem stamps_succ (l : List Int) (n : Nat) : stampsOk l (n + 1) = (stampsOk l n && isIn (l.getD n 0) (-1) 4611686018427387903) := allTo_succ _ n

set_option maxRecDepth 100000 in
set_option maxHeartbeats 2000000 in
theorem token_any (t : Tk) (ps p : Option Addr) (cs c : Nat) (w : World) (hn : (t.stamps.length : Int) ≤ 9223372036854775807) (hst : Ints w ps t.stamps) (hl : RowsAt w p t.table.rows) (hs : Small t.table.rows) :
    Calls Try.prog 46 #[.agg #[.int .i64 t.gen, .int .i64 t.hop, .slice ps t.stamps.length cs, .int .i64 t.table.start, .slice p t.table.rows.length c]] w (Asked w (tokenOk t)) := by
  obtain ⟨gen, hop, l, tb⟩ := t
  simp only at hn hst hl hs ⊢
  have htab := fun (u : World) (hu : Below w.heap.size w u) => table_any tb p c u (hl.below hu) hs
  have c1 := fun u => in_any gen 1 1099511627776 u
  have c2 := fun u => in_any hop 0 1099511627776 u
  have c3 := fun u => in_any (l.length : Int) 1 64 u
  generalize hR : tokenOk ⟨gen, hop, l, tb⟩ = R
  unfold tokenOk tokenHead at hR
  simp only at hR
  generalize isIn gen 1 1099511627776 = b1 at c1 hR
  generalize isIn hop 0 1099511627776 = b2 at c2 hR
  generalize isIn (l.length : Int) 1 64 = b3 at c3 hR
  generalize tableOk tb = bt at htab hR
  have HST := Lib.hid hst
  have HTAB := Lib.hid htab
  clear htab hl hs hst
  obtain ⟨hd, hhd⟩ : ∃ hd, hd = (b1 && b2 && b3) := ⟨_, rfl⟩
  rw [← hhd] at hR
  have HR := Lib.hid hR
  clear hR
  have ways : (b1 = false ∧ hd = false) ∨ (b1 = true ∧ b2 = false ∧ hd = false) ∨ (b1 = true ∧ b2 = true ∧ b3 = hd) := by
    cases b1 <;> cases b2 <;> cases b3 <;> simp_all
  clear hhd
  rcases ways with ⟨rfl, hd0⟩ | ⟨rfl, rfl, hd0⟩ | ⟨rfl, rfl, hd0⟩
  all_goals
    have HD := Lib.hid hd0
    clear hd0
    go_enter Try.func46, Try.ntmps46
    go_wp2_with (first
      | (go_at_call 44; (with_reducible refine (c1 _).mono ?_); rintro e w1 ⟨rfl, rfl⟩)
      | (go_at_call 44; (with_reducible refine (c2 _).mono ?_); rintro e w1 ⟨rfl, rfl⟩)
      | (go_at_call 44; (with_reducible refine (c3 _).mono ?_); rintro e w1 ⟨rfl, rfl⟩))
    generalize hw0 : w.alloc (.cells #[.int .i64 gen, .int .i64 hop, .slice ps l.length cs, .int .i64 tb.start, .slice p tb.rows.length c] 39) = w0
    have b0 : Below w.heap.size w w0 := by rw [← hw0]; exact (Below.refl _ _).alloc (Nat.le_refl _) _
    have k2 : w0.cell? ⟨w.heap.size, 2, none⟩ = some (.slice ps l.length cs) := by
      rw [← hw0, cell_of_row _ _ 2 _ _ (0, 0) (heap_alloc_new w _)]; rfl
    have k3 : w0.cell? ⟨w.heap.size, 3, none⟩ = some (.int .i64 tb.start) := by
      rw [← hw0, cell_of_row _ _ 3 _ _ (0, 0) (heap_alloc_new w _)]; rfl
    have k4 : w0.cell? ⟨w.heap.size, 4, none⟩ = some (.slice p tb.rows.length c) := by
      rw [← hw0, cell_of_row _ _ 4 _ _ (0, 0) (heap_alloc_new w _)]; rfl
    clear hw0 c1 c2 c3
    go_loop [3, 4] (fun ok i => ∃ j : Nat, j ≤ l.length ∧ i = .int .i64 (j : Int) ∧ ok = .bool (hd && stampsOk l j)) (fun _ i => l.length - (intOf i).toNat)
    case atStart => exact ⟨0, by omega, rfl, (by rw [show stampsOk l 0 = true from rfl, Bool.and_true]; first | rw [HD.out] | rw [← HD.out])⟩
    case round =>
      obtain ⟨j, hj, rfl, rfl⟩ := hrel
      by_cases hlt : j < l.length
      · obtain ⟨g, o, rfl, hc⟩ : ∃ g o, ps = some ⟨g, o, none⟩ ∧ ∀ j, j < l.length → w.cell? ⟨g, o + j, none⟩ = some (.int .i64 (l.getD j 0)) := by
          rcases HST.out with h | h
          · rw [h] at hlt; simp at hlt
          · exact h
        have hcj := cell_on (hc j hlt) b0
        have HS := Lib.hid (stamps_succ l j)
        have ci := fun u => in_any (l.getD j 0) (-1) 4611686018427387903 u
        generalize isIn (l.getD j 0) (-1) 4611686018427387903 = b at ci HS
        generalize l.getD j 0 = x at hcj ci
        obtain ⟨q, hq⟩ : ∃ q, q = (hd && stampsOk l j) := ⟨_, rfl⟩
        rw [← hq]
        have HQ := Lib.hid hq
        clear hc hq
        cases q
        · go_wp2_with (go_at_call 44; (with_reducible refine (ci _).mono ?_); rintro e w1 ⟨rfl, rfl⟩)
          go_round
          case rel => exact ⟨j + 1, by omega, by go_num, by rw [HS.out, ← Bool.and_assoc, ← HQ.out]; rfl⟩
          case measure => simp [intOf]; omega
        · go_wp2_with (go_at_call 44; (with_reducible refine (ci _).mono ?_); rintro e w1 ⟨rfl, rfl⟩)
          go_round
          case rel => exact ⟨j + 1, by omega, by go_num, by rw [HS.out, ← Bool.and_assoc, ← HQ.out]; rfl⟩
          case measure => simp [intOf]; omega
      · obtain rfl : j = l.length := by omega
        have ct := HTAB.out w0 b0
        obtain ⟨q, hq⟩ : ∃ q, q = (hd && stampsOk l l.length) := ⟨_, rfl⟩
        rw [← hq]
        have hr : R = (q && bt) := by rw [hq]; exact HR.out.symm
        clear hq HTAB HR
        cases q
        · obtain rfl : R = false := by rw [hr]; rfl
          clear hr
          go_wp2_with (go_at_call 58; (with_reducible refine ct.mono ?_); rintro e w1 ⟨rfl, hb1⟩; have HB1 := Lib.hid hb1; clear hb1)
          go_ret
          exact ⟨rfl, b0.trans (HB1.out.mono b0.size)⟩
        · obtain rfl : R = bt := by rw [hr]; rfl
          clear hr
          go_wp2_with (go_at_call 58; (with_reducible refine ct.mono ?_); rintro e w1 ⟨rfl, hb1⟩; have HB1 := Lib.hid hb1; clear hb1)
          go_ret
          exact ⟨rfl, b0.trans (HB1.out.mono b0.size)⟩

theorem none_ways (gen hop start : Int) (n m : Nat) (R : Bool) (h : (gen == 0 && hop == 0 && n == 0 && start == 0 && m == 0) = R) :
    (gen ≠ 0 ∧ R = false) ∨ (gen = 0 ∧ hop ≠ 0 ∧ R = false) ∨ (gen = 0 ∧ hop = 0 ∧ 0 < n ∧ R = false) ∨ (gen = 0 ∧ hop = 0 ∧ n = 0 ∧ start ≠ 0 ∧ R = false) ∨ (gen = 0 ∧ hop = 0 ∧ n = 0 ∧ start = 0 ∧ 0 < m ∧ R = false) ∨ (gen = 0 ∧ hop = 0 ∧ n = 0 ∧ start = 0 ∧ m = 0 ∧ R = true) := by
  subst h
  by_cases h1 : gen = 0
  · by_cases h2 : hop = 0
    · by_cases h3 : n = 0
      · by_cases h4 : start = 0
        · by_cases h5 : m = 0
          · exact .inr (.inr (.inr (.inr (.inr ⟨h1, h2, h3, h4, h5, by simp [h1, h2, h3, h4, h5]⟩))))
          · exact .inr (.inr (.inr (.inr (.inl ⟨h1, h2, h3, h4, by omega, by simp [h5]⟩))))
        · exact .inr (.inr (.inr (.inl ⟨h1, h2, h3, h4, by simp [h4]⟩)))
      · exact .inr (.inr (.inl ⟨h1, h2, by omega, by simp [h3]⟩))
    · exact .inr (.inl ⟨h1, h2, by simp [h2]⟩)
  · exact .inl ⟨h1, by simp [h1]⟩

set_option maxRecDepth 100000 in
set_option maxHeartbeats 1000000 in
theorem none_any (t : Tk) (ps p : Option Addr) (cs c : Nat) (w : World) (hn : (t.stamps.length : Int) ≤ 9223372036854775807) (hm : (t.table.rows.length : Int) ≤ 9223372036854775807) :
    Calls Try.prog 45 #[.agg #[.int .i64 t.gen, .int .i64 t.hop, .slice ps t.stamps.length cs, .int .i64 t.table.start, .slice p t.table.rows.length c]] w (Asked w (tokenNone t)) := by
  obtain ⟨gen, hop, l, start, rows⟩ := t
  simp only at hn hm ⊢
  generalize hR : tokenNone ⟨gen, hop, l, start, rows⟩ = R
  unfold tokenNone at hR
  simp only at hR
  generalize l.length = n at hn hR ⊢
  generalize rows.length = m at hm hR ⊢
  have ways := none_ways gen hop start n m R hR
  clear hR
  rcases ways with ⟨h1, rfl⟩ | ⟨rfl, h1, rfl⟩ | ⟨rfl, rfl, h1, rfl⟩ | ⟨rfl, rfl, rfl, h1, rfl⟩ | ⟨rfl, rfl, rfl, rfl, h1, rfl⟩ | ⟨rfl, rfl, rfl, rfl, rfl, rfl⟩
  · have h2 : (gen == 0) = false := by simpa using h1
    clear h1
    go_enter Try.func45, Try.ntmps45
    go_wp2
    go_ret
    exact ⟨rfl, (Below.refl _ _).alloc (Nat.le_refl _) _⟩
  · have h2 : (hop == 0) = false := by simpa using h1
    clear h1
    go_enter Try.func45, Try.ntmps45
    go_wp2
    go_ret
    exact ⟨rfl, (Below.refl _ _).alloc (Nat.le_refl _) _⟩
  · have h2 : ((n : Int) == 0) = false := by simp; omega
    go_enter Try.func45, Try.ntmps45
    go_wp2
    go_ret
    exact ⟨rfl, (Below.refl _ _).alloc (Nat.le_refl _) _⟩
  · have h2 : (start == 0) = false := by simpa using h1
    clear h1
    go_enter Try.func45, Try.ntmps45
    go_wp2
    go_ret
    exact ⟨rfl, (Below.refl _ _).alloc (Nat.le_refl _) _⟩
  · have h2 : ((m : Int) == 0) = false := by simp; omega
    go_enter Try.func45, Try.ntmps45
    go_wp2
    go_ret
    exact ⟨rfl, (Below.refl _ _).alloc (Nat.le_refl _) _⟩
  · go_enter Try.func45, Try.ntmps45
    go_wp2
    go_ret
    exact ⟨rfl, (Below.refl _ _).alloc (Nat.le_refl _) _⟩
end Go.Proofs.Ytkdjhphakopfeaa.Frame
