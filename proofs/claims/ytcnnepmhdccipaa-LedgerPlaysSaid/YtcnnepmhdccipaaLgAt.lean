/-
  The program's at, of any rows of up to 1000: the place of a key's row, or how many there are; nothing turns.
-/
import Derived.Test.YtcnnepmhdccipaaLgWords
import Derived.ScopeJumps
import Derived.WalkMore
namespace Go.Proofs.Ytcnnepmhdccipaa.Ledger
open Go.RowKit
open _root_.Go.Proofs.Ytcnnepmhdccipaa.Frame (Rw Tb noRow LeasesAt cell_on)

/-- Where a key's row stands; behind the last one: none. -/
def pat (l : List Rw) (key : Int) : Nat := if place l key < 0 then l.length else (place l key).toNat
theorem pat_at {l : List Rw} {key : Int} {j : Nat} (hj : j < l.length) (h : ∀ i, i < j → (l.getD i noRow).key ≠ key) (h1 : (l.getD j noRow).key = key) : pat l key = j := by
  have e : place l key = (j : Int) := spot_at _ noRow l j hj (fun i hi => by simpa using h i hi) (by simpa using h1)
  unfold pat
  rw [e, if_neg (by omega), Int.toNat_natCast]
theorem pat_none {l : List Rw} {key : Int} (h : ∀ i, i < l.length → (l.getD i noRow).key ≠ key) : pat l key = l.length := by
  have e : place l key = -1 := spot_none _ noRow l fun i hi => by simpa using h i hi
  unfold pat
  rw [e, if_pos (by omega)]
theorem pat_cases (l : List Rw) (key : Int) : (place l key = -1 ∧ pat l key = l.length ∧ ∀ i, i < l.length → (l.getD i noRow).key ≠ key) ∨ (∃ j : Nat, place l key = (j : Int) ∧ pat l key = j ∧ j < l.length ∧ (l.getD j noRow).key = key) := by
  rcases spot_cases (fun r : Rw => r.key == key) noRow l with ⟨h1, h2⟩ | ⟨j, h1, h2, h3, h4⟩
  · exact .inl ⟨h1, pat_none fun i hi => by simpa using h2 i hi, fun i hi => by simpa using h2 i hi⟩
  · exact .inr ⟨j, h1, pat_at h2 (fun i hi => by simpa using h4 i hi) (by simpa using h3), h2, by simpa using h3⟩
set_option maxRecDepth 100000 in
theorem pat_any (l : List Rw) (p : Option Addr) (c : Nat) (key : Int) (w : World) (h : RowsAt w p l) (hl : l.length ≤ 1000) :
    Calls Try.prog 37 #[.slice p l.length c, .int .i64 key] w fun e w' => e = .returned (.int .i64 (pat l key : Nat)) ∧ w' = w := by
  have tri : Hid (∀ j : Nat, j ≤ l.length → (∀ i, i < j → (l.getD i noRow).key ≠ key) → (∃ b o y, (j : Int) < (l.length : Int) ∧ p = some ⟨b, o, none⟩ ∧ w.cell? ⟨b, o + j * 4, none⟩ = some (.int .i64 y) ∧ ¬ y = key ∧ Hid (∀ i, i < j + 1 → (l.getD i noRow).key ≠ key)) ∨
      (∃ b o, (j : Int) < (l.length : Int) ∧ p = some ⟨b, o, none⟩ ∧ w.cell? ⟨b, o + j * 4, none⟩ = some (.int .i64 key) ∧ Hid (pat l key = j)) ∨ (j = l.length ∧ Hid (pat l key = j))) := by
    intro j hj hne
    by_cases hlt : j < l.length
    · obtain ⟨b, o, rfl, k0, -⟩ := rows_some h hlt
      by_cases hk : (l.getD j noRow).key = key
      · exact .inr (.inl ⟨b, o, by omega, rfl, by rw [← hk]; exact k0, pat_at hlt hne hk⟩)
      · refine .inl ⟨b, o, _, by omega, rfl, k0, hk, fun i hi => ?_⟩
        by_cases e : i < j
        · exact hne i e
        · rw [show i = j by omega]; exact hk
    · have e : j = l.length := by omega
      exact .inr (.inr ⟨e, by subst e; exact pat_none hne⟩)
  generalize pat l key = R at *
  have tri0 := tri.out 0 (by omega) (fun i hi => by omega)
  clear h
  go_enter Try.func37, Try.ntmps37
  go_wp2
  refine wp_scope_jumps 0 (fun a' w' => w' = w ∧ ∃ (j : Nat) (u6 u7 u8 u9 u10 u11 u12 u13 u14 u15 u16 u17 u18 u19 u20 u21 : Value), a' = { tmps := #[.slice p l.length c, .int .i64 key, undef, undef, .int .i64 0, .int .i64 (j : Int), u6, u7, u8, u9, u10, u11, u12, u13, u14, u15, u16, u17, u18, u19, u20, u21], defers := [] } ∧ j ≤ l.length ∧ Hid (∀ i, i < j → (l.getD i noRow).key ≠ key)) (fun a' _ => l.length - (intOf (a'.tmps.getD 5 undef)).toNat) rfl ?_ ?_
  · rcases tri0 with ⟨b, o, y, hlt, rfl, k0, hk, hn⟩ | ⟨b, o, hlt, rfl, k0, hR⟩ | ⟨hj, hR⟩
    · simp only [Nat.zero_mul, Nat.add_zero] at k0
      go_wp2
      go_step3
      go_wp2
      go_step3
      exact ⟨rfl, rfl, 1, _, _, _, _, _, _, _, _, _, _, _, _, _, _, _, _, rfl, by omega, hn⟩
    · simp only [Nat.zero_mul, Nat.add_zero] at k0
      go_wp2
      go_step3
      go_wp2
      simp only [Exit.jump]
      go_ret
      exact ⟨by rw [hR.out]; rfl, rfl⟩
    · have hj' : ¬ (0 : Int) < (l.length : Int) := by omega
      go_wp2
      go_step3
      go_wp2
      simp only [Exit.jump]
      go_ret
      exact ⟨by rw [hR.out]; rfl, rfl⟩
  · rintro a' w' ⟨rfl, j, u6, u7, u8, u9, u10, u11, u12, u13, u14, u15, u16, u17, u18, u19, u20, u21, rfl, hj, hne⟩
    rcases tri.out j hj hne.out with ⟨b, o, y, hlt, rfl, k0, hk, hn⟩ | ⟨b, o, hlt, rfl, k0, hR⟩ | ⟨hj, hR⟩
    · clear tri tri0 hne
      go_wp2
      go_step3
      refine ⟨rfl, ⟨rfl, j + 1, _, _, _, _, _, _, _, _, _, _, _, _, _, _, _, _, rfl, by omega, hn⟩, ?_⟩
      simp [intOf]
      omega
    · clear tri tri0 hne
      go_wp2
      simp only [Exit.jump]
      go_ret
      exact ⟨by rw [hR.out]; rfl, rfl⟩
    · clear tri tri0 hne
      have hj' : ¬ (j : Int) < (l.length : Int) := by omega
      go_wp2
      simp only [Exit.jump]
      go_ret
      exact ⟨by rw [hR.out, hj]; rfl, rfl⟩
end Go.Proofs.Ytcnnepmhdccipaa.Ledger
