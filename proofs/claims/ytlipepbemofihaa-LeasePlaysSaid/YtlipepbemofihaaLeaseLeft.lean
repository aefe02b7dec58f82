/-
  The document's Left and Close, of any good wallet of up to 1000 leases.
-/
import Derived.Test.YtlipepbemofihaaLeaseGone
import Derived.Deep.QuietTactic
import Derived.BigQuiet
namespace Go.Proofs.Ytlipepbemofihaa.Lease
open Go.RowKit
open _root_.Go.Proofs.Ytlipepbemofihaa.Codec (lt_of_heap frozen_of heap_set below_new)

theorem below_drewN (w : World) (n : Nat) : Below w.heap.size w (w.drewN n) := ⟨rfl, rfl, rfl, Nat.le_refl _, fun _ _ => rfl⟩

set_option maxRecDepth 100000 in
set_option maxHeartbeats 4000000 in
theorem rleft_any {B v : Nat} {l : List Lz} {w : World} (h : Wl B w v l) (hg : Good l) (hl : l.length ≤ 1000) (key now : Int) :
    Calls Try.prog 13 #[.pointer (some ⟨v, 0, none⟩), .int .i64 key, .int .i64 now] w fun e w' => e = .returned (.int .i64 (left l key now)) ∧ Below w.heap.size w w' := by
  have HA := rat_any h hl key
  have HV := Lib.hid h
  have HL := Lib.hid (show left l key now = if place l key < 0 ∨ (the l key).til ≤ now then 0 else (the l key).amount - (the l key).spent from rfl)
  generalize left l key now = R at *
  by_cases hp : place l key < 0
  · have HE := Lib.hid (show R = 0 by rw [HL.out, if_pos (.inl hp)])
    generalize place l key = P at *
    clear HL h
    go_enter Try.func13, Try.ntmps13
    go_wp2_with (go_at_call 27; (with_reducible refine HA.mono ?_); rintro e w1 ⟨rfl, hb⟩; have HB := Lib.hid hb; obtain ⟨p, c, c1, -⟩ := (HV.out.below hb).cell; clear hb HA)
    go_ret
    exact ⟨by rw [HE.out]; rfl, HB.out⟩
  · obtain ⟨hj, hk, hm⟩ := place_some (l := l) (k := key) (by omega)
    obtain ⟨g0, g1, g2⟩ := hg.each _ hm
    have HC : Hid (∀ u, Below w.heap.size w u → ∃ b o c, u.cell? ⟨v, 0, none⟩ = some (.slice (some ⟨b, o, none⟩) l.length c) ∧ At u b (o + (place l key).toNat * 5) (the l key)) := fun u hu => by
      obtain ⟨p, c, c1, hr⟩ := (HV.out.below hu).cell
      obtain ⟨b, o, rfl, ha⟩ := lies_at hr hj
      exact ⟨b, o, c, c1, ha⟩
    obtain ⟨P, hP⟩ : ∃ P : Nat, place l key = (P : Int) := ⟨(place l key).toNat, by omega⟩
    rw [hP] at HA HL hj
    simp only [hP] at HC
    simp only [Int.toNat_natCast] at HC hj
    have hlt' : (P : Int) < (l.length : Int) := by omega
    generalize the l key = x at *
    obtain ⟨xk, xg, xa, xs, xt⟩ := x
    unfold Nums Num at g2
    simp only at g0 g1 g2 HL
    by_cases ht : xt ≤ now
    · have HE := Lib.hid (show R = 0 by rw [HL.out, if_pos (.inr ht)])
      clear HL h hm hg hk hP hp
      go_enter Try.func13, Try.ntmps13
      go_wp2_with (go_at_call 27; (with_reducible refine HA.mono ?_); rintro e w1 ⟨rfl, hb⟩; have HB := Lib.hid hb; obtain ⟨b, o, c, c1, k0, k1, k2, k3, k4⟩ := HC.out _ hb; simp only at k0 k1 k2 k3 k4; clear hb HA HC)
      go_ret
      exact ⟨by rw [HE.out]; rfl, HB.out⟩
    · have HE := Lib.hid (show R = xa - xs by rw [HL.out, if_neg (by omega)])
      have hw1 : IntKind.i64.wrap (xa - xs) = xa - xs := IntWalk.i64_in _ (by omega)
      clear HL h hm hg hk hP hp
      go_enter Try.func13, Try.ntmps13
      go_wp2_with (go_at_call 27; (with_reducible refine HA.mono ?_); rintro e w1 ⟨rfl, hb⟩; have HB := Lib.hid hb; obtain ⟨b, o, c, c1, k0, k1, k2, k3, k4⟩ := HC.out _ hb; simp only at k0 k1 k2 k3 k4; clear hb HA HC)
      go_quiet (fail)
      go_wp2
      go_ret
      exact ⟨by rw [HE.out]; rfl, HB.out.trans ((below_drewN _ _).mono HB.out.size)⟩

set_option maxRecDepth 100000 in
set_option maxHeartbeats 4000000 in
theorem rclose_any {B v : Nat} {l : List Lz} {w : World} (h : Wl B w v l) (hB : B ≤ w.heap.size) (hl : l.length ≤ 1000) (key gen : Int) :
    Calls Try.prog 19 #[.pointer (some ⟨v, 0, none⟩), .int .i64 key, .int .i64 gen] w fun e w' => e = .returned (.int .i64 (close l key gen).2) ∧ Step B w v (close l key gen).1 w' := by
  have HA := rat_any h hl key
  have HV := Lib.hid h
  have HBB := Lib.hid hB
  have HL := Lib.hid (show close l key gen = if place l key < 0 then (l, -1) else (l.eraseIdx (place l key).toNat, if (the l key).gen = gen then (the l key).spent else -1) from rfl)
  generalize close l key gen = R at *
  by_cases hp : place l key < 0
  · have HE := Lib.hid (show R = (l, -1) by rw [HL.out, if_pos hp])
    have HS := Lib.hid (fun u (hu : Below w.heap.size w u) => Step.same h hB hu)
    generalize place l key = P at *
    clear HL h
    go_enter Try.func19, Try.ntmps19
    go_wp2_with (go_at_call 27; (with_reducible refine HA.mono ?_); rintro e w1 ⟨rfl, hb⟩; have HB := Lib.hid (HS.out _ hb); clear hb HA)
    go_ret
    exact ⟨by rw [HE.out]; rfl, by rw [HE.out]; exact HB.out⟩
  · obtain ⟨hj, hk, hm⟩ := place_some (l := l) (k := key) (by omega)
    have HC : Hid (∀ u, Below w.heap.size w u → ∃ b o c, u.cell? ⟨v, 0, none⟩ = some (.slice (some ⟨b, o, none⟩) l.length c) ∧ At u b (o + (place l key).toNat * 5) (the l key)) := fun u hu => by
      obtain ⟨p, c, c1, hr⟩ := (HV.out.below hu).cell
      obtain ⟨b, o, rfl, ha⟩ := lies_at hr hj
      exact ⟨b, o, c, c1, ha⟩
    obtain ⟨P, hP⟩ : ∃ P : Nat, place l key = (P : Int) := ⟨(place l key).toNat, by omega⟩
    have hp0 : ¬ (P : Int) < 0 := by omega
    rw [hP, if_neg hp0, Int.toNat_natCast] at HL
    rw [hP] at HA hj
    simp only [hP] at HC
    simp only [Int.toNat_natCast] at HC hj
    have hlt' : (P : Int) < (l.length : Int) := by omega
    have HG := Lib.hid (fun u (hu : Below w.heap.size w u) => rgone_any (h.below hu) (Nat.le_trans hB hu.size) hl P)
    have HS := Lib.hid (fun u (hu : Below w.heap.size w u) => Step.same h hB hu)
    generalize the l key = x at *
    obtain ⟨xk, xg, xa, xs, xt⟩ := x
    simp only at HL
    have hcase : (xg = gen ∧ R = (l.eraseIdx P, xs)) ∨ (xg ≠ gen ∧ R = (l.eraseIdx P, -1)) := by
      by_cases e : xg = gen
      · exact .inl ⟨e, by rw [HL.out, if_pos e]⟩
      · exact .inr ⟨e, by rw [HL.out, if_neg e]⟩
    clear HL h hm hk hP hp
    rcases hcase with ⟨hgen, hR⟩ | ⟨hgen, hR⟩
    all_goals
      have HE := Lib.hid hR
      clear hR
      go_enter Try.func19, Try.ntmps19
      go_wp2_with (first
        | (go_at_call 27; (with_reducible refine HA.mono ?_); rintro e w1 ⟨rfl, hb⟩; have HB := Lib.hid hb; obtain ⟨b, o, c, c1, k0, k1, k2, k3, k4⟩ := HC.out _ hb; simp only at k0 k1 k2 k3 k4; clear hb HA HC)
        | (go_at_call 31; (with_reducible refine (HG.out _ (HB.out.alloc HB.out.size _)).mono ?_); rintro e w2 ⟨rfl, hs⟩; have K2 := hs.kept.block w1.heap.size _ _ _ (heap_alloc_new _ _) (by decide); obtain ⟨b0, b1, b2, b3, b4⟩ := box5 K2; have S2 := Lib.hid (Step.trans (HS.out _ (HB.out.alloc HB.out.size _)) hs); clear hs K2))
      go_ret
      exact ⟨by rw [HE.out]; rfl, by rw [HE.out]; exact S2.out⟩
end Go.Proofs.Ytlipepbemofihaa.Lease
