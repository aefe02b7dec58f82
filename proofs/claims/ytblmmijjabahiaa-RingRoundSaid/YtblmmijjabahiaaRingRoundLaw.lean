/-
  For all uint8 size, from and every set s the law RingRound returns true and leaves its arguments as they were. No condition.
-/
import Derived.Test.YtblmmijjabahiaaRows
import Derived.Test.YtblmmijjabahiaaRingAlive
import Derived.Test.YtblmmijjabahiaaRingTurn
import Derived.Test.YtblmmijjabahiaaRingRow
import Derived.WalkKit
import Derived.ProofKit
import Derived.OpenShut
namespace Go.Proofs.Ytblmmijjabahiaa.ringRound
open Go.ChangeShapes Go.WideShapes Go.ChangeAt Go.RowKit Ring

set_option maxRecDepth 100000 in
set_option maxHeartbeats 2000000 in
theorem core (a0 a1 a2 A X0 x : Int) (w : World) (k0 : 0 ≤ a0) (k1 : a0 < 256) (k2 : 0 ≤ a2) (k3 : a2 < 256)
    (h1 : 1 ≤ (a0 % 64 + 1)) (h2 : (a0 % 64 + 1) ≤ 64) (i0 : 0 ≤ (a2 % (a0 % 64 + 1))) (i1 : (a2 % (a0 % 64 + 1)) < (a0 % 64 + 1)) (x0 : 0 ≤ x) (x1 : x < 18446744073709551616) (hs : ∀ e : Nat, has x (e : Int) = true → (e : Int) < (a0 % 64 + 1)) (hi : has x (a2 % (a0 % 64 + 1)) = true)
    (cA : ∀ u, Calls Try.prog 31 #[.int .i64 (a0 % 64 + 1)] u fun e w' => e = .returned (.int .u64 A) ∧ u = w')
    (e1 : bits .and .u64 a1 A = X0)
    (cW : ∀ u, Calls Try.prog 25 #[.int .u64 X0, .int .i64 (a2 % (a0 % 64 + 1))] u fun e w' => e = .returned (.int .u64 x) ∧ u = w') :
    Calls Try.prog 7 #[.int .u8 a0, .int .u64 a1, .int .u8 a2] w fun e w' => e = .returned (.bool true) ∧ Below w.heap.size w w' := by
  have HST := Lib.hid (seen_start x (a0 % 64 + 1) (a2 % (a0 % 64 + 1)) h1 i1 hs)
  have HS := Lib.hid hs; clear hs
  have HI := Lib.hid hi; clear hi
  have hc64 := count_hi x
  go_enter Try.func7, Try.ntmps7
  go_wp2_with (first
    | (go_at_call 31; ((with_reducible refine (cA _).mono ?_)); rintro e w' ⟨rfl, rfl⟩)
    | (go_at_call 25; ((with_reducible refine (cW _).mono ?_)); rintro e w' ⟨rfl, rfl⟩))
  go_loopw [10, 11, 12] (fun s k j wr => ∃ (o seen kk : Int) (jj : Nat), s = .int .u64 seen ∧ k = .int .i64 kk ∧ j = .int .i64 (jj : Int) ∧ Hid ((jj : Int) = count seen) ∧ Hid (Seen x (a0 % 64 + 1) (a2 % (a0 % 64 + 1)) o kk seen) ∧ Below w.heap.size w wr)
    (fun _ _ j _ => 64 - (intOf j).toNat)
  case atStart => exact ⟨0, 0, (a2 % (a0 % 64 + 1)), 0, rfl, rfl, rfl, Lib.hid (by decide +kernel), HST, Below.refl _ _⟩
  case round =>
    obtain ⟨o, seen, kk, jj, rfl, rfl, rfl, HJ, HSE, hB⟩ := hrel
    have s0 := HSE.out.s0
    have s1 := HSE.out.s1
    by_cases hlt : (jj : Int) < count x
    · obtain ⟨y0, y1, hsy, hxy, o', hse'⟩ := seen_step HSE.out h1 h2 i0 i1 x0 x1 HS.out (by rw [← HJ.out]; exact hlt)
      have hct := count_put seen (next x (a0 % 64 + 1) kk) ⟨y0, y1⟩ hsy
      have cN := next_acc x (a0 % 64 + 1) kk _ w wr hB x0 x1 rfl
      generalize next x (a0 % 64 + 1) kk = y at *
      have HT := Lib.hid hct; clear hct
      have HSE' := Lib.hid hse'; clear hse'
      go_wp2_with (first
        | (go_at_call 35; ((with_reducible refine (count_any _ _ x0 x1).mono ?_)); rintro e w' ⟨rfl, rfl⟩)
        | (go_at_call 29; ((with_reducible refine cN.mono ?_)); clear cN hB; rintro e w1 ⟨rfl, hB⟩)
        | (go_at_call 23; (first | (with_reducible refine (has_any seen _ _ s0 s1).mono ?_) | (with_reducible refine (has_any x _ _ x0 x1).mono ?_)); rintro e w' ⟨rfl, rfl⟩)
        | (go_at_call 25; ((with_reducible refine (with_any _ _ _ s0 s1).mono ?_)); rintro e w' ⟨rfl, rfl⟩))
      go_roundw
      case rel => exact ⟨o', put seen y, y, jj + 1, rfl, rfl, by simp, Lib.hid (by rw [HT.out, ← HJ.out]; simp), HSE', hB⟩
      case measure => simp only [intOf]; omega
    · have hle := seen_count HSE.out
      have hje := HJ.out
      have hceq : count seen = count x := by omega
      obtain ⟨ek, es⟩ := seen_end HSE.out i0 i1 h2 x0 x1 HI.out hceq
      clear hle hje hceq
      subst es
      have ek' : (kk == (a2 % (a0 % 64 + 1))) = true := beq_iff_eq.2 ek
      clear ek
      go_wp2_with (first
        | (go_at_call 35; ((with_reducible refine (count_any _ _ s0 s1).mono ?_)); rintro e w' ⟨rfl, rfl⟩)
        | (go_at_call 36; ((with_reducible refine (Ring.alive_any _).mono ?_)); rintro e w1 ⟨rfl, hg⟩))
      go_ret
      exact ⟨rfl, hB.trans (hg.mono hB.size)⟩

theorem walk (a0 : Int) (a1 : Int) (a2 : Int) (w0 : (Lit.int .u8 a0).wf = true) (w1 : (Lit.int .u64 a1).wf = true) (w2 : (Lit.int .u8 a2).wf = true) (w : World) :
    Calls Try.prog 7 #[.int .u8 a0, .int .u64 a1, .int .u8 a2] w fun e w' => e = .returned (.bool true) ∧ Below w.heap.size w w' := by
  have k0 := wf_lo8 w0
  have h1 : 1 ≤ (a0 % 64 + 1) := by omega
  have h2 : (a0 % 64 + 1) ≤ 64 := by omega
  have i0 : 0 ≤ (a2 % (a0 % 64 + 1)) := Int.emod_nonneg _ (by omega)
  have i1 : (a2 % (a0 % 64 + 1)) < (a0 % 64 + 1) := Int.emod_lt_of_pos _ (by omega)
  have p0 := all_lo (a0 % 64 + 1); have p1 := all_hi (a0 % 64 + 1)
  have q0 := meet_lo a1 (all (a0 % 64 + 1)); have q1 := meet_hi a1 (all (a0 % 64 + 1)) p1
  refine core a0 a1 a2 (all (a0 % 64 + 1)) (meet a1 (all (a0 % 64 + 1))) (put (meet a1 (all (a0 % 64 + 1))) (a2 % (a0 % 64 + 1))) w k0 (wf_hi8 w0) (wf_lo8 w2) (wf_hi8 w2) h1 h2 i0 i1 (put_lo _ _) (put_hi _ _ q1) ?_ ?_ (all_any _) (and_meet a1 _ (wf_lo w1) (wf_hi w1) p0 p1) (fun u => with_any _ _ u q0 q1)
  · intro e he
    rw [has_put, has_meet, has_all] at he
    simp at he
    omega
  · rw [has_put]
    have : 0 ≤ (a2 % (a0 % 64 + 1)) ∧ (a2 % (a0 % 64 + 1)) < 64 := ⟨i0, by omega⟩
    simp [this]


theorem own : ownKnob Try.prog.godebug = none := by kernel_rfl

set_option maxRecDepth 100000 in
theorem lifted (os : Os) (started : os.Started) (H : Type) (enc : TypeId × Value → H) :
    ReturnsInHanded {} Try.checked os 7 .any (Rows.ringRoundSpec.pre6 enc Try.prog Try.f7 Rows.ringRoundRow.domain false) (Rows.ringRoundSpec.post enc Try.prog Try.f7 false true false false) := by
  refine returnsInHanded_of_change (C := Try.checked) own started (by kernel_rfl) Try.func7
    (ChangeSpec.witness6 (enc := enc) (C := Try.checked) false ⟨#[], #[.int .u8 0, .int .u64 0, .int .u8 0], []⟩ 8 (by kernel_rfl) (by kernel_rfl) (by kernel_rfl) (by kernel_rfl)) ?_
  intro W base args ds gs before hval0 hW hcnd _
  have hval : ∀ (j : Nat) t v, Try.f7.params[j]? = some t → args[j]? = some v → Value.okWide Try.prog W .any base t v := hval0
  have hW' := hW
  obtain ⟨p, q, hA0, hV, rfl, hfz, hnd⟩ := hW
  have hA : DataW.TrodAll enc Try.prog W 0 (fun _ => true) true Try.f7.params.toList args.toList ds p := hA0
  rw [Try.params7] at hA hval
  obtain ⟨v0, vs0, d0, ds0, p0, q0, hargs, rfl, rfl, h0, r0⟩ := trodAll_cons hA
  obtain ⟨v1, vs1, d1, ds1, p1, q1, rfl, rfl, rfl, h1, r1⟩ := trodAll_cons r0
  obtain ⟨v2, vs2, d2, ds2, p2, q2, rfl, rfl, rfl, h2, r2⟩ := trodAll_cons r1
  obtain ⟨rfl, rfl, rfl⟩ := trodAll_nil r2
  obtain rfl : args = #[v0, v1, v2] := by cases args; simp_all
  obtain ⟨rfl, rfl⟩ := trodVars_none hV
  obtain ⟨a0, rfl, rfl, rfl, w0⟩ := open_int Try.underlying5 (hval 0 5 v0 rfl rfl) h0
  obtain ⟨a1, rfl, rfl, rfl, w1⟩ := open_int Try.underlying27 (hval 1 27 v1 rfl rfl) h1
  obtain ⟨a2, rfl, rfl, rfl, w2⟩ := open_int Try.underlying5 (hval 2 5 v2 rfl rfl) h2
  clear hA0 hval0
  simp only [List.append_nil] at hW'
  refine (walk a0 a1 a2 w0 w1 w2 W).mono fun e W' ⟨he, hg⟩ => ?_
  subst he
  exact ⟨_, rfl, Ring.post_of_below (pa := []) (pv := []) hW' (fun _ _ _ => (trodAll_cons_mk (shut_bool Try.underlying4 _) trodAll_mk0)) (fun sp _ => (trodAll_cons_mk (shut_int Try.underlying5 w0) (trodAll_cons_mk (shut_int Try.underlying27 w1) (trodAll_cons_mk (shut_int Try.underlying5 w2) trodAll_mk0)))) (fun _ _ => rfl) hg⟩

theorem over : Rows.ringRoundRow.holds Try.pinned (OpenSpec.ofChange Rows.ringRoundSpec) :=
  OpenClaim.holds_of_wide 7 Try.f7 rfl rfl rfl rfl rfl rfl rfl ⟨rfl, rfl, rfl, rfl, rfl⟩ rfl rfl rfl rfl rfl (by kernel_rfl) Try.func7 (by kernel_rfl)
    (of_decide_eq_true (by kernel_rfl)) (by unfold Func.isWrapper; first | (rw [if_pos (by decide +kernel)]; kernel_rfl) | (rw [if_neg (by decide +kernel)]; exact ⟨rfl, rfl⟩))
    (fun os started H enc _ => lifted os started H enc)

/-- The given statement. -/
theorem proved : Rows.RingRoundSaid :=
  over
#print axioms proved
end Go.Proofs.Ytblmmijjabahiaa.ringRound
