/-
  For every uint8 and all sets a, b the law RingMeet returns true and leaves its arguments as they were. No condition.
-/
import Derived.Test.YtblmmijjabahiaaRows
import Derived.Test.YtblmmijjabahiaaRingAlive
import Derived.Test.YtblmmijjabahiaaRingRow
import Derived.WalkKit
import Derived.ProofKit
import Derived.OpenShut
namespace Go.Proofs.Ytblmmijjabahiaa.ringMeet
open Go.ChangeShapes Go.WideShapes Go.ChangeAt Go.RowKit Ring

set_option maxRecDepth 100000 in
set_option maxHeartbeats 1000000 in
theorem core (a0 a1 a2 A X Y Z cx cy cz M : Int) (w : World) (k0 : 0 ≤ a0) (k1 : a0 < 256)
    (cA : ∀ w, Calls Try.prog 31 #[.int .i64 (a0 % 64 + 1)] w fun e w' => e = .returned (.int .u64 A) ∧ w = w')
    (cM : ∀ w, Calls Try.prog 33 #[.int .i64 (a0 % 64 + 1)] w fun e w' => e = .returned (.int .i64 M) ∧ w = w')
    (cX : ∀ w, Calls Try.prog 35 #[.int .u64 X] w fun e w' => e = .returned (.int .i64 cx) ∧ w = w')
    (cY : ∀ w, Calls Try.prog 35 #[.int .u64 Y] w fun e w' => e = .returned (.int .i64 cy) ∧ w = w')
    (cZ : ∀ w, Calls Try.prog 35 #[.int .u64 Z] w fun e w' => e = .returned (.int .i64 cz) ∧ w = w')
    (e1 : bits .and .u64 a1 A = X) (e2 : bits .and .u64 a2 A = Y) (e3 : bits .and .u64 X Y = Z)
    (h : cx < M ∨ (M ≤ cx ∧ cy < M) ∨ (M ≤ cx ∧ M ≤ cy ∧ 0 < cz)) :
    Calls Try.prog 6 #[.int .u8 a0, .int .u64 a1, .int .u64 a2] w fun e w' => e = .returned (.bool true) ∧ Below w.heap.size w w' := by
  rcases h with h1 | ⟨h1, h2⟩ | ⟨h1, h2, h3⟩
  all_goals
    go_enter Try.func6, Try.ntmps6
    go_wp2_with (first
      | (go_at_call 31; ((with_reducible refine (cA _).mono ?_)); rintro e w' ⟨rfl, rfl⟩)
      | (go_at_call 35; (first | (with_reducible refine (cX _).mono ?_) | (with_reducible refine (cY _).mono ?_) | (with_reducible refine (cZ _).mono ?_)); rintro e w' ⟨rfl, rfl⟩)
      | (go_at_call 33; ((with_reducible refine (cM _).mono ?_)); rintro e w' ⟨rfl, rfl⟩)
      | (go_at_call 36; ((with_reducible refine (Ring.alive_any _).mono ?_)); rintro e w' ⟨rfl, hg⟩))
    go_ret
    exact ⟨rfl, hg⟩

theorem walk (a0 : Int) (a1 : Int) (a2 : Int) (w0 : (Lit.int .u8 a0).wf = true) (w1 : (Lit.int .u64 a1).wf = true) (w2 : (Lit.int .u64 a2).wf = true) (w : World) :
    Calls Try.prog 6 #[.int .u8 a0, .int .u64 a1, .int .u64 a2] w fun e w' => e = .returned (.bool true) ∧ Below w.heap.size w w' := by
  have k0 := wf_lo8 w0
  have n1 : 1 ≤ a0 % 64 + 1 := by omega
  have n2 : a0 % 64 + 1 ≤ 64 := by omega
  have p0 := all_lo (a0 % 64 + 1); have p1 := all_hi (a0 % 64 + 1)
  have q0 := meet_lo a1 (all (a0 % 64 + 1)); have q1 := meet_hi a1 (all (a0 % 64 + 1)) p1
  have r0 := meet_lo a2 (all (a0 % 64 + 1)); have r1 := meet_hi a2 (all (a0 % 64 + 1)) p1
  have s0 := meet_lo (meet a1 (all (a0 % 64 + 1))) (meet a2 (all (a0 % 64 + 1))); have s1 := meet_hi (meet a1 (all (a0 % 64 + 1))) (meet a2 (all (a0 % 64 + 1))) r1
  have hm := they_meet (a0 % 64 + 1) a1 a2 n1 n2
  refine core a0 a1 a2 _ _ _ _ _ _ _ _ w k0 (wf_hi8 w0) (all_any _) (fun w => maj_any _ w (by omega)) (fun w => count_any _ w q0 q1) (fun w => count_any _ w r0 r1) (fun w => count_any _ w s0 s1)
    (and_meet a1 _ (wf_lo w1) (wf_hi w1) p0 p1) (and_meet a2 _ (wf_lo w2) (wf_hi w2) p0 p1) (and_meet _ _ q0 q1 r0 r1) ?_
  by_cases h1 : count (meet a1 (all (a0 % 64 + 1))) < maj (a0 % 64 + 1)
  · exact .inl h1
  · by_cases h2 : count (meet a2 (all (a0 % 64 + 1))) < maj (a0 % 64 + 1)
    · exact .inr (.inl ⟨by omega, h2⟩)
    · exact .inr (.inr ⟨by omega, by omega, hm (by omega) (by omega)⟩)

theorem own : ownKnob Try.prog.godebug = none := by kernel_rfl

set_option maxRecDepth 100000 in
theorem lifted (os : Os) (started : os.Started) (H : Type) (enc : TypeId × Value → H) :
    ReturnsInHanded {} Try.checked os 6 .any (Rows.ringMeetSpec.pre6 enc Try.prog Try.f6 Rows.ringMeetRow.domain false) (Rows.ringMeetSpec.post enc Try.prog Try.f6 false true false false) := by
  refine returnsInHanded_of_change (C := Try.checked) own started (by kernel_rfl) Try.func6
    (ChangeSpec.witness6 (enc := enc) (C := Try.checked) false ⟨#[], #[.int .u8 0, .int .u64 0, .int .u64 0], []⟩ 8 (by kernel_rfl) (by kernel_rfl) (by kernel_rfl) (by kernel_rfl)) ?_
  intro W base args ds gs before hval0 hW hcnd _
  have hval : ∀ (j : Nat) t v, Try.f6.params[j]? = some t → args[j]? = some v → Value.okWide Try.prog W .any base t v := hval0
  have hW' := hW
  obtain ⟨p, q, hA0, hV, rfl, hfz, hnd⟩ := hW
  have hA : DataW.TrodAll enc Try.prog W 0 (fun _ => true) true Try.f6.params.toList args.toList ds p := hA0
  rw [Try.params6] at hA hval
  obtain ⟨v0, vs0, d0, ds0, p0, q0, hargs, rfl, rfl, h0, r0⟩ := trodAll_cons hA
  obtain ⟨v1, vs1, d1, ds1, p1, q1, rfl, rfl, rfl, h1, r1⟩ := trodAll_cons r0
  obtain ⟨v2, vs2, d2, ds2, p2, q2, rfl, rfl, rfl, h2, r2⟩ := trodAll_cons r1
  obtain ⟨rfl, rfl, rfl⟩ := trodAll_nil r2
  obtain rfl : args = #[v0, v1, v2] := by cases args; simp_all
  obtain ⟨rfl, rfl⟩ := trodVars_none hV
  obtain ⟨a0, rfl, rfl, rfl, w0⟩ := open_int Try.underlying5 (hval 0 5 v0 rfl rfl) h0
  obtain ⟨a1, rfl, rfl, rfl, w1⟩ := open_int Try.underlying27 (hval 1 27 v1 rfl rfl) h1
  obtain ⟨a2, rfl, rfl, rfl, w2⟩ := open_int Try.underlying27 (hval 2 27 v2 rfl rfl) h2
  clear hA0 hval0
  simp only [List.append_nil] at hW'
  refine (walk a0 a1 a2 w0 w1 w2 W).mono fun e W' ⟨he, hg⟩ => ?_
  subst he
  exact ⟨_, rfl, Ring.post_of_below (pa := []) (pv := []) hW' (fun _ _ _ => (trodAll_cons_mk (shut_bool Try.underlying4 _) trodAll_mk0)) (fun sp _ => (trodAll_cons_mk (shut_int Try.underlying5 w0) (trodAll_cons_mk (shut_int Try.underlying27 w1) (trodAll_cons_mk (shut_int Try.underlying27 w2) trodAll_mk0)))) (fun _ _ => rfl) hg⟩

theorem over : Rows.ringMeetRow.holds Try.pinned (OpenSpec.ofChange Rows.ringMeetSpec) :=
  OpenClaim.holds_of_wide 6 Try.f6 rfl rfl rfl rfl rfl rfl rfl ⟨rfl, rfl, rfl, rfl, rfl⟩ rfl rfl rfl rfl rfl (by kernel_rfl) Try.func6 (by kernel_rfl)
    (of_decide_eq_true (by kernel_rfl)) (by unfold Func.isWrapper; first | (rw [if_pos (by decide +kernel)]; kernel_rfl) | (rw [if_neg (by decide +kernel)]; exact ⟨rfl, rfl⟩))
    (fun os started H enc _ => lifted os started H enc)

/-- The given statement. -/
theorem proved : Rows.RingMeetSaid :=
  over
#print axioms proved
end Go.Proofs.Ytblmmijjabahiaa.ringMeet
