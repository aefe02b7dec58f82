/-
  For every set and all ints n, i the law RingTells returns true and leaves its arguments as they were. No condition.
-/
import Derived.Test.YtblmmijjabahiaaRows
import Derived.Test.YtblmmijjabahiaaRingAlive
import Derived.Test.YtblmmijjabahiaaRingSame
import Derived.Test.YtblmmijjabahiaaRingRow
import Derived.WalkKit
import Derived.ProofKit
import Derived.OpenShut
namespace Go.Proofs.Ytblmmijjabahiaa.ringTells
open Go.ChangeShapes Go.WideShapes Go.ChangeAt Go.RowKit Ring

set_option maxRecDepth 100000 in
set_option maxHeartbeats 2000000 in
theorem core (x n i pv cv nv av mv kv : Int) (hv : Bool) (zs : List Int) (w : World) (hl : zs.length ≤ 1000) (hk : (kv == (zs.length : Int)) = true)
    (cNodes : ∀ u, Below w.heap.size w u → Calls Try.prog 21 #[.int .u64 x] u fun e W => ∃ v, e = .returned v ∧ W.ownsRow w.heap.size 3 1 v zs.length (zs.map (Value.int .i64)) ∧ Below w.heap.size w W)
    (cRef : ∀ u, Below w.heap.size w u → Calls Try.prog 22 #[.int .u64 x] u fun e W => ∃ p cap, e = .returned (.slice p zs.length cap) ∧ W.ownsRow w.heap.size 3 1 (.slice p zs.length cap) zs.length (zs.map (Value.int .i64)) ∧ Below u.heap.size u W ∧ Below w.heap.size w W)
    (cHas : ∀ u, Calls Try.prog 23 #[.int .u64 x, .int .i64 i] u fun e w' => e = .returned (.bool hv) ∧ u = w')
    (rHas : ∀ u, Calls Try.prog 24 #[.int .u64 x, .int .i64 i] u fun e w' => e = .returned (.bool hv) ∧ u = w')
    (cWith : ∀ u, Calls Try.prog 25 #[.int .u64 x, .int .i64 i] u fun e w' => e = .returned (.int .u64 pv) ∧ u = w')
    (rWith : ∀ u, Calls Try.prog 26 #[.int .u64 x, .int .i64 i] u fun e w' => e = .returned (.int .u64 pv) ∧ u = w')
    (cWithout : ∀ u, Calls Try.prog 27 #[.int .u64 x, .int .i64 i] u fun e w' => e = .returned (.int .u64 cv) ∧ u = w')
    (rWithout : ∀ u, Calls Try.prog 28 #[.int .u64 x, .int .i64 i] u fun e w' => e = .returned (.int .u64 cv) ∧ u = w')
    (cNext : ∀ u, Below w.heap.size w u → Calls Try.prog 29 #[.int .u64 x, .int .i64 n, .int .i64 i] u fun e W => e = .returned (.int .i64 nv) ∧ Below w.heap.size w W)
    (rNext : ∀ u, Calls Try.prog 30 #[.int .u64 x, .int .i64 n, .int .i64 i] u fun e w' => e = .returned (.int .i64 nv) ∧ u = w')
    (cAll : ∀ u, Calls Try.prog 31 #[.int .i64 n] u fun e w' => e = .returned (.int .u64 av) ∧ u = w')
    (rAll : ∀ u, Calls Try.prog 32 #[.int .i64 n] u fun e w' => e = .returned (.int .u64 av) ∧ u = w')
    (cMaj : ∀ u, Calls Try.prog 33 #[.int .i64 n] u fun e w' => e = .returned (.int .i64 mv) ∧ u = w')
    (rMaj : ∀ u, Calls Try.prog 34 #[.int .i64 n] u fun e w' => e = .returned (.int .i64 mv) ∧ u = w')
    (cCount : ∀ u, Calls Try.prog 35 #[.int .u64 x] u fun e w' => e = .returned (.int .i64 kv) ∧ u = w')
    (cAlive : ∀ u, Below w.heap.size w u → Calls Try.prog 36 #[] u fun e W => e = .returned (.bool true) ∧ Below w.heap.size w W) :
    Calls Try.prog 4 #[.int .u64 x, .int .i64 n, .int .i64 i] w fun e w' => e = .returned (.bool true) ∧ Below w.heap.size w w' := by
  have hb := Below.refl w.heap.size w
  go_enter Try.func4, Try.ntmps4
  go_wp2_with (first
    | (go_at_call 21; ((with_reducible refine (cNodes _ hb).mono ?_)); clear hb; rintro e w1 ⟨v1, rfl, ho1, hb⟩)
    | (go_at_call 22; ((with_reducible refine (cRef _ hb).mono ?_)); clear hb; rintro e w2 ⟨p2, c2, rfl, ho2, hbc, hb⟩; (try (have ho3 := ownsRow_stays ho1 hbc; clear ho1)))
    | (go_at_call 20; ((with_reducible refine (same_own ho3 ho2 hl hb).mono ?_)); clear hb ho2 ho3 hbc; rintro e w3 ⟨rfl, hb⟩)
    | (go_at_call 23; ((with_reducible refine (cHas _).mono ?_)); rintro e w' ⟨rfl, rfl⟩)
    | (go_at_call 24; ((with_reducible refine (rHas _).mono ?_)); rintro e w' ⟨rfl, rfl⟩)
    | (go_at_call 25; ((with_reducible refine (cWith _).mono ?_)); rintro e w' ⟨rfl, rfl⟩)
    | (go_at_call 26; ((with_reducible refine (rWith _).mono ?_)); rintro e w' ⟨rfl, rfl⟩)
    | (go_at_call 27; ((with_reducible refine (cWithout _).mono ?_)); rintro e w' ⟨rfl, rfl⟩)
    | (go_at_call 28; ((with_reducible refine (rWithout _).mono ?_)); rintro e w' ⟨rfl, rfl⟩)
    | (go_at_call 29; ((with_reducible refine (cNext _ hb).mono ?_)); clear hb; rintro e w4 ⟨rfl, hb⟩)
    | (go_at_call 30; ((with_reducible refine (rNext _).mono ?_)); rintro e w' ⟨rfl, rfl⟩)
    | (go_at_call 31; ((with_reducible refine (cAll _).mono ?_)); rintro e w' ⟨rfl, rfl⟩)
    | (go_at_call 32; ((with_reducible refine (rAll _).mono ?_)); rintro e w' ⟨rfl, rfl⟩)
    | (go_at_call 33; ((with_reducible refine (cMaj _).mono ?_)); rintro e w' ⟨rfl, rfl⟩)
    | (go_at_call 34; ((with_reducible refine (rMaj _).mono ?_)); rintro e w' ⟨rfl, rfl⟩)
    | (go_at_call 35; ((with_reducible refine (cCount _).mono ?_)); rintro e w' ⟨rfl, rfl⟩)
    | (go_at_call 36; ((with_reducible refine (cAlive _ hb).mono ?_)); clear hb; rintro e w5 ⟨rfl, hb⟩))
  go_ret
  exact ⟨rfl, hb⟩

theorem walk (a0 : Int) (a1 : Int) (a2 : Int) (w0 : (Lit.int .u64 a0).wf = true) (w1 : (Lit.int .i64 a1).wf = true) (_w2 : (Lit.int .i64 a2).wf = true) (w : World) :
    Calls Try.prog 4 #[.int .u64 a0, .int .i64 a1, .int .i64 a2] w fun e w' => e = .returned (.bool true) ∧ Below w.heap.size w w' := by
  have x0 := wf_lo w0; have x1 := wf_hi w0
  have hnl := nodes_length a0
  have hl : (nodes a0).length ≤ 1000 := by have := count_hi a0; omega
  refine core a0 a1 a2 (put a0 a2) (cut a0 a2) (next a0 a1 a2) (all a1) (maj a1) (count a0) (has a0 a2) (nodes a0) w hl (beq_iff_eq.2 hnl.symm) ?_ ?_
    (fun u => has_any _ _ u x0 x1) (fun u => refhas_any _ _ u x0) (fun u => with_any _ _ u x0 x1) (fun u => refwith_any _ _ u x0 x1) (fun u => without_any _ _ u x0 x1) (fun u => refwithout_any _ _ u x0 x1)
    (fun u hb => next_acc _ _ _ _ _ u hb x0 x1 rfl) (fun u => refnext_any _ _ _ u x0) (fun u => all_any _ u) (fun u => refall_any _ u (wf_hii w1)) (fun u => maj_any _ u (wf_hii w1)) (fun u => refmaj_any _ u (wf_hii w1)) (fun u => count_any _ u x0 x1)
    (fun u hb => (Ring.alive_any u).mono fun e w' k => ⟨k.1, hb.trans (k.2.mono hb.size)⟩)
  · intro u hb
    refine (nodes_any a0 u x0 x1).mono ?_
    rintro e w' ⟨v, rfl, ho, hb'⟩
    exact ⟨v, rfl, ownsRow_less ho hb.size, hb.trans (hb'.mono hb.size)⟩
  · intro u hb
    refine (refnodes_any a0 u x0).mono ?_
    rintro e w' ⟨v, rfl, ho, hb'⟩
    obtain ⟨p, c, rfl⟩ := ownsRow_slice ho
    exact ⟨p, c, rfl, ownsRow_less ho hb.size, hb', hb.trans (hb'.mono hb.size)⟩

theorem own : ownKnob Try.prog.godebug = none := by kernel_rfl

set_option maxRecDepth 100000 in
theorem lifted (os : Os) (started : os.Started) (H : Type) (enc : TypeId × Value → H) :
    ReturnsInHanded {} Try.checked os 4 .any (Rows.ringTellsSpec.pre6 enc Try.prog Try.f4 Rows.ringTellsRow.domain false) (Rows.ringTellsSpec.post enc Try.prog Try.f4 false true false false) := by
  refine returnsInHanded_of_change (C := Try.checked) own started (by kernel_rfl) Try.func4
    (ChangeSpec.witness6 (enc := enc) (C := Try.checked) false ⟨#[], #[.int .u64 0, .int .i64 0, .int .i64 0], []⟩ 8 (by kernel_rfl) (by kernel_rfl) (by kernel_rfl) (by kernel_rfl)) ?_
  intro W base args ds gs before hval0 hW hcnd _
  have hval : ∀ (j : Nat) t v, Try.f4.params[j]? = some t → args[j]? = some v → Value.okWide Try.prog W .any base t v := hval0
  have hW' := hW
  obtain ⟨p, q, hA0, hV, rfl, hfz, hnd⟩ := hW
  have hA : DataW.TrodAll enc Try.prog W 0 (fun _ => true) true Try.f4.params.toList args.toList ds p := hA0
  rw [Try.params4] at hA hval
  obtain ⟨v0, vs0, d0, ds0, p0, q0, hargs, rfl, rfl, h0, r0⟩ := trodAll_cons hA
  obtain ⟨v1, vs1, d1, ds1, p1, q1, rfl, rfl, rfl, h1, r1⟩ := trodAll_cons r0
  obtain ⟨v2, vs2, d2, ds2, p2, q2, rfl, rfl, rfl, h2, r2⟩ := trodAll_cons r1
  obtain ⟨rfl, rfl, rfl⟩ := trodAll_nil r2
  obtain rfl : args = #[v0, v1, v2] := by cases args; simp_all
  obtain ⟨rfl, rfl⟩ := trodVars_none hV
  obtain ⟨a0, rfl, rfl, rfl, w0⟩ := open_int Try.underlying27 (hval 0 27 v0 rfl rfl) h0
  obtain ⟨a1, rfl, rfl, rfl, w1⟩ := open_int Try.underlying3 (hval 1 3 v1 rfl rfl) h1
  obtain ⟨a2, rfl, rfl, rfl, w2⟩ := open_int Try.underlying3 (hval 2 3 v2 rfl rfl) h2
  clear hA0 hval0
  simp only [List.append_nil] at hW'
  refine (walk a0 a1 a2 w0 w1 w2 W).mono fun e W' ⟨he, hg⟩ => ?_
  subst he
  exact ⟨_, rfl, Ring.post_of_below (pa := []) (pv := []) hW' (fun _ _ _ => (trodAll_cons_mk (shut_bool Try.underlying4 _) trodAll_mk0)) (fun sp _ => (trodAll_cons_mk (shut_int Try.underlying27 w0) (trodAll_cons_mk (shut_int Try.underlying3 w1) (trodAll_cons_mk (shut_int Try.underlying3 w2) trodAll_mk0)))) (fun _ _ => rfl) hg⟩

theorem over : Rows.ringTellsRow.holds Try.pinned (OpenSpec.ofChange Rows.ringTellsSpec) :=
  OpenClaim.holds_of_wide 4 Try.f4 rfl rfl rfl rfl rfl rfl rfl ⟨rfl, rfl, rfl, rfl, rfl⟩ rfl rfl rfl rfl rfl (by kernel_rfl) Try.func4 (by kernel_rfl)
    (of_decide_eq_true (by kernel_rfl)) (by unfold Func.isWrapper; first | (rw [if_pos (by decide +kernel)]; kernel_rfl) | (rw [if_neg (by decide +kernel)]; exact ⟨rfl, rfl⟩))
    (fun os started H enc _ => lifted os started H enc)

/-- The given statement. -/
theorem proved : Rows.RingTellsSaid :=
  over
#print axioms proved
end Go.Proofs.Ytblmmijjabahiaa.ringTells
