/-
  DiskPlays: for every room and every acts: each act's answer, and behind it the file, and how much of it is safe, are as the document says; no disk: ErrArg, 0, nothing; of more than 60 acts, or 3000 bytes, the live question alone is asked. No conditions: any room, any acts.
-/
import Derived.Test.YtklljhmedbbkkaaRows
import Derived.Test.YtklljhmedbbkkaaDiskAlive
import Derived.Test.YtklljhmedbbkkaaDiskOpen
namespace Go.Proofs.Ytklljhmedbbkkaa.diskPlays
open Go.ChangeShapes Go.WideShapes Go.RowKit Codec Disk

theorem long (room : Int) (p : Option Addr) (c : Nat) (l : List Ac) (W : World) (hl : (l.length : Int) ≤ 9223372036854775807) (ha : ActsAt W p l) (hw : Wide l) (hf : fits l = false) :
    Calls Try.prog 3 #[.int .i64 room, .slice p l.length c] W fun e w' => e = .returned (.bool true) ∧ Below W.heap.size W w' := by
  have hfits := fits_any p c l W hl hw ha
  rw [hf] at hfits
  clear ha hw hf
  go_enter Try.func3, Try.ntmps3
  go_wp2_with (first
    | (go_at_call 5; (with_reducible refine hfits.mono ?_); rintro e w1 ⟨rfl, rfl⟩; clear hfits)
    | (go_at_call 6; (with_reducible refine (alive_any _).mono ?_); rintro e w' ⟨rfl, hg⟩))
  go_ret
  exact ⟨rfl, hg⟩

set_option maxRecDepth 100000 in
set_option maxHeartbeats 1000000 in
theorem wrong (room : Int) (p : Option Addr) (c : Nat) (l : List Ac) (W : World) (hl : (l.length : Int) ≤ 9223372036854775807) (ha : ActsAt W p l) (hw : Wide l) (hf : fits l = true) (hr : room < 0 ∨ (0 ≤ room ∧ 16777216 < room)) :
    Calls Try.prog 3 #[.int .i64 room, .slice p l.length c] W fun e w' => e = .returned (.bool true) ∧ Below W.heap.size W w' := by
  have hfits := fits_any p c l W hl hw ha
  rw [hf] at hfits
  have hnew := new_bad room W hr
  have hright := right_any room W
  rw [show (decide (0 ≤ room) && decide (room ≤ 16777216)) = false by (rcases hr with h | ⟨h0, h⟩ <;> simp <;> omega)] at hright
  clear ha hw hf hr
  go_enter Try.func3, Try.ntmps3
  go_wp2_with (first
    | (go_at_call 5; (with_reducible refine hfits.mono ?_); rintro e w1 ⟨rfl, rfl⟩; clear hfits)
    | (go_at_call 7; (with_reducible refine hnew.mono ?_); rintro e w1 ⟨rfl, rfl⟩; clear hnew)
    | (go_at_call 8; (with_reducible refine hright.mono ?_); rintro e w1 ⟨rfl, rfl⟩; clear hright)
    | (go_at_call 9; (with_reducible refine (write_nil _ _ _ _).mono ?_); rintro e w1 ⟨rfl, rfl⟩)
    | (go_at_call 10; (with_reducible refine (replace_nil _ _ _ _).mono ?_); rintro e w1 ⟨rfl, rfl⟩)
    | (go_at_call 11; (with_reducible refine (sync_nil _).mono ?_); rintro e w1 ⟨rfl, rfl⟩)
    | (go_at_call 12; (with_reducible refine (crash_nil _ _).mono ?_); rintro e w1 ⟨rfl, rfl⟩)
    | (go_at_call 13; (with_reducible refine (safe_nil _).mono ?_); rintro e w1 ⟨rfl, rfl⟩)
    | (go_at_call 14; (with_reducible refine (file_nil _).mono ?_); rintro e w1 ⟨rfl, rfl⟩)
    | (go_at_call 6; (with_reducible refine (alive_any _).mono ?_); rintro e w' ⟨rfl, hg⟩))
  go_ret
  exact ⟨rfl, hg⟩

set_option maxRecDepth 100000 in
set_option maxHeartbeats 1000000 in
theorem plays (room : Int) (p : Option Addr) (c : Nat) (l : List Ac) (W : World) (hl : (l.length : Int) ≤ 9223372036854775807) (ha : ActsAt W p l) (hw : Wide l) (hf : fits l = true) (hr0 : 0 ≤ room) (hr1 : room ≤ 16777216) :
    Calls Try.prog 3 #[.int .i64 room, .slice p l.length c] W fun e w' => e = .returned (.bool true) ∧ Below W.heap.size W w' := by
  have hfits := fits_any p c l W hl hw ha
  rw [hf] at hfits
  have hnew := new_ok room W hr0 hr1
  have hright := fun u => right_any room u
  rw [show (decide (0 ≤ room) && decide (room ≤ 16777216)) = true by simp; omega] at hright
  have HA := Lib.hid ha
  have HW := Lib.hid hw
  have HF := Lib.hid hf
  have HS := fun k hk => Lib.hid (steps_snoc room ([], []) l k hk)
  have HH := fun k => Lib.hid (holds_steps hr0 (l.take k))
  have N0 : Hid (Both W.heap.size W W.heap.size (W.heap.size + 1) room (dSteps room ([], []) (l.take 0)) ((W.alloc (.cells #[.int .i64 room, .slice none 0 0, .int .i64 0] 44)).alloc (.cells #[.int .i64 room, .slice none 0 0, .slice none 0 0] 37))) :=
    ⟨⟨none, pair_new room W⟩, ((Below.refl _ _).alloc (Nat.le_refl _) _).alloc (by simp) _⟩
  clear ha hw hf
  go_enter Try.func3, Try.ntmps3
  go_wp2_with (first
    | (go_at_call 5; (with_reducible refine hfits.mono ?_); rintro e w1 ⟨rfl, rfl⟩; clear hfits)
    | (go_at_call 7; (with_reducible refine hnew.mono ?_); rintro e w1 ⟨rfl, rfl⟩; clear hnew)
    | (go_at_call 8; (with_reducible refine (hright _).mono ?_); rintro e w1 ⟨rfl, rfl⟩; clear hright)
    | (go_at_call 9; (with_reducible refine (write_nil _ _ _ _).mono ?_); rintro e w1 ⟨rfl, rfl⟩)
    | (go_at_call 10; (with_reducible refine (replace_nil _ _ _ _).mono ?_); rintro e w1 ⟨rfl, rfl⟩)
    | (go_at_call 11; (with_reducible refine (sync_nil _).mono ?_); rintro e w1 ⟨rfl, rfl⟩)
    | (go_at_call 12; (with_reducible refine (crash_nil _ _).mono ?_); rintro e w1 ⟨rfl, rfl⟩)
    | (go_at_call 13; (with_reducible refine (safe_nil _).mono ?_); rintro e w1 ⟨rfl, rfl⟩)
    | (go_at_call 14; (with_reducible refine (file_nil _).mono ?_); rintro e w1 ⟨rfl, rfl⟩))
  go_loopw [11] (fun i wr => ∃ k : Nat, k ≤ l.length ∧ i = .int .i64 (k : Int) ∧ Hid (Both W.heap.size W W.heap.size (W.heap.size + 1) room (dSteps room ([], []) (l.take k)) wr)) (fun i _ => l.length - (intOf i).toNat)
  case atStart => exact ⟨0, by omega, rfl, N0⟩
  case round =>
    obtain ⟨k, hk, rfl, hbo⟩ := hrel
    obtain ⟨⟨x, hp⟩, hb⟩ := hbo.out
    by_cases hlt : k < l.length
    · obtain ⟨g, o, rfl, hc⟩ : ∃ g o, p = some ⟨g, o, none⟩ ∧ _ := by
        rcases HA.out with h | h
        · rw [h] at hlt; simp at hlt
        · exact h
      obtain ⟨d0, d2, q, cq, d1, hq, hbc⟩ := act_on hb (hc k hlt)
      obtain ⟨w0, w1, w2, w3, _⟩ := wide_at HW.out k hlt
      have hstep := step_any (l.getD k noAc) q cq hp (HH k).out hr0 hr1 hb.size w0 w1 w2 w3 hbc hq (fits_out HF.out k hlt)
      rw [← (HS k hlt).out] at hstep
      have hlt' : (k : Int) < (l.length : Int) := by omega
      generalize (l.getD k noAc).kind = y0 at *
      generalize (l.getD k noAc).n = y2 at *
      generalize (l.getD k noAc).b.length = y1 at *
      have HB := Lib.hid hb
      clear hbo hp hb hc hbc hq N0 HA HW HS HH HF
      go_wp2_with (go_at_call 15; (with_reducible refine hstep.mono ?_); rintro e w3 ⟨rfl, h3, hb3⟩; have N3 := Lib.hid (show Both W.heap.size W _ _ _ _ _ from ⟨h3, HB.out.trans hb3⟩); clear hstep h3 hb3)
      go_roundw
      case rel => exact ⟨k + 1, by omega, by go_num, N3⟩
      case measure => simp [intOf]; omega
    · obtain rfl : k = l.length := by omega
      have HB := Lib.hid hb
      clear hbo hp hb N0 HA HW HS HH HF
      go_wp2_with (go_at_call 6; (with_reducible refine (alive_any _).mono ?_); rintro e w' ⟨rfl, hg⟩)
      go_ret
      exact ⟨rfl, HB.out.trans (hg.mono HB.out.size)⟩

theorem walk (room : Int) (_wr : (Lit.int .i64 room).wf = true) (p : Option Addr) (c : Nat) (l : List Ac) (hl : (l.length : Int) ≤ 9223372036854775807) (W : World) (ha : ActsAt W p l) (hw : Wide l) :
    Calls Try.prog 3 #[.int .i64 room, .slice p l.length c] W fun e w' => e = .returned (.bool true) ∧ Below W.heap.size W w' := by
  by_cases hf : fits l = true
  · by_cases h0 : 0 ≤ room
    · by_cases h1 : room ≤ 16777216
      · exact plays room p c l W hl ha hw hf h0 h1
      · exact wrong room p c l W hl ha hw hf (.inr ⟨h0, by omega⟩)
    · exact wrong room p c l W hl ha hw hf (.inl (by omega))
  · exact long room p c l W hl ha hw (Bool.eq_false_iff.2 hf)

theorem own : ownKnob Try.prog.godebug = none := by kernel_rfl

set_option maxRecDepth 100000 in
theorem lifted (os : Os) (started : os.Started) (H : Type) (enc : TypeId × Value → H) :
    ReturnsInHanded {} Try.checked os 3 .any (Rows.diskPlaysSpec.pre6 enc Try.prog Try.f3 Rows.diskPlaysRow.domain false) (Rows.diskPlaysSpec.post enc Try.prog Try.f3 false true false false) := by
  refine returnsInHanded_of_change (C := Try.checked) own started (by kernel_rfl) Try.func3
    (ChangeSpec.witness6 (enc := enc) (C := Try.checked) false ⟨#[], #[.int .i64 0, .slice none 0 0], []⟩ 16 (by kernel_rfl) (by kernel_rfl) (by kernel_rfl) (by kernel_rfl)) ?_
  intro W base args ds gs before hval0 hW hcnd _
  have hval : ∀ (j : Nat) t v, Try.f3.params[j]? = some t → args[j]? = some v → Value.okWide Try.prog W .any base t v := hval0
  have hW' := hW
  obtain ⟨p, q, hA0, hV, rfl, hfz, hnd⟩ := hW
  have hA : DataW.TrodAll enc Try.prog W 0 (fun _ => true) true Try.f3.params.toList args.toList ds p := hA0
  rw [Try.params3] at hA hval
  obtain ⟨v0, vs0, d0, ds0, p0, q0, hargs, rfl, rfl, h0, r0⟩ := trodAll_cons hA
  obtain ⟨v1, vs1, d1, ds1, p1, q1, rfl, rfl, rfl, h1, r1⟩ := trodAll_cons r0
  obtain ⟨rfl, rfl, rfl⟩ := trodAll_nil r1
  obtain rfl : args = #[v0, v1] := by cases args; simp_all
  obtain ⟨rfl, rfl⟩ := trodVars_none hV
  obtain ⟨a0, rfl, -, -, w0⟩ := open_int Try.underlying3 (hval 0 3 v0 rfl rfl) h0
  obtain ⟨p1', c1, l1, rfl, hl1, ha1, hw1⟩ := Disk.open_acts (hval 1 22 v1 rfl rfl) h1
  clear hA0 hval0
  refine (walk a0 w0 p1' c1 l1 hl1 W ha1 hw1).mono fun e W' ⟨he, hg⟩ => ?_
  subst he
  exact ⟨_, rfl, Row.law_post hW' rfl rfl rfl rfl (by kernel_rfl) Try.underlying4 (by kernel_rfl) (by kernel_rfl) hg⟩

theorem over : Rows.diskPlaysRow.holds Try.pinned (OpenSpec.ofChange Rows.diskPlaysSpec) :=
  OpenClaim.holds_of_wide 3 Try.f3 rfl rfl rfl rfl rfl rfl rfl ⟨rfl, rfl, rfl, rfl, rfl⟩ rfl rfl rfl rfl rfl (by kernel_rfl) Try.func3 (by kernel_rfl)
    (of_decide_eq_true (by kernel_rfl)) (by unfold Func.isWrapper; first | (rw [if_pos (by decide +kernel)]; kernel_rfl) | (rw [if_neg (by decide +kernel)]; exact ⟨rfl, rfl⟩))
    (fun os started H enc _ => lifted os started H enc)

/-- The given statement. -/
theorem proved : Rows.DiskPlaysSaid :=
  over
#print axioms proved
end Go.Proofs.Ytklljhmedbbkkaa.diskPlays
