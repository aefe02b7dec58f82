/-
  QueueTurn: behind any acts on a queue of any room, taking the first one of a key again and again takes each of its items once, by classes, and within a class as they came; other keys' items stay; of more than 80 acts the live question alone is asked.
-/
import Derived.Test.YtdcclmellabnlaaRows
import Derived.Test.YtdcclmellabnlaaQueueTurnWay
import Derived.Test.YtdcclmellabnlaaQueueOpen
namespace Go.Proofs.Ytdcclmellabnlaa.queueTurn
open Go.ChangeShapes Go.WideShapes Go.RowKit
open _root_.Go.Proofs.Ytdcclmellabnlaa.Queue

theorem walk (rm : Int) (wr : (Lit.int .u8 rm).wf = true) (p : Option Addr) (c : Nat) (l : List Ac) (_ : (l.length : Int) ≤ 9223372036854775807) {W : World} (ha : ActsAt W p l) (hn : ∀ a ∈ l, AcNum a) (key : Int) (wk : (Lit.int .i64 key).wf = true) (_ : World) :
    Calls Try.prog 4 #[.int .u8 rm, .slice p l.length c, .int .i64 key] W fun e w' => e = .returned (.bool true) ∧ Below W.heap.size W w' := by
  by_cases hm : l.length ≤ 80
  · exact turn_few W p c l ha hn hm rm key (Row.u8_wf wr).1 (Row.u8_wf wr).2 (Row.num_wf wk)
  · exact turn_many W p c l.length (by omega) rm key

theorem own : ownKnob Try.prog.godebug = none := by kernel_rfl

set_option maxRecDepth 100000 in
theorem lifted (os : Os) (started : os.Started) (H : Type) (enc : TypeId × Value → H) :
    ReturnsInHanded {} Try.checked os 4 .any (Rows.queueTurnSpec.pre6 enc Try.prog Try.f4 Rows.queueTurnRow.domain false) (Rows.queueTurnSpec.post enc Try.prog Try.f4 false true false false) := by
  refine returnsInHanded_of_change (C := Try.checked) own started (by kernel_rfl) Try.func4
    (ChangeSpec.witness6 (enc := enc) (C := Try.checked) false ⟨#[], #[.int .u8 0, .slice none 0 0, .int .i64 0], []⟩ 16 (by kernel_rfl) (by kernel_rfl) (by kernel_rfl) (by kernel_rfl)) ?_
  intro W base args ds gs before hval0 hW hcnd _
  have hval : ∀ (j : Nat) t v, Try.f4.params[j]? = some t → args[j]? = some v → Value.okWide Try.prog W .any base t v := hval0
  have hW' := hW
  obtain ⟨p, q, hA0, hV, rfl, hfz, hnd⟩ := hW
  have hA : DataW.TrodAll enc Try.prog W 0 (fun _ => true) true Try.f4.params.toList args.toList ds p := hA0
  rw [Try.params4] at hA hval
  obtain ⟨v0, vs0, d0, ds0, p0, q0, hargs, rfl, rfl, h0, r0⟩ := trodAll_cons hA
  obtain ⟨v1, vs1, d1, ds1, p1, q1, rfl, rfl, rfl, h1, r1⟩ := trodAll_cons r0
  obtain ⟨v2, vs2, d2, ds2, p2, q2, rfl, rfl, rfl, h2, r2⟩ := trodAll_cons r1
  obtain ⟨rfl, rfl, rfl⟩ := trodAll_nil r2
  obtain rfl : args = #[v0, v1, v2] := by cases args; simp_all
  obtain ⟨rfl, rfl⟩ := trodVars_none hV
  obtain ⟨a0, rfl, -, -, w0⟩ := open_int Try.underlying5 (hval 0 5 v0 rfl rfl) h0
  obtain ⟨p1', c1, l1, rfl, hl1, ha1, hn1⟩ := Queue.open_acts (hval 1 22 v1 rfl rfl) h1
  obtain ⟨a2, rfl, -, -, w2⟩ := open_int Try.underlying3 (hval 2 3 v2 rfl rfl) h2
  clear hA0 hval0
  refine (walk a0 w0 p1' c1 l1 hl1 ha1 hn1 a2 w2 W).mono fun e W' ⟨he, hg⟩ => ?_
  subst he
  exact ⟨_, rfl, Row.law_post hW' rfl rfl rfl rfl (by kernel_rfl) Try.underlying4 (by kernel_rfl) (by kernel_rfl) hg⟩

theorem over : Rows.queueTurnRow.holds Try.pinned (OpenSpec.ofChange Rows.queueTurnSpec) :=
  OpenClaim.holds_of_wide 4 Try.f4 rfl rfl rfl rfl rfl rfl rfl ⟨rfl, rfl, rfl, rfl, rfl⟩ rfl rfl rfl rfl rfl (by kernel_rfl) Try.func4 (by kernel_rfl)
    (of_decide_eq_true (by kernel_rfl)) (by unfold Func.isWrapper; first | (rw [if_pos (by decide +kernel)]; kernel_rfl) | (rw [if_neg (by decide +kernel)]; exact ⟨rfl, rfl⟩))
    (fun os started H enc _ => lifted os started H enc)

/-- The given statement. -/
theorem proved : Rows.QueueTurnSaid :=
  over
#print axioms proved
end Go.Proofs.Ytdcclmellabnlaa.queueTurn
