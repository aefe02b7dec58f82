/-
  conf.Check, and the document's, of any configuration of at most 100 rates return the same error, and of what lay nothing has turned.
-/
import Derived.Test.YtcnnepmhdccipaaConfBase
namespace Go.Proofs.Ytcnnepmhdccipaa.Conf
open Go.RowKit Ring

theorem all_take (zs : List (Int × Int)) (k : Nat) (h : k < zs.length) : (zs.take (k + 1)).all rate1 = ((zs.take k).all rate1 && (within (zs.getD k (0, 0)).1 0 2147483648 && within (zs.getD k (0, 0)).2 0 2147483648)) := by
  have e : zs.getD k (0, 0) = zs[k] := by simp [h]
  rw [e, List.take_succ_eq_append_getElem h, List.all_append]
  simp [rate1]
theorem all_no (zs : List (Int × Int)) (k : Nat) (h : k < zs.length) (hr : (within (zs.getD k (0, 0)).1 0 2147483648 && within (zs.getD k (0, 0)).2 0 2147483648) = false) : zs.all rate1 = false := by
  have e : zs.getD k (0, 0) = zs[k] := by simp [h]
  rw [e] at hr
  rw [List.all_eq_false]
  exact ⟨zs[k], List.getElem_mem h, by unfold rate1; rw [hr]; exact Bool.false_ne_true⟩


/-- How the world stands behind the box of a call's argument: what lay is as it was, and the box holds the configuration. -/
def Stand (w W : World) (n sk tl va lo he ke qu : Int) (p : Option Addr) (l c : Nat) : Prop :=
  Below w.heap.size w W ∧ Nine W w.heap.size (.int .i64 n) (.int .i64 sk) (.int .i64 tl) (.int .i64 va) (.int .i64 lo) (.int .i64 he) (.int .i64 ke) (.int .i64 qu) (.slice p l c)
theorem start (w : World) (n sk tl va lo he ke qu : Int) (p : Option Addr) (l c : Nat) : Stand w (w.alloc (.cells #[.int .i64 n, .int .i64 sk, .int .i64 tl, .int .i64 va, .int .i64 lo, .int .i64 he, .int .i64 ke, .int .i64 qu, .slice p l c] 27)) n sk tl va lo he ke qu p l c :=
  ⟨below_new _ _, nine_new _ _ _ _ _ _ _ _ _ _ _⟩
theorem Stand.step {w W W' : World} {n sk tl va lo he ke qu : Int} {p : Option Addr} {l c : Nat} (h : Stand w W n sk tl va lo he ke qu p l c) (hb : Below W.heap.size W W') : Stand w W' n sk tl va lo he ke qu p l c :=
  ⟨h.1.trans (hb.mono h.1.size), h.2.stays hb⟩


end Go.Proofs.Ytcnnepmhdccipaa.Conf
