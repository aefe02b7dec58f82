/-
  The program's record of any state that may be: a new row of its bytes; of what lay when the call began nothing has turned.
-/
import Derived.Test.YtlbdkigiphnabaaVpAsk
import Derived.Test.YtlbdkigiphnabaaVpWriter
namespace Go.Proofs.Ytlbdkigiphnabaa.Vault
open Go.RowKit
open _root_.Go.Proofs.Ytlbdkigiphnabaa.Codec (Cel cells8 Made puts goods IsBytes own_lower lt_of_heap Wtr WSt WK)

set_option maxRecDepth 100000 in
set_option maxHeartbeats 1000000 in
theorem record_any (s : Sv) (hs : right s = true) (w : World) : Calls Try.prog 34 #[val s] w (Made 5 w (rec s) id) := by
  have hgood := goods_nums hs
  have hb0 : Below w.heap.size w ((w.alloc (.cells #[.int .i64 s.p, .int .i64 s.g, .int .i64 s.h, .int .i64 s.r] 25)).alloc (.cells #[.slice none 0 0, .bool false] 90)) := ((Below.refl _ _).alloc (Nat.le_refl _) _).alloc (by simp) _
  have hw0 : Wtr 90 5 w.heap.size ((w.alloc (.cells #[.int .i64 s.p, .int .i64 s.g, .int .i64 s.h, .int .i64 s.r] 25)).alloc (.cells #[.slice none 0 0, .bool false] 90)) (w.heap.size + 1) [] := by
    refine ⟨by omega, .slice none 0 0, ?_, World.ownsRow_nil _ _ _ _⟩
    have := heap_alloc_new (w.alloc (.cells #[.int .i64 s.p, .int .i64 s.g, .int .i64 s.h, .int .i64 s.r] 25)) (.cells #[.slice none 0 0, .bool false] 90)
    rwa [show (w.alloc (.cells #[.int .i64 s.p, .int .i64 s.g, .int .i64 s.h, .int .i64 s.r] 25)).heap.size = w.heap.size + 1 by simp] at this
  have hz : ((w.alloc (.cells #[.int .i64 s.p, .int .i64 s.g, .int .i64 s.h, .int .i64 s.r] 25)).alloc (.cells #[.slice none 0 0, .bool false] 90)).heap.size = w.heap.size + 1 + 1 := by simp
  have hnum := numbers_any s ((w.alloc (.cells #[.int .i64 s.p, .int .i64 s.g, .int .i64 s.h, .int .i64 s.r] 25)).alloc (.cells #[.slice none 0 0, .bool false] 90))
  rw [hz] at hnum
  have hput : ∀ (u : World) (k : Nat), u.heap[k]? = some (.cells (cells s) 3 (0, 0)) → Wtr 90 5 w.heap.size u (w.heap.size + 1) [] → w.heap.size ≤ u.heap.size →
      Calls Try.prog 47 #[.pointer (some ⟨w.heap.size + 1, 0, none⟩), .slice (some ⟨k, 0, none⟩) 4 4] u fun e w' => e = .returned (.pointer (some ⟨w.heap.size + 1, 0, none⟩)) ∧ Wtr 90 5 w.heap.size w' (w.heap.size + 1) (rec s) ∧ WK w.heap.size u w' := by
    intro u k hk hw hu
    refine Codec.wnum_wk w.heap.size (w.heap.size + 1) [] k 0 4 (nums s) u hw (by simp) hu (by simp [nums]) hgood ⟨_, _, hk⟩ ?_
    intro j hj
    rw [cell_of_row _ _ (0 + j) _ _ (0, 0) hk]
    match j, hj with
    | 0, _ => rfl
    | 1, _ => rfl
    | 2, _ => rfl
    | 3, _ => rfl
  have hdone : ∀ (u : World), Wtr 90 5 w.heap.size u (w.heap.size + 1) (rec s) → Calls Try.prog 48 #[.pointer (some ⟨w.heap.size + 1, 0, none⟩)] u (Made 5 u (rec s) (fun v => .tuple #[v, .int .i64 0])) :=
    fun u hu => Codec.wdone_good w.heap.size (w.heap.size + 1) (rec s) u hu (by rw [len_rec]; omega)
  have HB := Lib.hid hb0
  have HW := Lib.hid hw0
  clear hb0 hw0 hgood hs
  generalize rec s = R at *
  obtain ⟨p, g, h, r⟩ := s
  simp only [val] at *
  go_enter Try.func34, Try.ntmps34
  go_wp2_with (first
    | (go_at_call 46; (with_reducible refine hnum.mono ?_); rintro e w1 ⟨rfl, hn1, hb1⟩; have B1 := Lib.hid (HB.out.trans (hb1.mono (by omega))); have W1 := Lib.hid (Codec.Wtr.on HW.out (hb1.mono (Nat.le_of_eq hz))); have K1 := Lib.hid hn1; clear hnum hn1 hb1 HB HW)
    | (go_at_call 47; (with_reducible refine (hput _ _ K1.out W1.out B1.out.size).mono ?_); rintro e w2 ⟨rfl, hw2, hk2⟩; have B2 := Lib.hid (B1.out.trans hk2.2.1); have W2 := Lib.hid hw2; clear hput hw2 hk2 K1 W1 B1)
    | (go_at_call 48; (with_reducible refine (hdone _ W2.out).mono ?_); rintro e w3 ⟨v3, rfl, ho3, hb3⟩; have B3 := Lib.hid (B2.out.trans (hb3.mono B2.out.size)); have O3 := Lib.hid (own_lower ho3 B2.out.size); clear hdone ho3 hb3 B2 W2))
  go_ret
  exact ⟨v3, rfl, O3.out, B3.out⟩
end Go.Proofs.Ytlbdkigiphnabaa.Vault
