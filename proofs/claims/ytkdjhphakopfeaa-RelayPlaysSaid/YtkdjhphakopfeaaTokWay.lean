/-
  Words for tokens in memory; what is asked of the program's package token (Way10); the document's Newer.
-/
import Derived.Test.YtkdjhphakopfeaaTokPlain
import Derived.Test.YtkdjhphakopfeaaTokMem
import Derived.Test.YtkdjhphakopfeaaFrameSameToken
namespace Go.Proofs.Ytkdjhphakopfeaa.Token
open Go.RowKit
open _root_.Go.Proofs.Ytkdjhphakopfeaa.Frame (Rw Tb Tk noRow LeasesAt RowAt RowsAt cell_on Asked tokenOk)
open _root_.Go.Proofs.Ytkdjhphakopfeaa.Codec (Ints lt_of_heap frozen_of heap_set)

def tokVal (t : Tk) (ps : Option Addr) (cs : Nat) (p : Option Addr) (c : Nat) : Value := .agg #[.int .i64 t.gen, .int .i64 t.hop, .slice ps t.stamps.length cs, .int .i64 t.table.start, .slice p t.table.rows.length c]
/-- What tells a token. -/
def TellsTok (w : World) (t : Tk) (mk : Value → Value) (e : Ending) (w' : World) : Prop := ∃ ps cs p c, e = .returned (mk (tokVal t ps cs p c)) ∧ Ints w' ps t.stamps ∧ RowsAt w' p t.table.rows ∧ Below w.heap.size w w'
/-- What tells a token without rows, in new memory. -/
def TellsNew (w : World) (t : Tk) (mk : Value → Value) (e : Ending) (w' : World) : Prop := ∃ ps cs c, e = .returned (mk (tokVal t ps cs none c)) ∧ Ints w' ps t.stamps ∧ (t.stamps = [] ∨ ∃ b o, ps = some ⟨b, o, none⟩ ∧ w.heap.size ≤ b) ∧ t.table.rows = [] ∧ Below w.heap.size w w'

structure Way10 : Prop where
  newer : ∀ (a b c d : Int) (w : World), Calls Try.prog 26 #[.agg #[.int .i64 a, .int .i64 b], .agg #[.int .i64 c, .int .i64 d]] w (Asked w (newer (a, b) (c, d)))
  at_ : ∀ (t : Tk) (ps : Option Addr) (cs : Nat) (p : Option Addr) (c : Nat) (w : World), Calls Try.prog 27 #[tokVal t ps cs p c] w fun e w' => e = .returned (.agg #[.int .i64 t.gen, .int .i64 t.hop]) ∧ Below w.heap.size w w'

set_option maxRecDepth 100000 in
/-- The document's Newer. -/
theorem rnewer_any (a b c d : Int) (w : World) : Calls Try.prog 31 #[.agg #[.int .i64 a, .int .i64 b], .agg #[.int .i64 c, .int .i64 d]] w (Asked w (newer (a, b) (c, d))) := by
  have M0 := Lib.hid (((Mem.start w).box #[.int .i64 a, .int .i64 b] 64).box #[.int .i64 c, .int .i64 d] 64)
  simp only [size_alloc] at M0
  obtain ⟨c0, c1, -⟩ := box2 (M0.out.boxes 0 _ _ _ rfl)
  obtain ⟨a0, a1, -⟩ := box2 (M0.out.boxes 1 _ _ _ rfl)
  have hN := Lib.hid (newer_iff (a, b) (c, d))
  have hcase : (c < a ∧ newer (a, b) (c, d) = true) ∨ (¬ c < a ∧ (a == c) = false ∧ newer (a, b) (c, d) = false) ∨ (¬ c < a ∧ (a == c) = true ∧ d < b ∧ newer (a, b) (c, d) = true) ∨ (¬ c < a ∧ (a == c) = true ∧ ¬ d < b ∧ newer (a, b) (c, d) = false) := by
    simp only [newer]
    by_cases h1 : c < a <;> by_cases h2 : a = c <;> by_cases h3 : d < b <;> simp [h1, h2, h3]
  clear hN
  generalize newer (a, b) (c, d) = R at *
  rcases hcase with ⟨h1, rfl⟩ | ⟨h1, h2, rfl⟩ | ⟨h1, h2, h3, rfl⟩ | ⟨h1, h2, h3, rfl⟩
  all_goals
    go_enter Try.func31, Try.ntmps31
    go_wp2
    go_ret
    exact ⟨rfl, M0.out.below⟩
end Go.Proofs.Ytkdjhphakopfeaa.Token
