/-
  Words for tokens in memory; what is asked of the program's package token (Way10); the document's Newer.
-/
import Derived.Test.YtagedggmfihhjaaTokPlain
import Derived.Test.YtagedggmfihhjaaTokMem
import Derived.Test.YtagedggmfihhjaaFrameSameToken
namespace Go.Proofs.Ytagedggmfihhjaa.Token
open Go.RowKit
open _root_.Go.Proofs.Ytagedggmfihhjaa.Frame (Rw Tb Tk noRow LeasesAt RowAt RowsAt cell_on Asked tokenOk)
open _root_.Go.Proofs.Ytagedggmfihhjaa.Codec (Ints lt_of_heap frozen_of heap_set)

def tokVal (t : Tk) (ps : Option Addr) (cs : Nat) (p : Option Addr) (c : Nat) : Value := .agg #[.int .i64 t.gen, .int .i64 t.hop, .slice ps t.stamps.length cs, .int .i64 t.table.start, .slice p t.table.rows.length c]
/-- What tells a token. -/
def TellsTok (w : World) (t : Tk) (mk : Value → Value) (e : Ending) (w' : World) : Prop := ∃ ps cs p c, e = .returned (mk (tokVal t ps cs p c)) ∧ Ints w' ps t.stamps ∧ RowsAt w' p t.table.rows ∧ Below w.heap.size w w'
/-- What tells a token without rows, in new memory. -/
def TellsNew (w : World) (t : Tk) (mk : Value → Value) (e : Ending) (w' : World) : Prop := ∃ ps cs c, e = .returned (mk (tokVal t ps cs none c)) ∧ Ints w' ps t.stamps ∧ (t.stamps = [] ∨ ∃ b o, ps = some ⟨b, o, none⟩ ∧ w.heap.size ≤ b) ∧ t.table.rows = [] ∧ Below w.heap.size w w'

structure Way10 : Prop where
  newer : ∀ (a b c d : Int) (w : World), Calls Try.prog 9 #[.agg #[.int .i64 a, .int .i64 b], .agg #[.int .i64 c, .int .i64 d]] w (Asked w (newer (a, b) (c, d)))
  at_ : ∀ (t : Tk) (ps : Option Addr) (cs : Nat) (p : Option Addr) (c : Nat) (w : World), Calls Try.prog 19 #[tokVal t ps cs p c] w fun e w' => e = .returned (.agg #[.int .i64 t.gen, .int .i64 t.hop]) ∧ Below w.heap.size w w'
  fresh : ∀ (gen n node now : Int) (w : World), Num gen → Num n → Num node → Num now → Calls Try.prog 6 #[.int .i64 gen, .int .i64 n, .int .i64 node, .int .i64 now] w (TellsNew w (fresh gen n node now).1 (fun v => .tuple #[v, .int .i64 (fresh gen n node now).2]))
  stamp : ∀ (t : Tk) (ps : Option Addr) (cs : Nat) (p : Option Addr) (c : Nat) (node now : Int) (w : World), t.stamps.length ≤ 100 → t.table.rows.length ≤ 100 → (∀ r ∈ t.table.rows, r.out.length ≤ 100) → Num node → Num now → Ints w ps t.stamps → RowsAt w p t.table.rows → Calls Try.prog 26 #[tokVal t ps cs p c, .int .i64 node, .int .i64 now] w (TellsTok w (stamped t node now).1 (fun v => .tuple #[v, .int .i64 (stamped t node now).2]))
  valid : ∀ (t : Tk) (ps : Option Addr) (cs : Nat) (p : Option Addr) (c : Nat) (now span : Int) (w : World), t.stamps.length ≤ 100 → Num now → Num span → Ints w ps t.stamps → Calls Try.prog 14 #[tokVal t ps cs p c, .int .i64 now, .int .i64 span] w (Asked w (valid t.stamps now span))
  upto : ∀ (t : Tk) (ps : Option Addr) (cs : Nat) (p : Option Addr) (c : Nat) (span : Int) (w : World), t.stamps.length ≤ 100 → Num span → Ints w ps t.stamps → Calls Try.prog 27 #[tokVal t ps cs p c, .int .i64 span] w fun e w' => e = .returned (.int .i64 (upto t.stamps span)) ∧ Below w.heap.size w w'
  pass : ∀ (t : Tk) (ps : Option Addr) (cs : Nat) (p : Option Addr) (c : Nat) (w : World), t.stamps.length ≤ 100 → t.table.rows.length ≤ 100 → (∀ r ∈ t.table.rows, r.out.length ≤ 100) → Num t.hop → Ints w ps t.stamps → RowsAt w p t.table.rows → Calls Try.prog 18 #[tokVal t ps cs p c] w (TellsTok w (passed t).1 (fun v => .tuple #[v, .int .i64 (passed t).2]))

set_option maxRecDepth 100000 in
/-- The document's Newer. -/
theorem rnewer_any (a b c d : Int) (w : World) : Calls Try.prog 10 #[.agg #[.int .i64 a, .int .i64 b], .agg #[.int .i64 c, .int .i64 d]] w (Asked w (newer (a, b) (c, d))) := by
  have M0 := Lib.hid (((Mem.start w).box #[.int .i64 a, .int .i64 b] 23).box #[.int .i64 c, .int .i64 d] 23)
  simp only [size_alloc] at M0
  obtain ⟨c0, c1, -⟩ := box2 (M0.out.boxes 0 _ _ _ rfl)
  obtain ⟨a0, a1, -⟩ := box2 (M0.out.boxes 1 _ _ _ rfl)
  have hN := Lib.hid (newer_iff (a, b) (c, d))
  have hcase : (c < a ∧ newer (a, b) (c, d) = true) ∨ (¬ c < a ∧ (a == c) = false ∧ newer (a, b) (c, d) = false) ∨ (¬ c < a ∧ (a == c) = true ∧ d < b ∧ newer (a, b) (c, d) = true) ∨ (¬ c < a ∧ (a == c) = true ∧ ¬ d < b ∧ newer (a, b) (c, d) = false) := by
    simp only [newer]
    by_cases h1 : c < a <;> by_cases h2 : a = c <;> by_cases h3 : d < b <;> simp [h1, h2, h3]
  clear hN
  generalize newer (a, b) (c, d) = R at *
  rcases hcase with ⟨h1, rfl⟩ | ⟨h1, h2, rfl⟩ | ⟨h1, h2, h3, rfl⟩ | ⟨h1, h2, h3, rfl⟩
  all_goals
    go_enter Try.func10, Try.ntmps10
    go_wp2
    go_ret
    exact ⟨rfl, M0.out.below⟩
end Go.Proofs.Ytagedggmfihhjaa.Token
