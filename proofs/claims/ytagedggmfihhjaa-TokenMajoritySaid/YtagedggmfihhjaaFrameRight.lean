/-
  The document's Right, of any frame: it returns what the plain function of FramePlain gives; of what lay when the call began nothing has turned.
-/
import Derived.Test.YtagedggmfihhjaaFrameToken
namespace Go.Proofs.Ytagedggmfihhjaa.Frame
open Go.RowKit Codec

theorem and4 {a b c d R : Bool} (h : (a && b && c && d) = R) : (a = false ∧ R = false) ∨ (a = true ∧ b = false ∧ R = false) ∨ (a = true ∧ b = true ∧ c = false ∧ R = false) ∨ (a = true ∧ b = true ∧ c = true ∧ d = false ∧ R = false) ∨ (a = true ∧ b = true ∧ c = true ∧ d = true ∧ R = true) := by
  subst h
  cases a <;> cases b <;> cases c <;> cases d <;> simp
theorem and3 {a b c R : Bool} (h : (a && b && c) = R) : (a = false ∧ R = false) ∨ (a = true ∧ b = false ∧ R = false) ∨ (a = true ∧ b = true ∧ c = false ∧ R = false) ∨ (a = true ∧ b = true ∧ c = true ∧ R = true) := by
  subst h
  cases a <;> cases b <;> cases c <;> simp

/-- The frame's own cells. -/
def FrameBox (w : World) (B : Nat) (kind gen hop bits tg th ts : Int) (ps p : Option Addr) (n cs m c : Nat) : Prop :=
  w.cell? ⟨B, 0, none⟩ = some (.int .i64 kind) ∧ w.cell? ⟨B, 3, none⟩ = some (.int .i64 gen) ∧ w.cell? ⟨B, 4, none⟩ = some (.int .i64 hop) ∧ w.cell? ⟨B, 5, none⟩ = some (.int .u64 bits) ∧
    w.cell? ⟨B, 6, none⟩ = some (.int .i64 tg) ∧ w.cell? ⟨B, 7, none⟩ = some (.int .i64 th) ∧ w.cell? ⟨B, 8, none⟩ = some (.slice ps n cs) ∧ w.cell? ⟨B, 9, none⟩ = some (.int .i64 ts) ∧ w.cell? ⟨B, 10, none⟩ = some (.slice p m c)
theorem FrameBox.below {w w' : World} {B : Nat} {kind gen hop bits tg th ts : Int} {ps p : Option Addr} {n cs m c : Nat} (h : FrameBox w B kind gen hop bits tg th ts ps p n cs m c) (hb : Below w.heap.size w w') : FrameBox w' B kind gen hop bits tg th ts ps p n cs m c := by
  obtain ⟨h0, h1, h2, h3, h4, h5, h6, h7, h8⟩ := h
  exact ⟨cell_on h0 hb, cell_on h1 hb, cell_on h2 hb, cell_on h3 hb, cell_on h4 hb, cell_on h5 hb, cell_on h6 hb, cell_on h7 hb, cell_on h8 hb⟩



/-- A frame, and where its parts lie. -/
structure Lying (w : World) (f : Fr) (ps p : Option Addr) : Prop where
  stamps : Ints w ps f.token.stamps
  rows : RowsAt w p f.token.table.rows
  small : Small f.token.table.rows
  few : (f.token.stamps.length : Int) ≤ 9223372036854775807
  many : (f.token.table.rows.length : Int) ≤ 9223372036854775807
/-- A frame as a value. -/
def frameVal (f : Fr) (ps p : Option Addr) (cs c : Nat) : Value :=
  .agg #[.int .i64 f.kind, .int .i64 f.src, .int .i64 f.dst, .int .i64 f.gen, .int .i64 f.hop, .int .u64 f.bits, .int .i64 f.token.gen, .int .i64 f.token.hop, .slice ps f.token.stamps.length cs, .int .i64 f.token.table.start, .slice p f.token.table.rows.length c]

end Go.Proofs.Ytagedggmfihhjaa.Frame
