/-
  Words for memory: a slice of leases, a slice of rows, each with its leases; what stays. Any program; no conditions beyond those that each names.
-/
import Derived.Test.YtkdjhphakopfeaaFramePlain
import Derived.Test.YtkdjhphakopfeaaCodecWords
namespace Go.Proofs.Ytkdjhphakopfeaa.Frame
open Go.RowKit Codec

/-- A slice of leases. -/
def LeasesAt (w : World) (p : Option Addr) (l : List (Int × Int)) : Prop :=
  l = [] ∨ ∃ b o, p = some ⟨b, o, none⟩ ∧ ∀ j, j < l.length → w.cell? ⟨b, o + j * 2, none⟩ = some (.int .i64 (l.getD j (0, 0)).1) ∧ w.cell? ⟨b, o + j * 2 + 1, none⟩ = some (.int .i64 (l.getD j (0, 0)).2)
/-- The four cells of a row. -/
def RowAt (w : World) (b o : Nat) (r : Rw) : Prop :=
  w.cell? ⟨b, o, none⟩ = some (.int .i64 r.key) ∧ w.cell? ⟨b, o + 1, none⟩ = some (.int .i64 r.avail) ∧ w.cell? ⟨b, o + 2, none⟩ = some (.int .i64 r.mark) ∧
    ∃ p c, w.cell? ⟨b, o + 3, none⟩ = some (.slice p r.out.length c) ∧ LeasesAt w p r.out
/-- A slice of rows. -/
def RowsAt (w : World) (p : Option Addr) (l : List Rw) : Prop :=
  l = [] ∨ ∃ b o, p = some ⟨b, o, none⟩ ∧ ∀ j, j < l.length → RowAt w b (o + j * 4) (l.getD j noRow)

section
variable {w w' : World}
theorem cell_on {b o : Nat} {v : Value} (h : w.cell? ⟨b, o, none⟩ = some v) (hb : Below w.heap.size w w') : w'.cell? ⟨b, o, none⟩ = some v :=
  (hb.cell (p := ⟨b, o, none⟩) (World.block_lt_of_cell? _ _ h)).trans h
theorem LeasesAt.below {p : Option Addr} {l : List (Int × Int)} (h : LeasesAt w p l) (hb : Below w.heap.size w w') : LeasesAt w' p l := by
  rcases h with h | ⟨b, o, e, hc⟩
  · exact .inl h
  · exact .inr ⟨b, o, e, fun j hj => ⟨cell_on (hc j hj).1 hb, cell_on (hc j hj).2 hb⟩⟩
theorem RowAt.below {b o : Nat} {r : Rw} (h : RowAt w b o r) (hb : Below w.heap.size w w') : RowAt w' b o r := by
  obtain ⟨h0, h1, h2, p, c, h3, h4⟩ := h
  exact ⟨cell_on h0 hb, cell_on h1 hb, cell_on h2 hb, p, c, cell_on h3 hb, h4.below hb⟩
theorem RowsAt.below {p : Option Addr} {l : List Rw} (h : RowsAt w p l) (hb : Below w.heap.size w w') : RowsAt w' p l := by
  rcases h with h | ⟨b, o, e, hc⟩
  · exact .inl h
  · exact .inr ⟨b, o, e, fun j hj => (hc j hj).below hb⟩
end
end Go.Proofs.Ytkdjhphakopfeaa.Frame
