/-
  What the calls of package conf on configurations stand on: a configuration as a value, its rates in memory, its box. Any configuration, any world.
-/
import Derived.Test.YtcnnepmhdccipaaConfNums
import Derived.Test.YtcnnepmhdccipaaRingRow
import Derived.Below
import Derived.Deep.QuietTactic
import Derived.BigQuiet
namespace Go.Proofs.Ytcnnepmhdccipaa.Conf
open Go.RowKit Ring

/-- A cell of what lay stays. -/
theorem cell_stays {w w' : World} (h : Below w.heap.size w w') {a : Addr} {v : Value} (hc : w.cell? a = some v) : w'.cell? a = some v := by
  rw [h.cell (World.block_lt_of_cell? w a hc)]
  exact hc

/-- Rates in memory: two ints each. -/
def IsRates (w : World) (p : Option Addr) (zs : List (Int × Int)) : Prop :=
  zs = [] ∨ ∃ b o, p = some ⟨b, o, none⟩ ∧ ∀ i, i < zs.length →
    w.cell? ⟨b, o + i * 2, none⟩ = some (.int .i64 (zs.getD i (0, 0)).1) ∧ w.cell? ⟨b, o + i * 2 + 1, none⟩ = some (.int .i64 (zs.getD i (0, 0)).2)
theorem IsRates.stays {w w' : World} {p : Option Addr} {zs : List (Int × Int)} (h : IsRates w p zs) (hb : Below w.heap.size w w') : IsRates w' p zs := by
  rcases h with h | ⟨b, o, hp, h⟩
  · exact .inl h
  · exact .inr ⟨b, o, hp, fun i hi => ⟨cell_stays hb (h i hi).1, cell_stays hb (h i hi).2⟩⟩

/-- A box of nine cells at a block. -/
def Nine (W : World) (g : Nat) (v0 v1 v2 v3 v4 v5 v6 v7 v8 : Value) : Prop :=
  W.cell? ⟨g, 0, none⟩ = some v0 ∧ W.cell? ⟨g, 1, none⟩ = some v1 ∧ W.cell? ⟨g, 2, none⟩ = some v2 ∧ W.cell? ⟨g, 3, none⟩ = some v3 ∧ W.cell? ⟨g, 4, none⟩ = some v4 ∧
  W.cell? ⟨g, 5, none⟩ = some v5 ∧ W.cell? ⟨g, 6, none⟩ = some v6 ∧ W.cell? ⟨g, 7, none⟩ = some v7 ∧ W.cell? ⟨g, 8, none⟩ = some v8
theorem Nine.stays {W W' : World} {g : Nat} {v0 v1 v2 v3 v4 v5 v6 v7 v8 : Value} (h : Nine W g v0 v1 v2 v3 v4 v5 v6 v7 v8) (hb : Below W.heap.size W W') : Nine W' g v0 v1 v2 v3 v4 v5 v6 v7 v8 := by
  obtain ⟨h0, h1, h2, h3, h4, h5, h6, h7, h8⟩ := h
  exact ⟨cell_stays hb h0, cell_stays hb h1, cell_stays hb h2, cell_stays hb h3, cell_stays hb h4, cell_stays hb h5, cell_stays hb h6, cell_stays hb h7, cell_stays hb h8⟩
theorem nine_new (w : World) (v0 v1 v2 v3 v4 v5 v6 v7 v8 : Value) (t : TypeId) : Nine (w.alloc (.cells #[v0, v1, v2, v3, v4, v5, v6, v7, v8] t)) w.heap.size v0 v1 v2 v3 v4 v5 v6 v7 v8 := by
  refine ⟨?_, ?_, ?_, ?_, ?_, ?_, ?_, ?_, ?_⟩ <;> (rw [World.cell?_alloc_new]; rfl)
theorem below_new (w : World) (o : Obj) : Below w.heap.size w (w.alloc o) := (Below.refl _ w).alloc (Nat.le_refl _) o

def times (sk tl va lo he : Int) : Bool := within tl 1 2147483648 && within va 1 2147483648 && within lo 1 2147483648 && within he 1 2147483648 && within sk 0 2147483648
def rooms (ke qu : Int) : Bool := within ke 1 16 && within qu 0 16
def rate1 (r : Int × Int) : Bool := within r.1 0 2147483648 && within r.2 0 2147483648
def rates (zs : List (Int × Int)) : Bool := within zs.length 1 8 && zs.all rate1
def check (n sk tl va lo he ke qu : Int) (zs : List (Int × Int)) : Int :=
  if within n 1 64 = false then 21 else if times sk tl va lo he = false then 22 else if rooms ke qu = false then 23 else if rates zs = false then 24 else 0


end Go.Proofs.Ytcnnepmhdccipaa.Conf
