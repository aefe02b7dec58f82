/-
  A round of acts: a visit of the program, a visit of the document, from what stands ahead of it.
  VisitPlays returns true, whatever the program's edge and visit are, of a configuration that may be, and few acts.
-/
import Derived.Deep.DeepCutAuto
import Derived.Deep.RegionHeld3
import Derived.Deep.RegionHeldLaw
import Derived.Test.YtbgdlokegibkmaaGreatMnAj
import Derived.Test.YtbgdlokegibkmaaGreatMnAh
import Derived.Test.YtbgdlokegibkmaaGreatMnAb
import Derived.Test.YtbgdlokegibkmaaGreatMnAe
import Derived.Test.YtbgdlokegibkmaaGreatMnAl
import Derived.Test.YtbgdlokegibkmaaGreatMnAc
namespace Go.Proofs.YtbgdlokegibkmaaGreat.Visit
open Go.RowKit
open _root_.Go.Proofs.YtbgdlokegibkmaaGreat.Frame (Rw Tb Tk noRow)
open _root_.Go.Proofs.YtbgdlokegibkmaaGreat.Ledger (RowAt RowsAt Rise)
open _root_.Go.Proofs.YtbgdlokegibkmaaGreat.Codec (Ints lt_of_heap)
open _root_.Go.Proofs.YtbgdlokegibkmaaGreat.Edge (Cf Eg An Ed RatesB CfNum Says HasN)
open _root_.Go.Proofs.YtbgdlokegibkmaaGreat.Token (tokVal)
open _root_.Go.Proofs.YtbgdlokegibkmaaGreat.Lease (Num)
theorem rowsin_rest {S : Nat → Prop} {w : World} {p : Option Addr} {l : List Rw} (h : Ledger.RowsIn S w p l) : RowsAt w p l := Ledger.RowsIn.rest h
theorem rates_on {B : Nat} {w u : World} {p : Option Addr} {zs : List (Int × Int)} (h : RatesB B w p zs) (hB : B ≤ u.heap.size) (hb : Below B w u) : RatesB u.heap.size u p zs := by
  rcases h.on hb with h | ⟨b, o, e, hlt, hc⟩
  · exact .inl h
  · exact .inr ⟨b, o, e, Nat.lt_of_lt_of_le hlt hB, hc⟩
end Go.Proofs.YtbgdlokegibkmaaGreat.Visit

namespace Go.Proofs.YtbgdlokegibkmaaGreat.Visit
open Go.RowKit
open _root_.Go.Proofs.YtbgdlokegibkmaaGreat.Frame (Rw Tb Tk noRow Asked cell_on)
open _root_.Go.Proofs.YtbgdlokegibkmaaGreat.Ledger (RowAt RowsAt Rise)
open _root_.Go.Proofs.YtbgdlokegibkmaaGreat.Codec (Ints lt_of_heap)
open _root_.Go.Proofs.YtbgdlokegibkmaaGreat.Edge (Cf Eg An Ed RatesB CfNum Says HasN e0)
open _root_.Go.Proofs.YtbgdlokegibkmaaGreat.Token (tokVal box5f)
open _root_.Go.Proofs.YtbgdlokegibkmaaGreat.Lease (Num)
/-- The eight cells of an act. -/
structure AvAt (w : World) (b o : Nat) (a : Av) : Prop where
  k0 : w.cell? ⟨b, o, none⟩ = some (.bool a.visit)
  k1 : w.cell? ⟨b, o + 1, none⟩ = some (.bool a.crash)
  k2 : w.cell? ⟨b, o + 2, none⟩ = some (.int .i64 a.r.id)
  k3 : w.cell? ⟨b, o + 3, none⟩ = some (.int .i64 a.r.key)
  k4 : w.cell? ⟨b, o + 4, none⟩ = some (.int .i64 a.r.cost)
  k5 : w.cell? ⟨b, o + 5, none⟩ = some (.int .i64 a.r.cls)
  k6 : w.cell? ⟨b, o + 6, none⟩ = some (.int .i64 a.r.wait)
  k7 : w.cell? ⟨b, o + 7, none⟩ = some (.int .i64 a.now)
def AvsAt (w : World) (p : Option Addr) (l : List Av) : Prop := l = [] ∨ ∃ b o, p = some ⟨b, o, none⟩ ∧ ∀ j, j < l.length → AvAt w b (o + j * 8) (l.getD j zv)
/-- The two boxes: the configuration's, the token's. -/
structure Boxes (W : World) (c : Cf) (pf : Option Addr) (kf : Nat) (t : Tk) (ps : Option Addr) (cs : Nat) (pt : Option Addr) (d : Nat) (u : World) : Prop where
  conf : u.heap[W.heap.size]? = some (.cells #[.int .i64 c.n, .int .i64 c.sk, .int .i64 c.tl, .int .i64 c.va, .int .i64 c.lo, .int .i64 c.he, .int .i64 c.ke, .int .i64 c.qu, .slice pf c.zs.length kf] 24 (0, 0))
  tok : u.heap[W.heap.size + 1]? = some (.cells #[.int .i64 t.gen, .int .i64 t.hop, .slice ps t.stamps.length cs, .int .i64 t.table.start, .slice pt t.table.rows.length (d + t.table.rows.length)] 30 (0, 0))
theorem Boxes.below {W : World} {c : Cf} {pf : Option Addr} {kf : Nat} {t : Tk} {ps : Option Addr} {cs : Nat} {pt : Option Addr} {d : Nat} {u u' : World} (h : Boxes W c pf kf t ps cs pt d u) (hb : Below u.heap.size u u') : Boxes W c pf kf t ps cs pt d u' :=
  ⟨(hb.block _ (lt_of_heap h.conf)).trans h.conf, (hb.block _ (lt_of_heap h.tok)).trans h.tok⟩
theorem Boxes.cells {W : World} {c : Cf} {pf : Option Addr} {kf : Nat} {t : Tk} {ps : Option Addr} {cs : Nat} {pt : Option Addr} {d : Nat} {u : World} (h : Boxes W c pf kf t ps cs pt d u) :
    u.cell? ⟨W.heap.size, 0, none⟩ = some (.int .i64 c.n) ∧ u.cell? ⟨W.heap.size, 1, none⟩ = some (.int .i64 c.sk) ∧ u.cell? ⟨W.heap.size, 2, none⟩ = some (.int .i64 c.tl) ∧ u.cell? ⟨W.heap.size, 3, none⟩ = some (.int .i64 c.va) ∧ u.cell? ⟨W.heap.size, 4, none⟩ = some (.int .i64 c.lo) ∧ u.cell? ⟨W.heap.size, 5, none⟩ = some (.int .i64 c.he) ∧ u.cell? ⟨W.heap.size, 6, none⟩ = some (.int .i64 c.ke) ∧ u.cell? ⟨W.heap.size, 7, none⟩ = some (.int .i64 c.qu) ∧ u.cell? ⟨W.heap.size, 8, none⟩ = some (.slice pf c.zs.length kf) ∧
    u.cell? ⟨W.heap.size + 1, 0, none⟩ = some (.int .i64 t.gen) ∧ u.cell? ⟨W.heap.size + 1, 1, none⟩ = some (.int .i64 t.hop) ∧ u.cell? ⟨W.heap.size + 1, 2, none⟩ = some (.slice ps t.stamps.length cs) ∧ u.cell? ⟨W.heap.size + 1, 3, none⟩ = some (.int .i64 t.table.start) ∧ u.cell? ⟨W.heap.size + 1, 4, none⟩ = some (.slice pt t.table.rows.length (d + t.table.rows.length)) ∧ ∀ o, u.frozen? ⟨W.heap.size + 1, o, none⟩ = false := by
  obtain ⟨x0, x1, x2, x3, x4, ff⟩ := box5f h.tok
  exact ⟨by rw [cell_of_row _ _ _ _ _ (0, 0) h.conf]; rfl, by rw [cell_of_row _ _ _ _ _ (0, 0) h.conf]; rfl, by rw [cell_of_row _ _ _ _ _ (0, 0) h.conf]; rfl, by rw [cell_of_row _ _ _ _ _ (0, 0) h.conf]; rfl, by rw [cell_of_row _ _ _ _ _ (0, 0) h.conf]; rfl, by rw [cell_of_row _ _ _ _ _ (0, 0) h.conf]; rfl, by rw [cell_of_row _ _ _ _ _ (0, 0) h.conf]; rfl, by rw [cell_of_row _ _ _ _ _ (0, 0) h.conf]; rfl, by rw [cell_of_row _ _ _ _ _ (0, 0) h.conf]; rfl, x0, x1, x2, x3, x4, ff⟩
end Go.Proofs.YtbgdlokegibkmaaGreat.Visit
