/-
  A round of acts: a visit of the program, a visit of the document, from what stands ahead of it.
  VisitPlays returns true, whatever the program's edge and visit are, of a configuration that may be, and few acts.
-/
import Derived.Deep.QuietTactic
import Derived.BigQuiet
import Derived.Laws.StructEq
import Derived.Deep.DeepCutAuto
import Derived.Deep.RegionHeld3
import Derived.Deep.RegionHeldLaw
import Derived.Test.YtbgdlokegibkmaaGreatMmAp
import Derived.Test.YtbgdlokegibkmaaGreatMmAf
import Derived.Test.YtbgdlokegibkmaaGreatMmAk
import Derived.Test.YtbgdlokegibkmaaGreatMmAa
import Derived.Test.YtbgdlokegibkmaaGreatMmAc
namespace Go.Proofs.YtbgdlokegibkmaaGreat.Visit
open Go.RowKit
open _root_.Go.Proofs.YtbgdlokegibkmaaGreat.Frame (Rw Tb Tk noRow)
open _root_.Go.Proofs.YtbgdlokegibkmaaGreat.Ledger (RowAt RowsAt Rise)
open _root_.Go.Proofs.YtbgdlokegibkmaaGreat.Codec (Ints lt_of_heap)
open _root_.Go.Proofs.YtbgdlokegibkmaaGreat.Edge (Cf Eg An Ed RatesB CfNum Says HasN)
open _root_.Go.Proofs.YtbgdlokegibkmaaGreat.Token (tokVal)
open _root_.Go.Proofs.YtbgdlokegibkmaaGreat.Lease (Num)
theorem rowsin_rest {S : Nat → Prop} {w : World} {p : Option Addr} {l : List Rw} (h : Ledger.RowsIn S w p l) : RowsAt w p l := Ledger.RowsIn.rest h
theorem rates_on {B : Nat} {w u : World} {p : Option Addr} {zs : List (Int × Int)} (h : RatesB B w p zs) (hB : B ≤ u.heap.size) (hb : Below B w u) : RatesB u.heap.size u p zs := by
  rcases h.on hb with h | ⟨b, o, e, hlt, hc⟩
  · exact .inl h
  · exact .inr ⟨b, o, e, Nat.lt_of_lt_of_le hlt hB, hc⟩
end Go.Proofs.YtbgdlokegibkmaaGreat.Visit

namespace Go.Proofs.YtbgdlokegibkmaaGreat.Visit
open Go.RowKit
open _root_.Go.Proofs.YtbgdlokegibkmaaGreat.Frame (Rw Tb Tk noRow Asked cell_on)
open _root_.Go.Proofs.YtbgdlokegibkmaaGreat.Ledger (RowAt RowsAt Rise)
open _root_.Go.Proofs.YtbgdlokegibkmaaGreat.Codec (Ints lt_of_heap)
open _root_.Go.Proofs.YtbgdlokegibkmaaGreat.Edge (Cf Eg An Ed RatesB CfNum Says HasN e0)
open _root_.Go.Proofs.YtbgdlokegibkmaaGreat.Token (tokVal box5f)
open _root_.Go.Proofs.YtbgdlokegibkmaaGreat.Lease (Num)
/-- The eight cells of an act. -/
structure AvAt (w : World) (b o : Nat) (a : Av) : Prop where
  k0 : w.cell? ⟨b, o, none⟩ = some (.bool a.visit)
  k1 : w.cell? ⟨b, o + 1, none⟩ = some (.bool a.crash)
  k2 : w.cell? ⟨b, o + 2, none⟩ = some (.int .i64 a.r.id)
  k3 : w.cell? ⟨b, o + 3, none⟩ = some (.int .i64 a.r.key)
  k4 : w.cell? ⟨b, o + 4, none⟩ = some (.int .i64 a.r.cost)
  k5 : w.cell? ⟨b, o + 5, none⟩ = some (.int .i64 a.r.cls)
  k6 : w.cell? ⟨b, o + 6, none⟩ = some (.int .i64 a.r.wait)
  k7 : w.cell? ⟨b, o + 7, none⟩ = some (.int .i64 a.now)
def AvsAt (w : World) (p : Option Addr) (l : List Av) : Prop := l = [] ∨ ∃ b o, p = some ⟨b, o, none⟩ ∧ ∀ j, j < l.length → AvAt w b (o + j * 8) (l.getD j zv)
/-- An act's box. -/
def ActBox (u : World) (g : Nat) (a : Av) : Prop := u.heap[g]? = some (.cells #[.bool a.visit, .bool a.crash, .int .i64 a.r.id, .int .i64 a.r.key, .int .i64 a.r.cost, .int .i64 a.r.cls, .int .i64 a.r.wait, .int .i64 a.now] 44 (0, 0))
theorem ActBox.cells {u : World} {g : Nat} {a : Av} (h : ActBox u g a) : AvAt u g 0 a :=
  ⟨by rw [cell_of_row _ _ _ _ _ (0, 0) h]; rfl, by rw [cell_of_row _ _ _ _ _ (0, 0) h]; rfl, by rw [cell_of_row _ _ _ _ _ (0, 0) h]; rfl, by rw [cell_of_row _ _ _ _ _ (0, 0) h]; rfl, by rw [cell_of_row _ _ _ _ _ (0, 0) h]; rfl, by rw [cell_of_row _ _ _ _ _ (0, 0) h]; rfl, by rw [cell_of_row _ _ _ _ _ (0, 0) h]; rfl, by rw [cell_of_row _ _ _ _ _ (0, 0) h]; rfl⟩
theorem ask_one (c : Cf) (e : Eg) (r : Edge.Rq) (now : Int) : (Edge.ask c e r now).2.length ≤ 1 := by
  unfold Edge.ask Edge.wait
  repeat' split
  all_goals simp [Edge.no]
theorem gr1_start (c : Cf) (node gen now : Int) (s : Gs) (x : Int × Int) : (gr1 c node gen now s x).t.start = s.t.start := by
  unfold gr1
  split
  · rfl
  · split
    · exact (grant_start _ _ _ _).trans (mint_start _ _ _ _)
    · exact (grant_start _ _ _ _).trans (mint_start _ _ _ _)
theorem grs_start (c : Cf) (node gen now : Int) : ∀ (l : List (Int × Int)) (s : Gs), (grs c node gen now l s).t.start = s.t.start
  | [], _ => rfl
  | x :: l, s => (grs_start c node gen now l (gr1 c node gen now s x)).trans (gr1_start c node gen now s x)
theorem visit_same (c : Cf) (node now : Int) (t : Tk) (e : Eg) : (visit c node now t e).1.gen = t.gen ∧ (visit c node now t e).1.hop = t.hop ∧ (visit c node now t e).1.table.start = t.table.start := by
  unfold visit
  obtain ⟨h1, h2, h3, -⟩ := stamped_rest t node now
  split
  · exact ⟨rfl, rfl, (grs_start c node t.gen now _ _).trans (settled_start c node t.gen now t.table e)⟩
  · exact ⟨h1, h2, by rw [h3]⟩
theorem visited_few {c : Cf} (hq : c.qu ≤ 16) (hk : c.ke ≤ 16) {m : Nat} (hm : m ≤ 660) {s : Vs} (h : Inv c m s) {now : Int} (hn : Num now) : (visited c s now).2.length ≤ 20000 := by
  unfold visited
  split
  · rename_i hr
    obtain ⟨h1, -⟩ := right_ok hr
    rcases h.mode with hkp | ⟨h2, -⟩
    · unfold visit
      split
      · have hs := keeps_settled hkp hk (gen := s.t.gen) hn
        have hl := hs.lens hq (by omega)
        have h3 := grs_out (c := c) (node := 0) hk hq (by omega) (gen_num h1) hn (l := Edge.wants c (settled c 0 s.t.gen now s.t.table s.e).2) (s := ⟨(settled c 0 s.t.gen now s.t.table s.e).1, (settled c 0 s.t.gen now s.t.table s.e).2, []⟩) wants_num hs _ (Nat.le_refl _)
        rw [List.take_length] at h3
        have h4 := wants_few (c := c) hl.2.1 hl.2.2
        simp only [List.length_nil, Nat.zero_add] at h3
        simp only
        omega
      · simp
    · rw [h2] at h1
      simp at h1
  · simp
theorem lies_swap {u u' : World} (hk : ∀ {b o : Nat} {x : Int}, u.cell? ⟨b, o, none⟩ = some (.int .i64 x) → u'.cell? ⟨b, o, none⟩ = some (.int .i64 x)) {p : Option Addr} {l : List An} (h : Kit.Lies Edge.ans u p l) : Kit.Lies Edge.ans u' p l := by
  rcases h with h | ⟨b, o, e, hc⟩
  · exact .inl h
  · refine .inr ⟨b, o, e, fun j hj k y hy => ?_⟩
    have h1 := hc j hj k y hy
    obtain ⟨x, rfl⟩ : ∃ x, y = .int .i64 x := by
      have hm := List.mem_of_getElem? hy
      simp only [Edge.ans, List.mem_cons, List.not_mem_nil, or_false] at hm
      rcases hm with rfl | rfl | rfl
      · exact ⟨_, rfl⟩
      · exact ⟨_, rfl⟩
      · exact ⟨_, rfl⟩
    exact hk h1
end Go.Proofs.YtbgdlokegibkmaaGreat.Visit
