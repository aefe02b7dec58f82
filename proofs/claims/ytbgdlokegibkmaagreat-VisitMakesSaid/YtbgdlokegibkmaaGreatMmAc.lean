/-
  What is asked of the program's wallet, whatever its blocks are: a predicate on memory, and what each call tells and leaves (Way11); the live question.
  The document's Table, of any table: it returns what the plain function of FramePlain gives; of what lay when the call began nothing has turned.
  The document's Right, of any frame: it returns what the plain function of FramePlain gives; of what lay when the call began nothing has turned.
  The document's SameToken and Same: each returns what the plain functions of FramePlain give, of any two; of what lay when the call began nothing has turned.
  append of one row, just laid, onto rows that a call owns.
  Leases that a call owns; append of one, just laid. What the document's Settle and Grant make, plain.
  The document's Settle, of any table of up to 1000 rows and leases, returns the plain function's table and number; of what lay when the call began nothing has turned.
  The document's Rate, once more without conf's own texts; the document's Idle of any row, table and configuration.
  The document's Sweep, of any table of up to 1000 rows, returns the plain function's table; of what lay when the call began nothing has turned.
  The document's Mint (annonaref09) of any table tells what the plain mint gives, and leaves the world below as it was; at most 1000 rows, and leases of each.
  A ledger of memory: boxes, rows and leases that lie while calls come and go; each lies on. No conditions beyond those that each names.
  The document's Held, of any table of up to 1000 rows and leases, returns the plain function's keys; of what lay when the call began nothing has turned.
  FitsToken and Fits of annonalaw05: whether a frame is such as is gone through; of what lay when the call began nothing has turned.
  The document's Keys, of any queue of up to 1000 items.
  What is asked of the program's estimates, whatever their blocks are: a predicate on memory, and what each call tells and leaves (Way13); the live question.
  A ledger of memory: boxes, rows and leases that lie while calls come and go; ints that a call owns; all of it without package ledger. No conditions beyond those that each names.
  Words for tokens in memory; what is asked of the program's package token (Way10); the document's Newer.
  The document's Fresh (annonaref10), of any numbers.
  The program's within, isNode, genMayBe, hopMayBe, and conf's within and Right: each returns what the plain functions of FramePlain give; the world stays.
  The program's stampsMayBe, leasesMayBe and rowMayBe: each returns what the plain functions of FramePlain give; of what lay when the call began nothing has turned.
  The program's Table and Token: each returns what the plain functions of FramePlain give; of what lay when the call began nothing has turned.
-/
import Derived.Deep.QuietTactic
import Derived.BigQuiet
import Derived.Laws.OwnMore
import Derived.Laws.StructEq
import Derived.Deep.RegionHeld3
import Derived.Laws.AppendOwnNone
import Derived.IntWalk
import Derived.Maps.AppendAt
import Derived.Outline
import Derived.Test.YtbgdlokegibkmaaGreatMmAa
import Derived.Test.YtbgdlokegibkmaaGreatMmAb
import Derived.Test.YtbgdlokegibkmaaGreatChecked
namespace Go.Proofs.YtbgdlokegibkmaaGreat.Lease
open Go.RowKit
open _root_.Go.Proofs.YtbgdlokegibkmaaGreat.Codec (lt_of_heap frozen_of heap_set own_below)
/-- What a step of the program leaves alone: the document's blocks. -/
structure Off (w w' : World) : Prop where
  size : w.heap.size ≤ w'.heap.size
  block : ∀ (g : Nat) (cs : Array Value) (t : TypeId) (z : Nat × Nat), w.heap[g]? = some (Obj.cells cs t z) → t ∈ [92, 131] → w'.heap[g]? = some (Obj.cells cs t z)
theorem Off.wl {w w' : World} {B v : Nat} {l : List Lz} (ho : Off w w') (h : Wl B w v l) : Wl B w' v l := by
  obtain ⟨h0, y, h1, h2, h3⟩ := h
  refine ⟨h0, y, ho.block v _ _ _ h1 (by simp), h2, ?_⟩
  rcases h3 with h3 | ⟨g, cap, cur, rfl, k1, k2, k3⟩
  · exact .inl h3
  · exact .inr ⟨g, cap, cur, rfl, k1, ho.block g _ _ _ k2 (by simp), k3⟩
abbrev Pw := Nat → World → Nat → List Lz → Prop
/-- The program's wallet moves. -/
structure Moved (PW : Pw) (B : Nat) (w : World) (q : Nat) (l : List Lz) (w' : World) : Prop where
  pw : PW B w' q l
  off : Off w w'
  below : Below B w w'
def x1 : Lz := ⟨3, 7, 5, 0, 20⟩
def x2 : Lz := ⟨3, 7, 5, 4, 20⟩
end Go.Proofs.YtbgdlokegibkmaaGreat.Lease

namespace Go.Proofs.YtbgdlokegibkmaaGreat.Frame
open Go.RowKit Codec
theorem undrew {w w' : World} (h : Below w.drew.heap.size w.drew w') : Below w.heap.size w w' := ⟨h.os, h.tape, h.output, h.size, h.block⟩
theorem rowAt_false {l : List Rw} {s : Int} {i : Nat} (h : rowOk (l.getD i noRow) s = false ∨ (0 < i ∧ (l.getD i noRow).key ≤ (l.getD (i - 1) noRow).key)) : rowAt l s i = false := by
  unfold rowAt
  rcases h with h | ⟨h0, h1⟩
  · rw [h]; simp
  · have : (i == 0 || decide ((l.getD (i - 1) noRow).key < (l.getD i noRow).key)) = false := by
      rw [Bool.or_eq_false_iff]
      exact ⟨by simp; omega, decide_eq_false (by omega)⟩
    rw [this]; simp
theorem rowAt_true {l : List Rw} {s : Int} {i : Nat} (h0 : rowOk (l.getD i noRow) s = true) (h2 : i = 0 ∨ (l.getD (i - 1) noRow).key < (l.getD i noRow).key) : rowAt l s i = true := by
  unfold rowAt
  rw [h0, Bool.true_and, Bool.or_eq_true]
  rcases h2 with h2 | h2
  · exact .inl (by simp [h2])
  · exact .inr (decide_eq_true h2)
/-- The rows' leases are no longer than a slice may be. -/
def Small (l : List Rw) : Prop := ∀ r ∈ l, (r.out.length : Int) ≤ 9223372036854775807
end Go.Proofs.YtbgdlokegibkmaaGreat.Frame

namespace Go.Proofs.YtbgdlokegibkmaaGreat.Frame
open Go.RowKit Codec
theorem and4 {a b c d R : Bool} (h : (a && b && c && d) = R) : (a = false ∧ R = false) ∨ (a = true ∧ b = false ∧ R = false) ∨ (a = true ∧ b = true ∧ c = false ∧ R = false) ∨ (a = true ∧ b = true ∧ c = true ∧ d = false ∧ R = false) ∨ (a = true ∧ b = true ∧ c = true ∧ d = true ∧ R = true) := by
  subst h
  cases a <;> cases b <;> cases c <;> cases d <;> simp
end Go.Proofs.YtbgdlokegibkmaaGreat.Frame

namespace Go.Proofs.YtbgdlokegibkmaaGreat.Frame
open Go.RowKit Codec
/-- Two boxes, one behind the other: their cells. -/
theorem two_boxes (w : World) (cs ds : Array Value) (T : TypeId) : Below w.heap.size w ((w.alloc (.cells cs T)).alloc (.cells ds T)) ∧ (∀ i, ((w.alloc (.cells cs T)).alloc (.cells ds T)).cell? ⟨w.heap.size, i, none⟩ = cs[i]?) ∧ ∀ i, ((w.alloc (.cells cs T)).alloc (.cells ds T)).cell? ⟨w.heap.size + 1, i, none⟩ = ds[i]? := by
  refine ⟨((Below.refl _ _).alloc (Nat.le_refl _) _).alloc (by simp) _, fun i => cell_of_row _ _ i _ T (0, 0) ((Below.heap_alloc _ _ _ (by simp)).trans (heap_alloc_new w _)), fun i => ?_⟩
  have := heap_alloc_new (w.alloc (.cells cs T)) (.cells ds T)
  rw [show (w.alloc (.cells cs T)).heap.size = w.heap.size + 1 by simp] at this
  exact cell_of_row _ _ i _ T (0, 0) this
end Go.Proofs.YtbgdlokegibkmaaGreat.Frame

namespace Go.Proofs.YtbgdlokegibkmaaGreat.Ledger
open Go.RowKit
open _root_.Go.Proofs.YtbgdlokegibkmaaGreat.Frame (Rw Tb noRow LeasesAt cell_on)
open _root_.Go.Proofs.YtbgdlokegibkmaaGreat.Codec (own_below own_lower lt_of_heap frozen_of heap_set)
theorem below_drewN (w : World) (n : Nat) : Below w.heap.size w (w.drewN n) := ⟨rfl, rfl, rfl, Nat.le_refl _, fun _ _ => rfl⟩
end Go.Proofs.YtbgdlokegibkmaaGreat.Ledger

namespace Go.Proofs.YtbgdlokegibkmaaGreat.Ledger
open Go.RowKit
open _root_.Go.Proofs.YtbgdlokegibkmaaGreat.Frame (Rw Tb noRow LeasesAt cell_on)
open _root_.Go.Proofs.YtbgdlokegibkmaaGreat.Codec (own_below own_lower lt_of_heap frozen_of heap_set)
open _root_.Go.Proofs.YtbgdlokegibkmaaGreat.Sat (fit add sub mul)
def cellsL (l : List (Int × Int)) : List Value := l.flatMap fun x => [.int .i64 x.1, .int .i64 x.2]
theorem cellsL_at : ∀ (l : List (Int × Int)) (j : Nat), j < l.length → (cellsL l)[j * 2]? = some (.int .i64 (l.getD j (0, 0)).1) ∧ (cellsL l)[j * 2 + 1]? = some (.int .i64 (l.getD j (0, 0)).2)
  | [], j, hj => by simp at hj
  | x :: l, 0, _ => by simp [cellsL]
  | x :: l, j + 1, hj => by
    have := cellsL_at l j (by simpa using hj)
    have e : cellsL (x :: l) = [.int .i64 x.1, .int .i64 x.2] ++ cellsL l := by simp [cellsL]
    rw [e]
    have s : ∀ n, ([Value.int .i64 x.1, .int .i64 x.2] ++ cellsL l)[2 + n]? = (cellsL l)[n]? := fun n => by
      rw [List.getElem?_append_right (by simp)]; simp
    have g : (x :: l).getD (j + 1) (0, 0) = l.getD j (0, 0) := rfl
    rw [g]
    refine ⟨?_, ?_⟩
    · rw [show (j + 1) * 2 = 2 + j * 2 by omega, s]; exact this.1
    · rw [show (j + 1) * 2 + 1 = 2 + (j * 2 + 1) by omega, s]; exact this.2
/-- Leases that a call owns. -/
def OwnL (B : Nat) (w : World) (v : Value) (l : List (Int × Int)) : Prop := w.ownsRow B 141 2 v l.length (cellsL l)
theorem OwnL.leases {B : Nat} {w : World} {v : Value} {l : List (Int × Int)} (h : OwnL B w v l) : ∃ p c, v = .slice p l.length (c + l.length) ∧ LeasesAt w p l := by
  have ho' := h
  rcases h.2 with ⟨rfl, h0⟩ | ⟨g, cap, cur, rfl, h1, h2, h3⟩
  · exact ⟨Option.none, 0, by rw [h0], .inl (List.eq_nil_of_length_eq_zero h0)⟩
  · refine ⟨_, cap - l.length, by rw [Nat.sub_add_cancel h3.1], .inr ⟨g, 0, rfl, fun j hj => ?_⟩⟩
    obtain ⟨c0, c1⟩ := cellsL_at l j hj
    have hc := World.ownsRow.cells (g := g) ho' rfl
    have k0 := hc _ _ c0
    have k1 := hc _ _ c1
    rw [Codec.add_at] at k0 k1
    refine ⟨k0, ?_⟩
    rw [← Nat.add_assoc] at k1; exact k1
theorem OwnL.shape {B : Nat} {w : World} {v : Value} {l : List (Int × Int)} (h : OwnL B w v l) : ∃ p c, v = .slice p l.length c := by
  rcases h.2 with ⟨rfl, h0⟩ | ⟨g, cap, cur, rfl, h1, h2, h3⟩
  · exact ⟨Option.none, 0, by rw [h0]⟩
  · exact ⟨_, cap, rfl⟩
theorem OwnL.on {B : Nat} {w w' : World} {v : Value} {l : List (Int × Int)} (h : OwnL B w v l) (hb : Below w.heap.size w w') : OwnL B w' v l := own_below h hb
theorem push_lease {u : World} {ops : Array Oper} {rest : List Oper} {o : Oper} {a : Act} {Q : Exit → Act → World → Prop} (hgd : o.guard = none) (s y : Operand)
    (ho : o.op = .call { callee := .builtin .append, args := #[s, y], argTypes := #[78, 78] })
    (w0 wr : World) (v : Value) (hs : a.eval s = v) (l : List (Int × Int)) (n : Nat) (hn : l.length = n) (hown : OwnL w0.heap.size wr v l) (hbw : Below w0.heap.size w0 wr) (hu : Below wr.heap.size wr u)
    (g : Nat) (x1 x2 : Int) (hy : a.eval y = .slice (some ⟨g, 0, Option.none⟩) 1 1)
    (hg : (u.alloc (.cells #[.int .i64 x1, .int .i64 x2] 141)).heap[g]? = some (.cells #[.int .i64 x1, .int .i64 x2] 141 (0, 0))) (hlen : n ≤ 100000)
    (h : ∀ p c w', Hid (OwnL w0.heap.size w' (.slice p (n + 1) c) (l ++ [(x1, x2)])) → Below w0.heap.size w0 w' → wpList Tryz.prog ops Q rest (a.put o.dst (.slice p (n + 1) c)) w') : wpList Tryz.prog ops Q (o :: rest) a (u.alloc (.cells #[.int .i64 x1, .int .i64 x2] 141)) := by
  subst hn
  obtain ⟨i0, hi, hz0, hz1, hz2⟩ := info_parts infoL
  have hua : Below wr.heap.size wr (u.alloc (.cells #[.int .i64 x1, .int .i64 x2] 141)) := hu.alloc hu.size _
  refine wpList_append_own _ hgd s y 78 ho w0.heap.size 141 i0 (.agg #[.int .i64 0, .int .i64 0]) 2 16 Tryz.underlying78 hi hz0 hz1 hz2 rfl (by decide) v l.length (cellsL l) hs (own_below hown hua) ⟨g, 0, Option.none⟩ 1 1 [.int .i64 x1, .int .i64 x2] hy rfl (World.news_of_block hg) ?_ (by unfold maxLen; omega) (by omega) (Nat.le_trans hbw.size hua.size) ?_
  · intro z hz
    simp at hz
    rcases hz with rfl | rfl <;> rfl
  · intro v' w' ho2 hg2 _
    have hb2 := (hbw.trans (hua.mono hbw.size)).grown hg2 (Nat.le_trans hbw.size hua.size) (fun k hk => (World.ownsRow.lt hown k hk).1)
    have R : OwnL w0.heap.size w' v' (l ++ [(x1, x2)]) := by
      unfold OwnL
      have e : cellsL (l ++ [(x1, x2)]) = cellsL l ++ [.int .i64 x1, .int .i64 x2] := by simp [cellsL]
      rw [e, List.length_append]
      exact ho2
    obtain ⟨p, c, rfl⟩ : ∃ p c, v' = .slice p (l.length + 1) c := by
      rcases ho2.2 with ⟨_, h0⟩ | ⟨g, cap, cur, rfl, _⟩
      · omega
      · exact ⟨_, cap, rfl⟩
    exact h p c w' R hb2
/-! What is settled. -/
def amountOf (t : Tb) (key node : Int) : Int := ((findRow t key).out.getD (outAt (findRow t key).out node).toNat (0, 0)).2
def spentOf (a spent : Int) : Int := if spent < 0 ∨ a < spent then a else spent
def has (t : Tb) (key node : Int) : Bool := findIs t key && decide (0 ≤ outAt (findRow t key).out node)
/-- All but that one. -/
def butAt (l : List (Int × Int)) (i : Nat) : List (Int × Int) := l.eraseIdx i
def settled (r : Rw) (i : Nat) (back : Int) : Rw := ⟨r.key, add [r.avail, back], r.mark, butAt r.out i⟩
def settle (t : Tb) (key node spent : Int) : Tb × Int :=
  if has t key node = true then (setRow t (settled (findRow t key) (outAt (findRow t key).out node).toNat (amountOf t key node - spentOf (amountOf t key node) spent)), spentOf (amountOf t key node) spent) else (t, 0)
end Go.Proofs.YtbgdlokegibkmaaGreat.Ledger

namespace Go.Proofs.YtbgdlokegibkmaaGreat.Ledger
open Go.RowKit
open _root_.Go.Proofs.YtbgdlokegibkmaaGreat.Frame (Rw Tb noRow LeasesAt cell_on)
open _root_.Go.Proofs.YtbgdlokegibkmaaGreat.Codec (own_below own_lower lt_of_heap frozen_of heap_set)
open _root_.Go.Proofs.YtbgdlokegibkmaaGreat.Sat (fit add sub mul rtwo_any)
theorem own_none (B : Nat) (w : World) : OwnL B w (.slice none 0 0) [] := World.ownsRow_nil _ _ _ _
/-- The boxes of Settle and Grant: the table, the result, the row. -/
structure Bxs (w : World) (start : Int) (p : Option Addr) (n c : Nat) (b : Nat) (v1 v2 v3 v4 : Value) (u : World) : Prop where
  tab : u.heap[w.heap.size]? = some (.cells #[.int .i64 start, .slice p n (c + n)] 28 (0, 0))
  res : u.heap[w.heap.size + 1]? = some (.cells #[.int .i64 0, .slice none 0 0] 28 (0, 0))
  row : u.heap[b]? = some (.cells #[v1, v2, v3, v4] 80 (0, 0))
  below : Below w.heap.size w u
  ge : w.heap.size + 1 < b
section
variable {w u u' : World} {start : Int} {p : Option Addr} {n c b : Nat} {v1 v2 v3 v4 : Value}
theorem Bxs.out (h : Bxs w start p n c b v1 v2 v3 v4 u) (y1 y2 : Value) : Below w.heap.size w ((u.setCell ⟨w.heap.size + 1, 0, none⟩ y1).setCell ⟨w.heap.size + 1, 1, none⟩ y2) :=
  (h.below.setCell (by simp) _).setCell (by simp) _
end
/-- Where a table's box is turned, leases and rows lie on. -/
theorem leases_tab {w : World} {b o : Nat} {x : Int} {q : Option Addr} {m k : Nat} {y : Value} {p : Option Addr} {l : List (Int × Int)} (hb : w.heap[b]? = some (.cells #[.int .i64 x, .slice q m k] 28 (0, 0))) (h : LeasesAt w p l) : LeasesAt (w.setCell ⟨b, o, none⟩ y) p l := by
  rcases h with h | ⟨b', o', e, hc⟩
  · exact .inl h
  · by_cases hl : l = []
    · exact .inl hl
    · have hne : b' ≠ b := by
        rintro rfl
        have h1 := (hc 0 (List.length_pos_iff.2 hl)).2
        rw [cell_of_row w b' _ _ _ (0, 0) hb] at h1
        match o', h1 with
        | 0, h1 => simp at h1
        | n + 1, h1 => simp at h1
      refine .inr ⟨b', o', e, fun j hj => ?_⟩
      have he : ∀ i, (w.setCell ⟨b, o, none⟩ y).cell? ⟨b', i, none⟩ = w.cell? ⟨b', i, none⟩ := fun i => World.cell?_of_block (w := w) (Below.heap_setCell _ _ _ _ (by simpa using hne))
      rw [he, he]
      exact hc j hj
theorem rows_tab {w : World} {b o : Nat} {x : Int} {q : Option Addr} {m k : Nat} {y : Value} {p : Option Addr} {l : List Rw} (hb : w.heap[b]? = some (.cells #[.int .i64 x, .slice q m k] 28 (0, 0))) (h : RowsAt w p l) : RowsAt (w.setCell ⟨b, o, none⟩ y) p l := by
  rcases h with h | ⟨b', o', e, hc⟩
  · exact .inl h
  · by_cases hl : l = []
    · exact .inl hl
    · have hne : b' ≠ b := by
        rintro rfl
        have h1 := (hc 0 (List.length_pos_iff.2 hl)).2.2.1
        rw [cell_of_row w b' _ _ _ (0, 0) hb] at h1
        match o', h1 with
        | n, h1 => simp at h1
      refine .inr ⟨b', o', e, fun j hj => ?_⟩
      have he : ∀ i, (w.setCell ⟨b, o, none⟩ y).cell? ⟨b', i, none⟩ = w.cell? ⟨b', i, none⟩ := fun i => World.cell?_of_block (w := w) (Below.heap_setCell _ _ _ _ (by simpa using hne))
      obtain ⟨h0, h1, h2, pl, cl, h3, h4⟩ := hc j hj
      exact ⟨by rw [he]; exact h0, by rw [he]; exact h1, by rw [he]; exact h2, pl, cl, by rw [he]; exact h3, leases_tab hb h4⟩
end Go.Proofs.YtbgdlokegibkmaaGreat.Ledger

namespace Go.Proofs.YtbgdlokegibkmaaGreat.Ledger
open Go.RowKit
open _root_.Go.Proofs.YtbgdlokegibkmaaGreat.Frame (Rw Tb noRow LeasesAt cell_on)
open _root_.Go.Proofs.YtbgdlokegibkmaaGreat.Codec (own_below own_lower lt_of_heap frozen_of heap_set)
open _root_.Go.Proofs.YtbgdlokegibkmaaGreat.Sat (fit add sub mul rtwo_any)
/-- A configuration. -/
structure Cf where
  n : Int
  skew : Int
  ttl : Int
  valid : Int
  loss : Int
  hear : Int
  keys : Int
  queue : Int
  rates : List (Int × Int)
def cfVal (f : Cf) (p : Option Addr) (c : Nat) : Value := .agg #[.int .i64 f.n, .int .i64 f.skew, .int .i64 f.ttl, .int .i64 f.valid, .int .i64 f.loss, .int .i64 f.hear, .int .i64 f.keys, .int .i64 f.queue, .slice p f.rates.length c]
/-- Rates lie like leases: two numbers each. -/
abbrev RatesAt (w : World) (p : Option Addr) (l : List (Int × Int)) : Prop := LeasesAt w p l
/-- Which rate a key has; -1: none. -/
def rateAt (l : List (Int × Int)) (key : Int) : Int := if 0 ≤ key ∧ key < 524288 ∧ key / 65536 < (l.length : Int) then key / 65536 else -1
/-- Is a row idle? -/
def idle (start : Int) (r : Rw) (now : Int) (f : Cf) : Bool :=
  decide (0 ≤ rateAt f.rates r.key) && decide (r.mark ≤ sub now (add [f.skew, f.skew])) && decide (r.out.length = 0) && decide (r.avail = (f.rates.getD (rateAt f.rates r.key).toNat (0, 0)).2) &&
    decide ((f.rates.getD (rateAt f.rates r.key).toNat (0, 0)).2 ≤ mul (f.rates.getD (rateAt f.rates r.key).toNat (0, 0)).1 (sub r.mark start))
theorem rateAt_lt (l : List (Int × Int)) (key : Int) (h : 0 ≤ rateAt l key) : ∃ k : Nat, rateAt l key = (k : Int) ∧ k < l.length := by
  unfold rateAt at h ⊢
  split at h
  · rename_i h2
    rw [if_pos h2]
    exact ⟨(key / 65536).toNat, by omega, by omega⟩
  · omega
theorem nine_cells {w : World} {b : Nat} {v0 v1 v2 v3 v4 v5 v6 v7 v8 : Value} {T : TypeId} (h : w.heap[b]? = some (.cells #[v0, v1, v2, v3, v4, v5, v6, v7, v8] T (0, 0))) :
    w.cell? ⟨b, 0, Option.none⟩ = some v0 ∧ w.cell? ⟨b, 1, Option.none⟩ = some v1 ∧ w.cell? ⟨b, 2, Option.none⟩ = some v2 ∧ w.cell? ⟨b, 3, Option.none⟩ = some v3 ∧ w.cell? ⟨b, 4, Option.none⟩ = some v4 ∧ w.cell? ⟨b, 5, Option.none⟩ = some v5 ∧ w.cell? ⟨b, 6, Option.none⟩ = some v6 ∧ w.cell? ⟨b, 7, Option.none⟩ = some v7 ∧ w.cell? ⟨b, 8, Option.none⟩ = some v8 :=
  ⟨by rw [cell_of_row w b 0 _ _ (0, 0) h]; rfl, by rw [cell_of_row w b 1 _ _ (0, 0) h]; rfl, by rw [cell_of_row w b 2 _ _ (0, 0) h]; rfl, by rw [cell_of_row w b 3 _ _ (0, 0) h]; rfl, by rw [cell_of_row w b 4 _ _ (0, 0) h]; rfl, by rw [cell_of_row w b 5 _ _ (0, 0) h]; rfl, by rw [cell_of_row w b 6 _ _ (0, 0) h]; rfl, by rw [cell_of_row w b 7 _ _ (0, 0) h]; rfl, by rw [cell_of_row w b 8 _ _ (0, 0) h]; rfl⟩
end Go.Proofs.YtbgdlokegibkmaaGreat.Ledger

namespace Go.Proofs.YtbgdlokegibkmaaGreat.Ledger
open Go.RowKit
open _root_.Go.Proofs.YtbgdlokegibkmaaGreat.Frame (Rw Tb noRow LeasesAt cell_on)
open _root_.Go.Proofs.YtbgdlokegibkmaaGreat.Codec (own_below own_lower lt_of_heap frozen_of heap_set)
def sweepOf (start now : Int) (f : Cf) (l : List Rw) : List Rw := l.filter fun r => !idle start r now f
def sweep (t : Tb) (now : Int) (f : Cf) : Tb := ⟨t.start, sweepOf t.start now f t.rows⟩
theorem sweepOf_len (start now : Int) (f : Cf) (l : List Rw) (j : Nat) : (sweepOf start now f (l.take j)).length ≤ l.length := by
  have h1 : (sweepOf start now f (l.take j)).length ≤ (l.take j).length := List.length_filter_le _ _
  have h2 : (l.take j).length ≤ l.length := by simp; omega
  omega
end Go.Proofs.YtbgdlokegibkmaaGreat.Ledger

namespace Go.Proofs.YtbgdlokegibkmaaGreat.Ledger
open Go.RowKit
open _root_.Go.Proofs.YtbgdlokegibkmaaGreat.Frame (Rw Tb noRow LeasesAt cell_on)
open _root_.Go.Proofs.YtbgdlokegibkmaaGreat.Codec (own_below own_lower lt_of_heap frozen_of heap_set)
open _root_.Go.Proofs.YtbgdlokegibkmaaGreat.Sat (fit add sub mul)
/-- What is minted, and the error. -/
def rateOf (f : Cf) (key : Int) : Int × Int := f.rates.getD (rateAt f.rates key).toNat (0, 0)
def mint (t : Tb) (key now : Int) (f : Cf) : Tb × Int :=
  if rateAt f.rates key < 0 then (t, 4)
  else if 0 ≤ place t.rows key ∨ (t.rows.length : Int) < f.keys then (setRow t (look t key now (rateOf f key).1 (rateOf f key).2), 0)
  else if f.keys ≤ ((sweep t now f).rows.length : Int) then (t, 3)
  else (setRow (sweep t now f) (look (sweep t now f) key now (rateOf f key).1 (rateOf f key).2), 0)
theorem sweep_len (t : Tb) (now : Int) (f : Cf) : (sweep t now f).rows.length ≤ t.rows.length := by
  have := sweepOf_len t.start now f t.rows t.rows.length
  rwa [List.take_length] at this
theorem sweep_mem {t : Tb} {now : Int} {f : Cf} {r : Rw} (h : r ∈ (sweep t now f).rows) : r ∈ t.rows := by
  simp only [sweep, sweepOf, List.mem_filter] at h
  exact h.1
/-- The boxes of Mint. -/
structure MBx (w : World) (start : Int) (p : Option Addr) (nr c : Nat) (vs : Array Value) (u : World) : Prop where
  tab : u.heap[w.heap.size]? = some (.cells #[.int .i64 start, .slice p nr (c + nr)] 28 (0, 0))
  conf : u.heap[w.heap.size + 1]? = some (.cells vs 24 (0, 0))
  res : u.heap[w.heap.size + 1 + 1]? = some (.cells #[.int .i64 0, .slice none 0 0] 28 (0, 0))
  below : Below w.heap.size w u
theorem MBx.on {w u u' : World} {start : Int} {p : Option Addr} {nr c : Nat} {vs : Array Value} (h : MBx w start p nr c vs u) (hb : Below u.heap.size u u') : MBx w start p nr c vs u' :=
  ⟨(hb.block _ (lt_of_heap h.tab)).trans h.tab, (hb.block _ (lt_of_heap h.conf)).trans h.conf, (hb.block _ (lt_of_heap h.res)).trans h.res, h.below.trans (hb.mono h.below.size)⟩
theorem MBx.out {w u : World} {start : Int} {p : Option Addr} {nr c : Nat} {vs : Array Value} (h : MBx w start p nr c vs u) (y1 y2 : Value) : Below w.heap.size w ((u.setCell ⟨w.heap.size + 1 + 1, 0, none⟩ y1).setCell ⟨w.heap.size + 1 + 1, 1, none⟩ y2) :=
  (h.below.setCell (by simp; omega) _).setCell (by simp; omega) _
theorem MBx.size {w u : World} {start : Int} {p : Option Addr} {nr c : Nat} {vs : Array Value} (h : MBx w start p nr c vs u) : w.heap.size + 3 ≤ u.heap.size := lt_of_heap h.res
/-- With the box of x. -/
structure MBy (w : World) (start : Int) (p : Option Addr) (nr c : Nat) (vs : Array Value) (g : Nat) (v1 v2 : Value) (u : World) : Prop where
  all : MBx w start p nr c vs u
  x : u.heap[g]? = some (.cells #[v1, v2] 28 (0, 0))
  far : w.heap.size + 3 ≤ g
theorem MBy.new {w u : World} {start : Int} {p : Option Addr} {nr c : Nat} {vs : Array Value} (h : MBx w start p nr c vs u) (v1 v2 : Value) : MBy w start p nr c vs u.heap.size v1 v2 (u.alloc (.cells #[v1, v2] 28)) :=
  ⟨h.on ((Below.refl _ _).alloc (Nat.le_refl _) _), heap_alloc_new _ _, h.size⟩
end Go.Proofs.YtbgdlokegibkmaaGreat.Ledger

namespace Go.Proofs.YtbgdlokegibkmaaGreat.Ledger
open Go.RowKit
open _root_.Go.Proofs.YtbgdlokegibkmaaGreat.Frame (Rw Tb noRow LeasesAt cell_on)
open _root_.Go.Proofs.YtbgdlokegibkmaaGreat.Codec (lt_of_heap frozen_of heap_set)
/-- What lies: boxes (a block's number, its cells, its type), rows, leases. -/
structure Mem (w : World) (bs : List (Nat × Array Value × TypeId)) (rs : List (Option Addr × List Rw)) (ls : List (Option Addr × List (Int × Int))) (u : World) : Prop where
  boxes : ∀ (i : Nat) (g : Nat) (vs : Array Value) (T : TypeId), bs[i]? = some (g, vs, T) → u.heap[g]? = some (.cells vs T (0, 0))
  rows : ∀ (i : Nat) (p : Option Addr) (l : List Rw), rs[i]? = some (p, l) → RowsAt u p l
  leases : ∀ (i : Nat) (p : Option Addr) (l : List (Int × Int)), ls[i]? = some (p, l) → LeasesAt u p l
  below : Below w.heap.size w u
section
variable {w u u' : World} {bs : List (Nat × Array Value × TypeId)} {rs : List (Option Addr × List Rw)} {ls : List (Option Addr × List (Int × Int))}
theorem Mem.start (w : World) : Mem w [] [] [] w := ⟨fun i g vs T h => by simp at h, fun i p l h => by simp at h, fun i p l h => by simp at h, Below.refl _ _⟩
theorem Mem.on (h : Mem w bs rs ls u) (hb : Below u.heap.size u u') : Mem w bs rs ls u' :=
  ⟨fun i g vs T e => (hb.block _ (lt_of_heap (h.boxes i g vs T e))).trans (h.boxes i g vs T e), fun i p l e => (h.rows i p l e).below hb, fun i p l e => (h.leases i p l e).below hb, h.below.trans (hb.mono h.below.size)⟩
theorem Mem.drew (h : Mem w bs rs ls u) : Mem w bs rs ls u.drew := h.on (Below.refl _ _).drew
theorem Mem.box (h : Mem w bs rs ls u) (vs : Array Value) (T : TypeId) : Mem w ((u.heap.size, vs, T) :: bs) rs ls (u.alloc (.cells vs T)) := by
  have h' := h.on ((Below.refl _ _).alloc (Nat.le_refl _) (.cells vs T))
  refine ⟨fun i g vs' T' e => ?_, h'.rows, h'.leases, h'.below⟩
  cases i with
  | zero =>
    simp only [List.getElem?_cons_zero, Option.some.injEq, Prod.mk.injEq] at e
    obtain ⟨rfl, rfl, rfl⟩ := e
    exact heap_alloc_new _ _
  | succ i => exact h'.boxes i g vs' T' (by simpa using e)
theorem Mem.addRows (h : Mem w bs rs ls u) {p : Option Addr} {l : List Rw} (hr : RowsAt u p l) : Mem w bs ((p, l) :: rs) ls u := by
  refine ⟨h.boxes, fun i p' l' e => ?_, h.leases, h.below⟩
  cases i with
  | zero =>
    simp only [List.getElem?_cons_zero, Option.some.injEq, Prod.mk.injEq] at e
    obtain ⟨rfl, rfl⟩ := e
    exact hr
  | succ i => exact h.rows i p' l' (by simpa using e)
theorem Mem.addLeases (h : Mem w bs rs ls u) {p : Option Addr} {l : List (Int × Int)} (hr : LeasesAt u p l) : Mem w bs rs ((p, l) :: ls) u := by
  refine ⟨h.boxes, h.rows, fun i p' l' e => ?_, h.below⟩
  cases i with
  | zero =>
    simp only [List.getElem?_cons_zero, Option.some.injEq, Prod.mk.injEq] at e
    obtain ⟨rfl, rfl⟩ := e
    exact hr
  | succ i => exact h.leases i p' l' (by simpa using e)
end
theorem size_alloc (u : World) (o : Obj) : (u.alloc o).heap.size = u.heap.size + 1 := by simp
/-- The cells of boxes. -/
theorem box2 {w : World} {b : Nat} {v0 v1 : Value} {T : TypeId} (h : w.heap[b]? = some (.cells #[v0, v1] T (0, 0))) : w.cell? ⟨b, 0, none⟩ = some v0 ∧ w.cell? ⟨b, 1, none⟩ = some v1 ∧ ∀ o, w.frozen? ⟨b, o, none⟩ = false :=
  ⟨by rw [cell_of_row w b 0 _ _ (0, 0) h]; rfl, by rw [cell_of_row w b 1 _ _ (0, 0) h]; rfl, fun _ => frozen_of h⟩
theorem box4 {w : World} {b : Nat} {v0 v1 v2 v3 : Value} {T : TypeId} (h : w.heap[b]? = some (.cells #[v0, v1, v2, v3] T (0, 0))) : w.cell? ⟨b, 0, none⟩ = some v0 ∧ w.cell? ⟨b, 1, none⟩ = some v1 ∧ w.cell? ⟨b, 2, none⟩ = some v2 ∧ w.cell? ⟨b, 3, none⟩ = some v3 ∧ ∀ o, w.frozen? ⟨b, o, none⟩ = false :=
  ⟨by rw [cell_of_row w b 0 _ _ (0, 0) h]; rfl, by rw [cell_of_row w b 1 _ _ (0, 0) h]; rfl, by rw [cell_of_row w b 2 _ _ (0, 0) h]; rfl, by rw [cell_of_row w b 3 _ _ (0, 0) h]; rfl, fun _ => frozen_of h⟩
end Go.Proofs.YtbgdlokegibkmaaGreat.Ledger

namespace Go.Proofs.YtbgdlokegibkmaaGreat.Ledger
open Go.RowKit
open _root_.Go.Proofs.YtbgdlokegibkmaaGreat.Frame (Rw Tb noRow LeasesAt cell_on)
open _root_.Go.Proofs.YtbgdlokegibkmaaGreat.Codec (own_below own_lower lt_of_heap frozen_of heap_set)
/-- What a node holds. -/
def heldOf (node : Int) (l : List Rw) : List Int := (l.filter fun r => decide (0 ≤ outAt r.out node)).map (·.key)
def held (t : Tb) (node : Int) : List Int := heldOf node t.rows
theorem heldOf_take (node : Int) (l : List Rw) (j : Nat) (h : j < l.length) : heldOf node (l.take (j + 1)) = heldOf node (l.take j) ++ (if 0 ≤ outAt (l.getD j noRow).out node then [(l.getD j noRow).key] else []) := by
  have e : l.getD j noRow = l[j] := by simp [List.getD, h]
  rw [e, heldOf, List.take_succ_eq_append_getElem h, List.filter_append, List.map_append]
  by_cases h2 : 0 ≤ outAt l[j].out node
  · rw [if_pos h2]; simp [heldOf, h2]
  · rw [if_neg h2]; simp [heldOf, h2]
theorem heldOf_len (node : Int) (l : List Rw) (j : Nat) : (heldOf node (l.take j)).length ≤ l.length := by
  have h1 : (heldOf node (l.take j)).length ≤ (l.take j).length := by
    unfold heldOf
    rw [List.length_map]
    exact List.length_filter_le _ _
  have h2 : (l.take j).length ≤ l.length := by simp; omega
  omega
end Go.Proofs.YtbgdlokegibkmaaGreat.Ledger

namespace Go.Proofs.YtbgdlokegibkmaaGreat.Frame
open Go.RowKit Codec
def fitsTk (t : Tk) : Bool := decide (t.stamps.length ≤ 100 ∧ t.table.rows.length ≤ 100) && allTo (fun i => decide ((t.table.rows.getD i noRow).out.length ≤ 100)) t.table.rows.length
set_option maxRecDepth 100000 in
set_option maxHeartbeats 1000000 in
theorem fits_token (t : Tk) (ps p : Option Addr) (cs c : Nat) (w : World) (hn : (t.stamps.length : Int) ≤ 9223372036854775807) (hm : (t.table.rows.length : Int) ≤ 9223372036854775807) (hl : RowsAt w p t.table.rows) :
    Calls Tryz.prog 29 #[.agg #[.int .i64 t.gen, .int .i64 t.hop, .slice ps t.stamps.length cs, .int .i64 t.table.start, .slice p t.table.rows.length c]] w (Asked w (fitsTk t)) := by
  obtain ⟨gen, hop, st, start, rows⟩ := t
  simp only at hn hm hl ⊢
  unfold fitsTk
  simp only
  by_cases h1 : st.length ≤ 100
  · by_cases h2 : rows.length ≤ 100
    · rw [decide_eq_true (And.intro h1 h2), Bool.true_and]
      generalize hB : allTo (fun i => decide ((rows.getD i noRow).out.length ≤ 100)) rows.length = R
      have HB := Lib.hid hB
      have HL := Lib.hid hl
      clear hB hl
      have h1' : (st.length : Int) ≤ 100 := by omega
      have h2' : (rows.length : Int) ≤ 100 := by omega
      clear h1 h2
      go_enter Tryz.func29, Tryz.ntmps29
      go_wp2
      generalize hw0 : w.alloc (.cells #[.int .i64 gen, .int .i64 hop, .slice ps st.length cs, .int .i64 start, .slice p rows.length c] 30) = w0
      have b0 : Below w.heap.size w w0 := by rw [← hw0]; exact (Below.refl _ _).alloc (Nat.le_refl _) _
      have k4 : w0.cell? ⟨w.heap.size, 4, none⟩ = some (.slice p rows.length c) := by
        rw [← hw0, cell_of_row _ _ 4 _ _ (0, 0) (heap_alloc_new w _)]; rfl
      clear hw0
      go_loop [3] (fun i => ∃ j : Nat, j ≤ rows.length ∧ i = .int .i64 (j : Int) ∧ Hid (∀ q, q < j → decide ((rows.getD q noRow).out.length ≤ 100) = true)) (fun i => rows.length - (intOf i).toNat)
      case atStart => exact ⟨0, by omega, rfl, (by intro q hq; omega)⟩
      case round =>
        obtain ⟨j, hj, rfl, hok⟩ := hrel
        by_cases hlt : j < rows.length
        · obtain ⟨g, o, rfl, hc⟩ : ∃ g o, p = some ⟨g, o, none⟩ ∧ ∀ j, j < rows.length → RowAt w0 g (o + j * 4) (rows.getD j noRow) := by
            rcases HL.out.below b0 with h | h
            · rw [h] at hlt; simp at hlt
            · exact h
          obtain ⟨-, -, -, p3, c3, d3, -⟩ := hc j hlt
          have HJ := Lib.hid (show ((rows.getD j noRow).out.length ≤ 100 → ∀ q, q < j + 1 → decide ((rows.getD q noRow).out.length ≤ 100) = true) ∧ (100 < (rows.getD j noRow).out.length → R = false) from
            ⟨fun h q hq => by
              rcases Nat.lt_succ_iff_lt_or_eq.1 hq with h1 | h1
              · exact hok.out q h1
              · rw [h1]; exact decide_eq_true h, fun h => by rw [← HB.out]; exact allTo_false hlt (decide_eq_false (by omega))⟩)
          generalize (rows.getD j noRow).out.length = n at d3 HJ
          clear hc
          have hlt' : (j : Int) < (rows.length : Int) := by omega
          by_cases hz : n ≤ 100
          · have HK := Lib.hid (HJ.out.1 hz)
            have hz' : (n : Int) ≤ 100 := by omega
            clear HJ hz
            go_wp2
            go_round
            case rel => exact ⟨j + 1, by omega, by go_num, HK⟩
            case measure => simp [intOf]; omega
          · obtain rfl := HJ.out.2 (by omega)
            have hz' : 100 < (n : Int) := by omega
            clear HJ hz
            go_wp2
            go_ret
            exact ⟨rfl, b0⟩
        · obtain rfl : j = rows.length := by omega
          obtain rfl : R = true := by rw [← HB.out]; exact allTo_true hok.out
          go_wp2
          go_ret
          exact ⟨rfl, b0⟩
    · rw [decide_eq_false (fun h => h2 h.2), Bool.false_and]
      have h1' : (st.length : Int) ≤ 100 := by omega
      have h2' : 100 < (rows.length : Int) := by omega
      clear h1 h2 hl
      go_enter Tryz.func29, Tryz.ntmps29
      go_wp2
      go_ret
      exact ⟨rfl, (Below.refl _ _).alloc (Nat.le_refl _) _⟩
  · rw [decide_eq_false (fun h => h1 h.1), Bool.false_and]
    have h1' : 100 < (st.length : Int) := by omega
    clear h1 hl
    go_enter Tryz.func29, Tryz.ntmps29
    go_wp2
    go_ret
    exact ⟨rfl, (Below.refl _ _).alloc (Nat.le_refl _) _⟩
end Go.Proofs.YtbgdlokegibkmaaGreat.Frame

namespace Go.Proofs.YtbgdlokegibkmaaGreat.Queue2
open _root_.Go.Proofs.YtbgdlokegibkmaaGreat.Queue
variable {ov : Nat}
open Go.RowKit
open _root_.Go.Proofs.YtbgdlokegibkmaaGreat.Codec (lt_of_heap frozen_of heap_set)
open _root_.Go.Proofs.YtbgdlokegibkmaaGreat.Kit (Enc Lies Own At Kept Laid cell_on lt_heap take_snoc below_drewN box5 ints)
theorem at1 {w : World} {b o : Nat} {x : Int} (h : At ints w b o x) : w.cell? ⟨b, o, none⟩ = some (.int .i64 x) := h 0 _ rfl
end Go.Proofs.YtbgdlokegibkmaaGreat.Queue2

namespace Go.Proofs.YtbgdlokegibkmaaGreat.Demand
open Go.RowKit
open _root_.Go.Proofs.YtbgdlokegibkmaaGreat.Codec (lt_of_heap frozen_of heap_set own_below)
open _root_.Go.Proofs.YtbgdlokegibkmaaGreat.Kit (Enc Lies Own At Kept Laid Off cell_on lt_heap take_snoc below_drewN ints)
/-- The document's blocks. -/
abbrev mine : List TypeId := [95, 244]
abbrev Pw := Nat → World → Nat → List Nt → Prop
/-- The program's estimates move. -/
structure Moved (PW : Pw) (B : Nat) (w : World) (q : Nat) (l : List Nt) (w' : World) : Prop where
  pw : PW B w' q l
  off : Off mine w w'
  below : Below B w w'
theorem lay (w : World) (o : Obj) : Below w.heap.size w (w.alloc o) := (Below.refl _ w).alloc (Nat.le_refl _) o
def n1 : List Nt := [] ++ [⟨3, 9⟩]
def n2 : List Nt := n1 ++ [⟨3, 2⟩]
end Go.Proofs.YtbgdlokegibkmaaGreat.Demand

namespace Go.Proofs.YtbgdlokegibkmaaGreat.Token
open Go.RowKit
open _root_.Go.Proofs.YtbgdlokegibkmaaGreat.Frame (Rw Tb noRow LeasesAt RowAt RowsAt cell_on allTo_true)
open _root_.Go.Proofs.YtbgdlokegibkmaaGreat.Codec (lt_of_heap frozen_of heap_set)
def Num (x : Int) : Prop := -9223372036854775808 ≤ x ∧ x ≤ 9223372036854775807
/-- What lies: boxes (a block's number, its cells, its type), rows, leases. -/
structure Mem (w : World) (bs : List (Nat × Array Value × TypeId)) (rs : List (Option Addr × List Rw)) (ls : List (Option Addr × List (Int × Int))) (u : World) : Prop where
  boxes : ∀ (i : Nat) (g : Nat) (vs : Array Value) (T : TypeId), bs[i]? = some (g, vs, T) → u.heap[g]? = some (.cells vs T (0, 0))
  rows : ∀ (i : Nat) (p : Option Addr) (l : List Rw), rs[i]? = some (p, l) → RowsAt u p l
  leases : ∀ (i : Nat) (p : Option Addr) (l : List (Int × Int)), ls[i]? = some (p, l) → LeasesAt u p l
  below : Below w.heap.size w u
section
variable {w u u' : World} {bs : List (Nat × Array Value × TypeId)} {rs : List (Option Addr × List Rw)} {ls : List (Option Addr × List (Int × Int))}
theorem Mem.start (w : World) : Mem w [] [] [] w := ⟨fun i g vs T h => by simp at h, fun i p l h => by simp at h, fun i p l h => by simp at h, Below.refl _ _⟩
theorem Mem.on (h : Mem w bs rs ls u) (hb : Below u.heap.size u u') : Mem w bs rs ls u' :=
  ⟨fun i g vs T e => (hb.block _ (lt_of_heap (h.boxes i g vs T e))).trans (h.boxes i g vs T e), fun i p l e => (h.rows i p l e).below hb, fun i p l e => (h.leases i p l e).below hb, h.below.trans (hb.mono h.below.size)⟩
theorem Mem.drew (h : Mem w bs rs ls u) : Mem w bs rs ls u.drew := h.on (Below.refl _ _).drew
theorem Mem.box (h : Mem w bs rs ls u) (vs : Array Value) (T : TypeId) : Mem w ((u.heap.size, vs, T) :: bs) rs ls (u.alloc (.cells vs T)) := by
  have h' := h.on ((Below.refl _ _).alloc (Nat.le_refl _) (.cells vs T))
  refine ⟨fun i g vs' T' e => ?_, h'.rows, h'.leases, h'.below⟩
  cases i with
  | zero =>
    simp only [List.getElem?_cons_zero, Option.some.injEq, Prod.mk.injEq] at e
    obtain ⟨rfl, rfl, rfl⟩ := e
    exact heap_alloc_new _ _
  | succ i => exact h'.boxes i g vs' T' (by simpa using e)
end
theorem size_alloc (u : World) (o : Obj) : (u.alloc o).heap.size = u.heap.size + 1 := by simp
theorem box5 {w : World} {b : Nat} {v0 v1 v2 v3 v4 : Value} {T : TypeId} (h : w.heap[b]? = some (.cells #[v0, v1, v2, v3, v4] T (0, 0))) : w.cell? ⟨b, 0, none⟩ = some v0 ∧ w.cell? ⟨b, 1, none⟩ = some v1 ∧ w.cell? ⟨b, 2, none⟩ = some v2 ∧ w.cell? ⟨b, 3, none⟩ = some v3 ∧ w.cell? ⟨b, 4, none⟩ = some v4 :=
  ⟨by rw [cell_of_row w b 0 _ _ (0, 0) h]; rfl, by rw [cell_of_row w b 1 _ _ (0, 0) h]; rfl, by rw [cell_of_row w b 2 _ _ (0, 0) h]; rfl, by rw [cell_of_row w b 3 _ _ (0, 0) h]; rfl, by rw [cell_of_row w b 4 _ _ (0, 0) h]; rfl⟩
def cellsI (l : List Int) : List Value := l.map (Value.int .i64)
/-- Ints that a call owns. -/
def OwnI (B : Nat) (w : World) (v : Value) (l : List Int) : Prop := w.ownsRow B 3 1 v l.length (cellsI l)
theorem own_heap {B : Nat} {u : World} {v : Value} {l : List Int} (h : OwnI B u v l) {b : Nat} (hb : v.ownBlock = some b) : ∃ cur, u.heap[b]? = some (.cells cur 3 (0, 0)) := by
  rcases h.2 with ⟨rfl, -⟩ | ⟨g, cap, cur, rfl, h1, h2, -⟩
  · simp [Value.ownBlock] at hb
  · simp only [Value.ownBlock, Option.some.injEq] at hb
    subst hb
    exact ⟨cur, h2⟩
theorem own_keep {B : Nat} {u u' : World} {v : Value} {l : List Int} (h : OwnI B u v l) (hk : ∀ b, v.ownBlock = some b → u'.heap[b]? = u.heap[b]?) : OwnI B u' v l := by
  refine ⟨h.1, ?_⟩
  rcases h.2 with h0 | ⟨g, cap, cur, rfl, h1, h2, h3⟩
  · exact .inl h0
  · exact .inr ⟨g, cap, cur, rfl, h1, (hk g rfl).trans h2, h3⟩
end Go.Proofs.YtbgdlokegibkmaaGreat.Token

namespace Go.Proofs.YtbgdlokegibkmaaGreat.Token
open Go.RowKit
open _root_.Go.Proofs.YtbgdlokegibkmaaGreat.Frame (Rw Tb Tk noRow LeasesAt RowAt RowsAt cell_on Asked tokenOk)
open _root_.Go.Proofs.YtbgdlokegibkmaaGreat.Codec (Ints lt_of_heap frozen_of heap_set)
def tokVal (t : Tk) (ps : Option Addr) (cs : Nat) (p : Option Addr) (c : Nat) : Value := .agg #[.int .i64 t.gen, .int .i64 t.hop, .slice ps t.stamps.length cs, .int .i64 t.table.start, .slice p t.table.rows.length c]
end Go.Proofs.YtbgdlokegibkmaaGreat.Token

namespace Go.Proofs.YtbgdlokegibkmaaGreat.Token
open Go.RowKit
open _root_.Go.Proofs.YtbgdlokegibkmaaGreat.Frame (Rw Tb Tk noRow LeasesAt RowAt RowsAt cell_on Asked tokenOk)
open _root_.Go.Proofs.YtbgdlokegibkmaaGreat.Codec (Ints lt_of_heap frozen_of heap_set)
theorem box5f {w : World} {b : Nat} {v0 v1 v2 v3 v4 : Value} {T : TypeId} (h : w.heap[b]? = some (.cells #[v0, v1, v2, v3, v4] T (0, 0))) : w.cell? ⟨b, 0, none⟩ = some v0 ∧ w.cell? ⟨b, 1, none⟩ = some v1 ∧ w.cell? ⟨b, 2, none⟩ = some v2 ∧ w.cell? ⟨b, 3, none⟩ = some v3 ∧ w.cell? ⟨b, 4, none⟩ = some v4 ∧ ∀ o, w.frozen? ⟨b, o, none⟩ = false := by
  obtain ⟨h0, h1, h2, h3, h4⟩ := box5 h
  exact ⟨h0, h1, h2, h3, h4, fun _ => frozen_of h⟩
/-- What lies while stamps are laid. -/
structure Fst (w : World) (gen now : Int) (v : Value) (l : List Int) (u : World) : Prop where
  own : OwnI w.heap.size u v l
  res : u.heap[w.heap.size]? = some (.cells #[.int .i64 0, .int .i64 0, .slice none 0 0, .int .i64 0, .slice none 0 0] 30 (0, 0))
  box : u.heap[w.heap.size + 1]? = some (.cells #[.int .i64 gen, .int .i64 0, v, .int .i64 now, .slice none 0 0] 30 (0, 0))
  below : Below w.heap.size w u
theorem token_int : (30 : TypeId) ≠ 3 := by decide
/-- The result is set. -/
theorem Fst.out {w u : World} {gen now : Int} {v : Value} {l : List Int} (h : Fst w gen now v l u) (y0 y1 y2 y3 y4 : Value) : OwnI w.heap.size (((((u.setCell ⟨w.heap.size, 0, none⟩ y0).setCell ⟨w.heap.size, 1, none⟩ y1).setCell ⟨w.heap.size, 2, none⟩ y2).setCell ⟨w.heap.size, 3, none⟩ y3).setCell ⟨w.heap.size, 4, none⟩ y4) v l ∧ Below w.heap.size w (((((u.setCell ⟨w.heap.size, 0, none⟩ y0).setCell ⟨w.heap.size, 1, none⟩ y1).setCell ⟨w.heap.size, 2, none⟩ y2).setCell ⟨w.heap.size, 3, none⟩ y3).setCell ⟨w.heap.size, 4, none⟩ y4) := by
  refine ⟨own_keep h.own fun b e => ?_, ((((h.below.setCell (Nat.le_refl _) _).setCell (Nat.le_refl _) _).setCell (Nat.le_refl _) _).setCell (Nat.le_refl _) _).setCell (Nat.le_refl _) _⟩
  have hne : b ≠ w.heap.size := by
    rintro rfl
    obtain ⟨cur, hc⟩ := own_heap h.own e
    rw [h.res] at hc
    simp only [Option.some.injEq, Obj.cells.injEq] at hc
    exact token_int hc.2.1
  exact (Below.heap_setCell _ _ _ _ hne).trans ((Below.heap_setCell _ _ _ _ hne).trans ((Below.heap_setCell _ _ _ _ hne).trans ((Below.heap_setCell _ _ _ _ hne).trans (Below.heap_setCell _ _ _ _ hne))))
end Go.Proofs.YtbgdlokegibkmaaGreat.Token

namespace Go.Proofs.YtbgdlokegibkmaaGreat.Frame
open Go.RowKit Codec
theorem within_any (x lo hi : Int) (w : World) : Calls Tryz.prog 142 #[.int .i64 x, .int .i64 lo, .int .i64 hi] w fun e w' => e = .returned (.bool (isIn x lo hi)) ∧ w = w' := by
  cases h : isIn x lo hi with
  | true =>
    obtain ⟨h0, h1⟩ := isIn_yes h
    clear h
    go_enter Tryz.func142, Tryz.ntmps142
    go_wp2
    go_ret
    exact ⟨rfl, rfl⟩
  | false =>
    rcases isIn_no h with h0 | ⟨h0, h1⟩
    · have h2 : decide (lo ≤ x) = false := by simp; omega
      clear h h0
      go_enter Tryz.func142, Tryz.ntmps142
      go_wp2
      go_ret
      exact ⟨rfl, rfl⟩
    · have h2 : decide (x ≤ hi) = false := by simp; omega
      clear h h1
      go_enter Tryz.func142, Tryz.ntmps142
      go_wp2
      go_ret
      exact ⟨rfl, rfl⟩
theorem cwithin_any (x lo hi : Int) (w : World) : Calls Tryz.prog 133 #[.int .i64 x, .int .i64 lo, .int .i64 hi] w fun e w' => e = .returned (.bool (isIn x lo hi)) ∧ w = w' := by
  cases h : isIn x lo hi with
  | true =>
    obtain ⟨h0, h1⟩ := isIn_yes h
    clear h
    go_enter Tryz.func133, Tryz.ntmps133
    go_wp2
    go_ret
    exact ⟨rfl, rfl⟩
  | false =>
    rcases isIn_no h with h0 | ⟨h0, h1⟩
    · have h2 : decide (lo ≤ x) = false := by simp; omega
      clear h h0
      go_enter Tryz.func133, Tryz.ntmps133
      go_wp2
      go_ret
      exact ⟨rfl, rfl⟩
    · have h2 : decide (x ≤ hi) = false := by simp; omega
      clear h h1
      go_enter Tryz.func133, Tryz.ntmps133
      go_wp2
      go_ret
      exact ⟨rfl, rfl⟩
theorem ckey_any (x : Int) (w : World) : Calls Tryz.prog 134 #[.int .i64 x] w fun e w' => e = .returned (.bool (isKey x)) ∧ w = w' := by
  have hk : isIn x 0 524287 = isKey x := by
    unfold isIn isKey
    congr 1
    apply propext
    omega
  have hc := fun u => cwithin_any x 0 524287 u
  rw [hk] at hc
  generalize isKey x = b at hc ⊢
  clear hk
  go_enter Tryz.func134, Tryz.ntmps134
  go_wp2_with (go_at_call 133; (with_reducible refine (hc _).mono ?_); rintro e w1 ⟨rfl, rfl⟩)
  go_ret
  exact ⟨rfl, rfl⟩
theorem isnode_any (x : Int) (w : World) : Calls Tryz.prog 211 #[.int .i64 x] w fun e w' => e = .returned (.bool (isIn x 0 63)) ∧ w = w' := by
  have hc := fun u => within_any x 0 63 u
  generalize isIn x 0 63 = b at hc ⊢
  go_enter Tryz.func211, Tryz.ntmps211
  go_wp2_with (go_at_call 142; (with_reducible refine (hc _).mono ?_); rintro e w1 ⟨rfl, rfl⟩)
  go_ret
  exact ⟨rfl, rfl⟩
theorem gen_any (x : Int) (w : World) : Calls Tryz.prog 93 #[.int .i64 x] w fun e w' => e = .returned (.bool (isIn x 1 1099511627776)) ∧ w = w' := by
  have hc := fun u => within_any x 1 1099511627776 u
  generalize isIn x 1 1099511627776 = b at hc ⊢
  go_enter Tryz.func93, Tryz.ntmps93
  go_wp2_with (go_at_call 142; (with_reducible refine (hc _).mono ?_); rintro e w1 ⟨rfl, rfl⟩)
  go_ret
  exact ⟨rfl, rfl⟩
theorem hop_any (x : Int) (w : World) : Calls Tryz.prog 94 #[.int .i64 x] w fun e w' => e = .returned (.bool (isIn x 0 1099511627776)) ∧ w = w' := by
  have hc := fun u => within_any x 0 1099511627776 u
  generalize isIn x 0 1099511627776 = b at hc ⊢
  go_enter Tryz.func94, Tryz.ntmps94
  go_wp2_with (go_at_call 142; (with_reducible refine (hc _).mono ?_); rintro e w1 ⟨rfl, rfl⟩)
  go_ret
  exact ⟨rfl, rfl⟩
/-! The parts that a kind has, as a number. -/
end Go.Proofs.YtbgdlokegibkmaaGreat.Frame

namespace Go.Proofs.YtbgdlokegibkmaaGreat.Frame
open Go.RowKit Codec
/-- The node ahead of the j-th lease. -/
def lastOf (l : List (Int × Int)) (j : Nat) : Int := if j = 0 then -1 else (l.getD (j - 1) (0, 0)).1
theorem lease_no {l : List (Int × Int)} {j : Nat} (h : (l.getD j (0, 0)).1 ≤ lastOf l j ∨ isIn (l.getD j (0, 0)).1 0 63 = false ∨ isIn (l.getD j (0, 0)).2 1 2147483648 = false) : leaseAt l j = false := by
  rcases h with h | h | h
  · unfold lastOf at h
    by_cases hj : j = 0
    · rw [if_pos hj] at h
      exact lease_false (.inl (by unfold isIn; exact decide_eq_false (by omega)))
    · rw [if_neg hj] at h
      exact lease_false (.inr (.inr ⟨by omega, h⟩))
  · exact lease_false (.inl h)
  · exact lease_false (.inr (.inl h))
theorem lease_yes {l : List (Int × Int)} {j : Nat} (h : lastOf l j < (l.getD j (0, 0)).1) (h0 : isIn (l.getD j (0, 0)).1 0 63 = true) (h1 : isIn (l.getD j (0, 0)).2 1 2147483648 = true) : leaseAt l j = true := by
  refine lease_true h0 h1 ?_
  unfold lastOf at h
  by_cases hj : j = 0
  · exact .inl hj
  · rw [if_neg hj] at h
    exact .inr h
theorem lastOf_succ (l : List (Int × Int)) (j : Nat) : lastOf l (j + 1) = (l.getD j (0, 0)).1 := by simp [lastOf]
theorem leases_rise (l : List (Int × Int)) (n : Nat) (h : ∀ q, q < n → leaseAt l q = true) : ∀ q, q < n → (q : Int) ≤ (l.getD q (0, 0)).1 ∧ (l.getD q (0, 0)).1 ≤ 63 := by
  intro q
  induction q with
  | zero =>
    intro hq
    have := h 0 hq
    unfold leaseAt at this
    simp only [Bool.and_eq_true] at this
    have := isIn_yes this.1.1
    omega
  | succ q ih =>
    intro hq
    have h1 := ih (by omega)
    have := h (q + 1) hq
    unfold leaseAt at this
    simp only [Bool.and_eq_true, Bool.or_eq_true, Nat.add_sub_cancel] at this
    have h2 := isIn_yes this.1.1
    rcases this.2 with h3 | h3
    · simp at h3
    · have := of_decide_eq_true h3
      omega
theorem leases_few (l : List (Int × Int)) (h : allTo (leaseAt l) l.length = true) : l.length ≤ 64 := by
  by_cases h0 : l.length = 0
  · omega
  · have h1 : ∀ q, q < l.length → leaseAt l q = true := by
      intro q hq
      rw [allTo, List.all_eq_true] at h
      exact h q (List.mem_range.2 hq)
    have := leases_rise l l.length h1 (l.length - 1) (by omega)
    omega
theorem rowOk_eq (r : Rw) (start : Int) : rowOk r start = (isKey r.key && isIn r.avail 0 2147483648 && isIn r.mark start 4611686018427387904 && allTo (leaseAt r.out) r.out.length) := by
  unfold rowOk
  cases h : allTo (leaseAt r.out) r.out.length with
  | false => simp
  | true =>
    have := leases_few r.out h
    rw [decide_eq_true this, Bool.and_true]
set_option maxRecDepth 100000 in
set_option maxHeartbeats 1000000 in
theorem leases_any (p : Option Addr) (l : List (Int × Int)) (c : Nat) (w : World) (hn : (l.length : Int) ≤ 9223372036854775807) (hl : LeasesAt w p l) :
    Calls Tryz.prog 185 #[.slice p l.length c] w (Asked w (allTo (leaseAt l) l.length)) := by
  generalize hB : allTo (leaseAt l) l.length = R
  have HB := Lib.hid hB
  have HL := Lib.hid hl
  clear hB hl
  go_enter Tryz.func185, Tryz.ntmps185
  go_wp2
  go_loopw [3, 8] (fun la i wr => ∃ j : Nat, j ≤ l.length ∧ la = .int .i64 (lastOf l j) ∧ i = .int .i64 (j : Int) ∧ Hid (∀ q, q < j → leaseAt l q = true) ∧ Below w.heap.size w wr) (fun _ i _ => l.length - (intOf i).toNat)
  case atStart => exact ⟨0, by omega, rfl, rfl, (by intro q hq; omega), Below.refl _ _⟩
  case round =>
    obtain ⟨j, hj, rfl, rfl, hok, hb⟩ := hrel
    have hlw : LeasesAt wr p l := HL.out.below hb
    by_cases hlt : j < l.length
    · obtain ⟨g, o, rfl, hc⟩ : ∃ g o, p = some ⟨g, o, none⟩ ∧ ∀ j, j < l.length → wr.cell? ⟨g, o + j * 2, none⟩ = some (.int .i64 (l.getD j (0, 0)).1) ∧ wr.cell? ⟨g, o + j * 2 + 1, none⟩ = some (.int .i64 (l.getD j (0, 0)).2) := by
        rcases hlw with h | h
        · rw [h] at hlt; simp at hlt
        · exact h
      have hc0 := (hc j hlt).1
      have hc1 := (hc j hlt).2
      have hgl : g < wr.heap.size := World.block_lt_of_cell? _ _ hc0
      have hlf := Lib.hid (lease_no (l := l) (j := j))
      have hlt2 := Lib.hid (lease_yes (l := l) (j := j))
      have hls := Lib.hid (lastOf_succ l j)
      generalize (l.getD j (0, 0)).1 = x at hc0 hlf hlt2 hls
      generalize (l.getD j (0, 0)).2 = y at hc1 hlf hlt2
      generalize lastOf l j = z at hlf hlt2
      clear hlw hc
      have hb1 : Below w.heap.size w (wr.alloc (.cells #[.int .i64 x, .int .i64 y] 141)) := hb.alloc hb.size _
      have HB1 := Lib.hid hb1
      have c1 := fun u => isnode_any x u
      have c2 := fun u => within_any y 1 2147483648 u
      clear hb1
      by_cases hz : x ≤ z
      · obtain rfl : R = false := by rw [← HB.out]; exact allTo_false hlt (hlf.out (.inl hz))
        have hd : decide (x ≤ z) = true := decide_eq_true hz
        clear hlf hlt2 hz hls c1 c2
        go_wp2
        go_ret
        exact ⟨rfl, HB1.out⟩
      · have hd : decide (x ≤ z) = false := decide_eq_false hz
        cases hx : isIn x 0 63 with
        | false =>
          obtain rfl : R = false := by rw [← HB.out]; exact allTo_false hlt (hlf.out (.inr (.inl hx)))
          rw [hx] at c1
          clear hlf hlt2 hz hls hx
          go_wp2_with (go_at_call 211; (with_reducible refine (c1 _).mono ?_); rintro e w1 ⟨rfl, rfl⟩)
          go_ret
          exact ⟨rfl, HB1.out⟩
        | true =>
          cases hy : isIn y 1 2147483648 with
          | false =>
            obtain rfl : R = false := by rw [← HB.out]; exact allTo_false hlt (hlf.out (.inr (.inr hy)))
            rw [hx] at c1
            rw [hy] at c2
            clear hlf hlt2 hz hls hx hy
            go_wp2_with (first
              | (go_at_call 211; (with_reducible refine (c1 _).mono ?_); rintro e w1 ⟨rfl, rfl⟩)
              | (go_at_call 142; (with_reducible refine (c2 _).mono ?_); rintro e w1 ⟨rfl, rfl⟩))
            go_ret
            exact ⟨rfl, HB1.out⟩
          | true =>
            have HJ := Lib.hid (hlt2.out (by omega) hx hy)
            rw [hx] at c1
            rw [hy] at c2
            clear hlf hlt2 hz hx hy
            go_wp2_with (first
              | (go_at_call 211; (with_reducible refine (c1 _).mono ?_); rintro e w1 ⟨rfl, rfl⟩)
              | (go_at_call 142; (with_reducible refine (c2 _).mono ?_); rintro e w1 ⟨rfl, rfl⟩))
            go_roundw
            case rel => exact ⟨j + 1, by omega, by rw [hls.out], by go_num, (by intro q hq; rcases Nat.lt_succ_iff_lt_or_eq.1 hq with h | h; exact hok.out q h; rw [h]; exact HJ.out), HB1.out⟩
            case measure => simp [intOf]; omega
    · obtain rfl : j = l.length := by omega
      obtain rfl : R = true := by rw [← HB.out]; exact allTo_true hok.out
      go_wp2
      go_ret
      exact ⟨rfl, hb⟩
set_option maxRecDepth 100000 in
set_option maxHeartbeats 1000000 in
theorem stamps_any (p : Option Addr) (l : List Int) (c : Nat) (w : World) (hn : (l.length : Int) ≤ 9223372036854775807) (hl : Ints w p l) :
    Calls Tryz.prog 95 #[.slice p l.length c] w fun e w' => e = .returned (.bool (isIn l.length 1 64 && stampsOk l l.length)) ∧ w = w' := by
  have c0 := fun u => within_any l.length 1 64 u
  generalize isIn l.length 1 64 = h at c0 ⊢
  cases h with
  | false =>
    rw [Bool.false_and]
    clear hl
    go_enter Tryz.func95, Tryz.ntmps95
    go_wp2_with (go_at_call 142; (with_reducible refine (c0 _).mono ?_); rintro e w1 ⟨rfl, rfl⟩)
    go_ret
    exact ⟨rfl, rfl⟩
  | true =>
    rw [Bool.true_and]
    unfold stampsOk
    generalize hB : allTo (fun i => isIn (l.getD i 0) (-1) 4611686018427387903) l.length = R
    have HB := Lib.hid hB
    have HL := Lib.hid hl
    clear hB hl
    go_enter Tryz.func95, Tryz.ntmps95
    go_wp2_with (go_at_call 142; (with_reducible refine (c0 _).mono ?_); rintro e w1 ⟨rfl, rfl⟩)
    clear c0
    go_loop [11] (fun i => ∃ j : Nat, j ≤ l.length ∧ i = .int .i64 (j : Int) ∧ Hid (∀ q, q < j → isIn (l.getD q 0) (-1) 4611686018427387903 = true)) (fun i => l.length - (intOf i).toNat)
    case atStart => exact ⟨0, by omega, rfl, (by intro q hq; omega)⟩
    case round =>
      obtain ⟨j, hj, rfl, hok⟩ := hrel
      by_cases hlt : j < l.length
      · obtain ⟨g, o, rfl, hc⟩ : ∃ g o, p = some ⟨g, o, none⟩ ∧ ∀ j, j < l.length → w.cell? ⟨g, o + j, none⟩ = some (.int .i64 (l.getD j 0)) := by
          rcases HL.out with h | h
          · rw [h] at hlt; simp at hlt
          · exact h
        have hcj := hc j hlt
        have ci := fun u => within_any (l.getD j 0) (-1) 4611686018427387903 u
        have HJ := Lib.hid (show ∀ bo, isIn (l.getD j 0) (-1) 4611686018427387903 = bo → (bo = false → R = false) ∧ (bo = true → ∀ q, q < j + 1 → isIn (l.getD q 0) (-1) 4611686018427387903 = true) from fun bo hbo =>
          ⟨fun h => by rw [← HB.out]; exact allTo_false hlt (by rw [hbo]; exact h), fun h q hq => by
            rcases Nat.lt_succ_iff_lt_or_eq.1 hq with h1 | h1
            · exact hok.out q h1
            · rw [h1, hbo]; exact h⟩)
        have HJ2 := Lib.hid (HJ.out _ rfl)
        generalize isIn (l.getD j 0) (-1) 4611686018427387903 = b at ci HJ2
        generalize l.getD j 0 = x at hcj ci
        clear hc HJ
        cases b with
        | false =>
          obtain rfl := HJ2.out.1 rfl
          clear HJ2
          go_wp2_with (go_at_call 142; (with_reducible refine (ci _).mono ?_); rintro e w1 ⟨rfl, rfl⟩)
          go_ret
          exact ⟨rfl, rfl⟩
        | true =>
          have HK := Lib.hid (HJ2.out.2 rfl)
          clear HJ2
          go_wp2_with (go_at_call 142; (with_reducible refine (ci _).mono ?_); rintro e w1 ⟨rfl, rfl⟩)
          go_round
          case rel => exact ⟨j + 1, by omega, by go_num, HK⟩
          case measure => simp [intOf]; omega
      · obtain rfl : j = l.length := by omega
        obtain rfl : R = true := by rw [← HB.out]; exact allTo_true hok.out
        go_wp2
        go_ret
        exact ⟨rfl, rfl⟩
set_option maxRecDepth 100000 in
set_option maxHeartbeats 1000000 in
theorem prow_core (k a m start : Int) (p : Option Addr) (n c : Nat) (w : World) (b0 b1 b2 b3 R : Bool) (h1 : isKey k = b0) (h2 : isIn a 0 2147483648 = b1) (h3 : isIn m start 4611686018427387904 = b2)
    (hl : ∀ u, Below w.heap.size w u → Calls Tryz.prog 185 #[.slice p n c] u (Asked u b3)) (hR : (b0 && b1 && b2 && b3) = R) :
    Calls Tryz.prog 143 #[.agg #[.int .i64 k, .int .i64 a, .int .i64 m, .slice p n c], .int .i64 start] w (Asked w R) := by
  have ck := fun u => ckey_any k u
  have ca := fun u => within_any a 0 2147483648 u
  have cm := fun u => within_any m start 4611686018427387904 u
  rw [h1] at ck
  rw [h2] at ca
  rw [h3] at cm
  clear h1 h2 h3
  have fin : Below w.heap.size w (w.alloc (.cells #[.int .i64 k, .int .i64 a, .int .i64 m, .slice p n c] 80)) := (Below.refl _ _).alloc (Nat.le_refl _) _
  have hl2 := hl _ fin
  clear hl
  rcases and4 hR with ⟨rfl, rfl⟩ | ⟨rfl, rfl, rfl⟩ | ⟨rfl, rfl, rfl, rfl⟩ | ⟨rfl, rfl, rfl, rfl, rfl⟩ | ⟨rfl, rfl, rfl, rfl, rfl⟩
  all_goals
    clear hR
    go_enter Tryz.func143, Tryz.ntmps143
    go_wp2_with (first
      | (go_at_call 134; (with_reducible refine (ck _).mono ?_); rintro e w1 ⟨rfl, rfl⟩)
      | (go_at_call 142; (with_reducible refine (ca _).mono ?_); rintro e w1 ⟨rfl, rfl⟩)
      | (go_at_call 142; (with_reducible refine (cm _).mono ?_); rintro e w1 ⟨rfl, rfl⟩)
      | (go_at_call 185; (with_reducible refine hl2.mono ?_); rintro e w1 ⟨rfl, hb1⟩; replace fin := fin.trans (hb1.mono fin.size); clear hb1))
    go_ret
    exact ⟨rfl, fin⟩
/-- rowMayBe, whole. -/
theorem prow_any (r : Rw) (start : Int) (p : Option Addr) (c : Nat) (w : World) (hn : (r.out.length : Int) ≤ 9223372036854775807) (hl : LeasesAt w p r.out) :
    Calls Tryz.prog 143 #[.agg #[.int .i64 r.key, .int .i64 r.avail, .int .i64 r.mark, .slice p r.out.length c], .int .i64 start] w (Asked w (rowOk r start)) :=
  prow_core _ _ _ _ _ _ _ _ _ _ _ _ _ rfl rfl rfl (fun u hu => leases_any p r.out c u hn (hl.below hu)) (rowOk_eq r start).symm
end Go.Proofs.YtbgdlokegibkmaaGreat.Frame

namespace Go.Proofs.YtbgdlokegibkmaaGreat.Frame
open Go.RowKit Codec
/-- The key ahead of the j-th row. -/
def lastKey (l : List Rw) (j : Nat) : Int := if j = 0 then -1 else (l.getD (j - 1) noRow).key
theorem rowAt_no {l : List Rw} {s : Int} {j : Nat} (h : (l.getD j noRow).key ≤ lastKey l j ∨ rowOk (l.getD j noRow) s = false) : rowAt l s j = false := by
  rcases h with h | h
  · unfold lastKey at h
    by_cases hj : j = 0
    · rw [if_pos hj] at h
      refine rowAt_false (.inl ?_)
      have : isKey (l.getD j noRow).key = false := by unfold isKey; exact decide_eq_false (by omega)
      rw [rowOk_eq, this]
      rfl
    · rw [if_neg hj] at h
      exact rowAt_false (.inr ⟨by omega, h⟩)
  · exact rowAt_false (.inl h)
theorem rowAt_yes {l : List Rw} {s : Int} {j : Nat} (h : lastKey l j < (l.getD j noRow).key) (h0 : rowOk (l.getD j noRow) s = true) : rowAt l s j = true := by
  refine rowAt_true h0 ?_
  unfold lastKey at h
  by_cases hj : j = 0
  · exact .inl hj
  · rw [if_neg hj] at h
    exact .inr h
theorem lastKey_succ (l : List Rw) (j : Nat) : lastKey l (j + 1) = (l.getD j noRow).key := by simp [lastKey]
set_option maxRecDepth 100000 in
theorem ptable_no (start : Int) (p : Option Addr) (n c : Nat) (w : World) (h : (isIn start 0 4611686018427387904 && decide (n ≤ 16)) = false) :
    Calls Tryz.prog 96 #[.agg #[.int .i64 start, .slice p n c]] w (Asked w false) := by
  have ci := fun u => within_any start 0 4611686018427387904 u
  generalize isIn start 0 4611686018427387904 = b at ci h
  have h4 : b = false ∨ (b = true ∧ 16 < (n : Int)) := by
    cases b <;> simp at h ⊢
    omega
  clear h
  rcases h4 with rfl | ⟨rfl, h5⟩
  · go_enter Tryz.func96, Tryz.ntmps96
    go_wp2_with (go_at_call 142; (with_reducible refine (ci _).mono ?_); rintro e w1 ⟨rfl, rfl⟩)
    go_ret
    exact ⟨rfl, (Below.refl _ _).alloc (Nat.le_refl _) _⟩
  · go_enter Tryz.func96, Tryz.ntmps96
    go_wp2_with (go_at_call 142; (with_reducible refine (ci _).mono ?_); rintro e w1 ⟨rfl, rfl⟩)
    go_ret
    exact ⟨rfl, (Below.refl _ _).alloc (Nat.le_refl _) _⟩
set_option maxRecDepth 100000 in
set_option maxHeartbeats 2000000 in
theorem ptable_yes (start : Int) (p : Option Addr) (l : List Rw) (c : Nat) (w : World) (h : isIn start 0 4611686018427387904 = true) (hn : l.length ≤ 16) (hl : RowsAt w p l) (hs : ∀ r ∈ l, (r.out.length : Int) ≤ 9223372036854775807) :
    Calls Tryz.prog 96 #[.agg #[.int .i64 start, .slice p l.length c]] w (Asked w (allTo (rowAt l start) l.length)) := by
  have ci := fun u => within_any start 0 4611686018427387904 u
  rw [h] at ci
  have HL := Lib.hid hl
  have HS := Lib.hid hs
  clear h hl hs
  generalize hB : allTo (rowAt l start) l.length = R
  have HB := Lib.hid hB
  clear hB
  go_enter Tryz.func96, Tryz.ntmps96
  go_wp2_with (go_at_call 142; (with_reducible refine (ci _).mono ?_); rintro e w1 ⟨rfl, rfl⟩)
  generalize hw0 : w.alloc (.cells #[.int .i64 start, .slice p l.length c] 28) = w0
  have b0 : Below w.heap.size w w0 := by rw [← hw0]; exact (Below.refl _ _).alloc (Nat.le_refl _) _
  have k0 : w0.cell? ⟨w.heap.size, 0, none⟩ = some (.int .i64 start) := by
    rw [← hw0, cell_of_row _ _ 0 _ _ (0, 0) (heap_alloc_new w _)]; rfl
  have HK0 := Lib.hid k0
  clear hw0 k0 ci
  go_loopw [3, 19] (fun la i wr => ∃ j : Nat, j ≤ l.length ∧ la = .int .i64 (lastKey l j) ∧ i = .int .i64 (j : Int) ∧ Hid (∀ q, q < j → rowAt l start q = true) ∧ Below w0.heap.size w0 wr) (fun _ i _ => l.length - (intOf i).toNat)
  case atStart => exact ⟨0, by omega, rfl, rfl, (by intro q hq; omega), Below.refl _ _⟩
  case round =>
    obtain ⟨j, hj, rfl, rfl, hok, hb⟩ := hrel
    have c0 : wr.cell? ⟨w.heap.size, 0, none⟩ = some (.int .i64 start) := cell_on HK0.out hb
    have hlw : RowsAt wr p l := (HL.out.below b0).below hb
    by_cases hlt : j < l.length
    · obtain ⟨g, o, rfl, hc⟩ : ∃ g o, p = some ⟨g, o, none⟩ ∧ ∀ j, j < l.length → RowAt wr g (o + j * 4) (l.getD j noRow) := by
        rcases hlw with h | h
        · rw [h] at hlt; simp at hlt
        · exact h
      obtain ⟨d0, d1, d2, p3, c3, d3, hle⟩ := hc j hlt
      have hro := HS.out (l.getD j noRow) (by simp [List.getD, hlt])
      have hrow := fun (u : World) (hu : Below wr.heap.size wr u) => prow_any (l.getD j noRow) start p3 c3 u hro (hle.below hu)
      have hrf := Lib.hid (rowAt_no (l := l) (s := start) (j := j))
      have hrt := Lib.hid (rowAt_yes (l := l) (s := start) (j := j))
      have hks := Lib.hid (lastKey_succ l j)
      generalize lastKey l j = z at hrf hrt
      generalize l.getD j noRow = r at d0 d1 d2 d3 hle hrow hrf hrt hro hks
      obtain ⟨x, av, mk, out⟩ := r
      simp only at d0 d1 d2 d3 hle hrow hrf hrt hro hks
      have hgl : g < wr.heap.size := World.block_lt_of_cell? _ _ d0
      have hwl : w.heap.size < wr.heap.size := World.block_lt_of_cell? _ _ c0
      clear hlw hc hle hro
      generalize hR : rowOk ⟨x, av, mk, out⟩ start = br at hrow hrf hrt
      clear hR
      have hb1 : Below wr.heap.size wr (wr.alloc (.cells #[.int .i64 x, .int .i64 av, .int .i64 mk, .slice p3 out.length c3] 80)) := (Below.refl _ _).alloc (Nat.le_refl _) _
      have hrow2 := hrow _ hb1
      have HB1 := Lib.hid hb1
      have knew : (wr.alloc (.cells #[.int .i64 x, .int .i64 av, .int .i64 mk, .slice p3 out.length c3] 80)).cell? ⟨wr.heap.size, 0, none⟩ = some (.int .i64 x) := by
        rw [cell_of_row _ _ 0 _ _ (0, 0) (heap_alloc_new wr _)]; rfl
      have HKN := Lib.hid knew
      clear hrow hb1 knew
      by_cases hz : x ≤ z
      · obtain rfl : R = false := by rw [← HB.out]; exact allTo_false hlt (hrf.out (.inl hz))
        have hd : decide (x ≤ z) = true := decide_eq_true hz
        clear hrf hrt hz hks hrow2
        go_wp2
        go_ret
        exact ⟨rfl, b0.trans ((hb.trans (HB1.out.mono hb.size)).mono b0.size)⟩
      · have hd : decide (x ≤ z) = false := decide_eq_false hz
        cases br with
        | false =>
          obtain rfl : R = false := by rw [← HB.out]; exact allTo_false hlt (hrf.out (.inr rfl))
          clear hrf hrt hz hks
          go_wp2_with (go_at_call 143; (with_reducible refine hrow2.mono ?_); rintro e w1 ⟨rfl, hb2⟩; have HB2 := Lib.hid hb2; clear hb2)
          go_ret
          exact ⟨rfl, b0.trans ((hb.trans ((HB1.out.trans (HB2.out.mono HB1.out.size)).mono hb.size)).mono b0.size)⟩
        | true =>
          have HJ := Lib.hid (hrt.out (by omega) rfl)
          clear hrf hrt hz
          go_wp2_with (go_at_call 143; (with_reducible refine hrow2.mono ?_); rintro e w1 ⟨rfl, hb2⟩; have HB2 := Lib.hid hb2; have kx := cell_on HKN.out hb2; clear hb2)
          go_roundw
          case rel => exact ⟨j + 1, by omega, by rw [hks.out], by go_num, (by intro q hq; rcases Nat.lt_succ_iff_lt_or_eq.1 hq with h | h; exact hok.out q h; rw [h]; exact HJ.out), hb.trans ((HB1.out.trans (HB2.out.mono HB1.out.size)).mono hb.size)⟩
          case measure => simp [intOf]; omega
    · obtain rfl : j = l.length := by omega
      obtain rfl : R = true := by rw [← HB.out]; exact allTo_true hok.out
      go_wp2
      go_ret
      exact ⟨rfl, b0.trans (hb.mono b0.size)⟩
/-- Table, of any. -/
theorem ptable_any (t : Tb) (p : Option Addr) (c : Nat) (w : World) (hl : RowsAt w p t.rows) (hs : Small t.rows) :
    Calls Tryz.prog 96 #[.agg #[.int .i64 t.start, .slice p t.rows.length c]] w (Asked w (tableOk t)) := by
  unfold tableOk
  cases h : (isIn t.start 0 4611686018427387904 && decide (t.rows.length ≤ 16)) with
  | false =>
    rw [Bool.false_and]
    exact ptable_no _ _ _ _ _ h
  | true =>
    rw [Bool.true_and]
    rw [Bool.and_eq_true] at h
    exact ptable_yes _ _ _ _ _ h.1 (of_decide_eq_true h.2) hl hs
set_option maxRecDepth 100000 in
set_option maxHeartbeats 1000000 in
theorem ptoken_core (g h s : Int) (ps p : Option Addr) (n cs m c : Nat) (w : World) (b0 b1 b2 b3 R : Bool) (h0 : isIn g 1 1099511627776 = b0) (h1 : isIn h 0 1099511627776 = b1)
    (hst : ∀ u, Below w.heap.size w u → Calls Tryz.prog 95 #[.slice ps n cs] u fun e w' => e = .returned (.bool b2) ∧ u = w')
    (htb : ∀ u, Below w.heap.size w u → Calls Tryz.prog 96 #[.agg #[.int .i64 s, .slice p m c]] u (Asked u b3)) (hR : (b0 && b1 && b2 && b3) = R) :
    Calls Tryz.prog 52 #[.agg #[.int .i64 g, .int .i64 h, .slice ps n cs, .int .i64 s, .slice p m c]] w (Asked w R) := by
  have cg := fun u => gen_any g u
  have ch := fun u => hop_any h u
  rw [h0] at cg
  rw [h1] at ch
  clear h0 h1
  have fin : Below w.heap.size w (w.alloc (.cells #[.int .i64 g, .int .i64 h, .slice ps n cs, .int .i64 s, .slice p m c] 30)) := (Below.refl _ _).alloc (Nat.le_refl _) _
  have hs2 := hst _ fin
  have ht2 := htb _ fin
  clear hst htb
  rcases and4 hR with ⟨rfl, rfl⟩ | ⟨rfl, rfl, rfl⟩ | ⟨rfl, rfl, rfl, rfl⟩ | ⟨rfl, rfl, rfl, rfl, rfl⟩ | ⟨rfl, rfl, rfl, rfl, rfl⟩
  all_goals
    clear hR
    go_enter Tryz.func52, Tryz.ntmps52
    go_wp2_with (first
      | (go_at_call 93; (with_reducible refine (cg _).mono ?_); rintro e w1 ⟨rfl, rfl⟩)
      | (go_at_call 94; (with_reducible refine (ch _).mono ?_); rintro e w1 ⟨rfl, rfl⟩)
      | (go_at_call 95; (with_reducible refine hs2.mono ?_); rintro e w1 ⟨rfl, rfl⟩)
      | (go_at_call 96; (with_reducible refine ht2.mono ?_); rintro e w1 ⟨rfl, hb1⟩; replace fin := fin.trans (hb1.mono fin.size); clear hb1))
    go_ret
    exact ⟨rfl, fin⟩
/-- Token, of any. -/
theorem ptoken_any (t : Tk) (ps p : Option Addr) (cs c : Nat) (w : World) (hn : (t.stamps.length : Int) ≤ 9223372036854775807) (hst : Ints w ps t.stamps) (hl : RowsAt w p t.table.rows) (hs : Small t.table.rows) :
    Calls Tryz.prog 52 #[.agg #[.int .i64 t.gen, .int .i64 t.hop, .slice ps t.stamps.length cs, .int .i64 t.table.start, .slice p t.table.rows.length c]] w (Asked w (tokenOk t)) :=
  ptoken_core _ _ _ _ _ _ _ _ _ _ _ _ _ _ _ rfl rfl (fun u hu => stamps_any ps t.stamps cs u hn (hst.below hu)) (fun u hu => ptable_any t.table p c u (hl.below hu) hs) (by
    unfold tokenOk tokenHead
    simp only [Bool.and_assoc])
end Go.Proofs.YtbgdlokegibkmaaGreat.Frame
