/-
  A guest in memory: a token at a node, with the program's edge; what each step of it leaves. Pf: the program's edge, with blocks that stay. No conditions beyond those that each names.
  Nothing is made, plain: a table of one key, 0, whose row's total is within bounds; what minting, settling and lending make of it. No program.
  Requests at an edge and visits of a token that began without credit, plain: the token may be at each one, what stands of it, the edge and what was granted. No program.
  The law's kept, of what stands of a token of one key and the edge: it holds.
  What may be written beside the program's edge: tokens, ints, requests; a list of requests that grows; a row that grows, with what stays.
-/
import Derived.Maps.AppendAt
import Derived.Test.YtbgdlokegibkmaaGreatMmAm
import Derived.Test.YtbgdlokegibkmaaGreatMmAq
import Derived.Test.YtbgdlokegibkmaaGreatMmAe
import Derived.Test.YtbgdlokegibkmaaGreatMmAp
import Derived.Test.YtbgdlokegibkmaaGreatMmAo
import Derived.Test.YtbgdlokegibkmaaGreatMmAl
import Derived.Test.YtbgdlokegibkmaaGreatMmAn
import Derived.Test.YtbgdlokegibkmaaGreatMmAf
import Derived.Test.YtbgdlokegibkmaaGreatMmAb
namespace Go.Proofs.YtbgdlokegibkmaaGreat.Visit
open Go.RowKit
open _root_.Go.Proofs.YtbgdlokegibkmaaGreat.Frame (Rw Tb Tk noRow LeasesAt cell_on)
open _root_.Go.Proofs.YtbgdlokegibkmaaGreat.Ledger (RowAt RowsAt LeasesIn Rise mint held tabVal cfVal)
open _root_.Go.Proofs.YtbgdlokegibkmaaGreat.Codec (Ints lt_of_heap frozen_of heap_set)
open _root_.Go.Proofs.YtbgdlokegibkmaaGreat.Kit (Lies Kept Off)
open _root_.Go.Proofs.YtbgdlokegibkmaaGreat.Edge (Cf Eg An Ed RatesB CfNum Says HasN Typed In Moves KeepC Lens)
open _root_.Go.Proofs.YtbgdlokegibkmaaGreat.Token (tokVal)
open _root_.Go.Proofs.YtbgdlokegibkmaaGreat.Lease (Num)
/-- Blocks of these types are written beside the edge. -/
abbrev outs18 : List TypeId := [97, 60, 30, 118, 45]
theorem kept_outs {ts : List TypeId} {w w' : World} (h : Kept ts w w') (hs : ∀ T ∈ ts, T ∈ outs18) : Kept outs18 w w' := ⟨h.size, fun g o e ht => h.obj g o e fun cs T z k hm => ht cs T z k (hs T hm)⟩
section
variable {R : Nat → Prop} {B q qw qq qd : Nat} {w w' : World} {y : Value} {c : Cf} {e : Eg}
theorem in_kept (h : In R B w q y qw qq qd c e) (hk : Kept outs18 w w') : In R B w' q y qw qq qd c e := by
  have k : ∀ {T : TypeId}, T ∉ outs18 → KeepC T w w' := fun hT g cs z hg => hk.block g _ _ _ hg hT
  have km : ∀ (b : Nat) es cl, w.heap[b]? = some (.map es cl) → w'.heap[b]? = some (.map es cl) := fun b es cl hb => hk.obj b _ hb (fun _ _ _ e => by cases e)
  have hcw : ∀ b, Edge.holds w' qw b → Edge.holds w qw b := fun b hb => by
    obtain ⟨_, m, h1, _⟩ := h.wl
    unfold Edge.holds at hb ⊢
    rwa [World.cell?_of_block (a := ⟨qw, 0, none⟩) ((k (by decide) _ _ _ h1).trans h1.symm)] at hb
  have hcd : ∀ b, Edge.holds w' qd b → Edge.holds w qd b := fun b hb => by
    obtain ⟨_, m, h1, _⟩ := h.dm
    unfold Edge.holds at hb ⊢
    rwa [World.cell?_of_block (a := ⟨qd, 0, none⟩) ((k (by decide) _ _ _ h1).trans h1.symm)] at hb
  exact ⟨h.ge, k (by decide) _ _ _ h.blk, Edge.rt_stays h.rt (k (by decide)), Edge.pw_stays h.wl (k (by decide)) (fun b es cl _ hb => km b es cl hb), Edge.pq_stays h.qu hk.size (k (by decide)) (k (by decide)), Edge.pd_stays h.dm (k (by decide)) (fun b es cl _ hb => km b es cl hb), fun b h1 h2 => h.apart b (hcw b h1) (hcd b h2)⟩
theorem not_plain {g : Nat} {cs : Array Value} {T : TypeId} {z : Nat × Nat} (h : w.heap[g]? = some (.cells cs T z)) (hT : ¬ (T = 3 ∨ T = 80 ∨ T = 141)) : ¬ Plainly w g := by
  rintro ⟨-, cs', T', z', h1, h2⟩
  rw [h] at h1
  simp only [Option.some.injEq, Obj.cells.injEq] at h1
  exact hT (h1.2.1 ▸ h2)
theorem in_typed (h : In R B w q y qw qq qd c e) : In (fun g => R g ∨ Plainly w g) B w q y qw qq qd c e := by
  refine ⟨h.ge, h.blk, h.rt, h.wl, ?_, h.dm, h.apart⟩
  obtain ⟨y, hy⟩ := h.qu
  refine ⟨y, hy.ge, fun e => e.elim hy.nf (not_plain hy.blk (by decide)), hy.blk, hy.own, fun g hg hn => ?_, fun g hg => hg.elim (hy.fl g) And.left⟩
  rcases hn with hn | hn
  · exact hy.nfy g hg hn
  rcases hy.own.2 with ⟨rfl, -⟩ | ⟨g', cap, cur, rfl, -, h2, -⟩
  · simp [Value.ownBlock] at hg
  · simp only [Value.ownBlock, Option.some.injEq] at hg
    subst hg
    exact not_plain h2 (by decide) hn
end
/-- The program's edge; its own block is none of those that stay. -/
def Pf : PwR := fun R B w q c e => ((0 ≤ c.qu ∧ c.qu ≤ 16) ∧ (∀ x ∈ e.D, Num x.key) ∧ ¬ R q) ∧ ∃ y qw qq qd, In R B w q y qw qq qd c e
theorem frPf : FrameR Pf where
  below := fun ⟨h0, y, qw, qq, qd, h⟩ hb => ⟨h0, y, qw, qq, qd, h.below hb⟩
  kept := fun ⟨h0, y, qw, qq, qd, h⟩ hk _ => ⟨h0, y, qw, qq, qd, in_kept h (kept_outs hk (by decide))⟩
  low := fun ⟨_, _, _, _, _, h⟩ g hg => h.low g hg
  sub := fun ⟨⟨a, b, d⟩, y, qw, qq, qd, h⟩ hG => ⟨⟨a, b, fun hq => d (hG _ hq)⟩, y, qw, qq, qd, h.sub hG⟩
  grow := fun ⟨⟨a, b, d⟩, y, qw, qq, qd, h⟩ hb => ⟨⟨a, b, fun hq => hq.elim d fun h2 => by have := lt_of_heap h.blk; omega⟩, y, qw, qq, qd, h.grow hb⟩
  typed := fun ⟨⟨a, b, d⟩, y, qw, qq, qd, h⟩ => ⟨⟨a, b, fun hq => hq.elim d (not_plain h.blk (by decide))⟩, y, qw, qq, qd, in_typed h⟩
/-- What of a guest stays. -/
structure Gf where
  gen : Int
  hop : Int
  st : List Int
  ps : Option Addr
  cs : Nat
  start : Int
  q : Nat
  node : Int
  now : Int
  c : Cf
  pf : Option Addr
  kf : Nat
/-- A guest's cells. -/
def gcells (f : Gf) (p : Option Addr) (n d : Nat) : Array Value := #[.int .i64 f.gen, .int .i64 f.hop, .slice f.ps f.st.length f.cs, .int .i64 f.start, .slice p n (d + n), .pointer (some ⟨f.q, 0, none⟩), .int .i64 f.node, .int .i64 f.now, .int .i64 f.c.n, .int .i64 f.c.sk, .int .i64 f.c.tl, .int .i64 f.c.va, .int .i64 f.c.lo, .int .i64 f.c.he, .int .i64 f.c.ke, .int .i64 f.c.qu, .slice f.pf f.c.zs.length f.kf]
/-- A guest: its edge, its box, its rows in blocks that stay. -/
structure Gu (B gb : Nat) (f : Gf) (y : Value) (qw qq qd : Nat) (R : Nat → Prop) (p : Option Addr) (d : Nat) (t : Tb) (e : Eg) (u : World) : Prop where
  inn : In R B u f.q y qw qq qd f.c e
  box : u.heap[gb]? = some (.cells (gcells f p t.rows.length d) 118 (0, 0))
  rows : Ledger.RowsIn R u p t.rows
  start : t.start = f.start
  ngb : ¬ R gb
  rates : RatesB B u f.pf f.c.zs
  size : B ≤ u.heap.size
/-- What a step of a guest leaves. -/
structure Fr18 (B gb : Nat) (R R' : Nat → Prop) (u w' : World) : Prop where
  below : Below B u w'
  off : Off Edge.mine u w'
  off2 : ∀ g cs T z, g ≠ gb → T ∈ Edge.theirs → u.heap[g]? = some (.cells cs T z) → w'.heap[g]? = some (.cells cs T z)
  keep : ∀ g, R g → HasN u g → g < u.heap.size → w'.heap[g]? = u.heap[g]?
  up : ∀ g, R g → R' g
  new : ∀ g, R' g → R g ∨ u.heap.size ≤ g
section
variable {B gb : Nat} {f : Gf} {y : Value} {qw qq qd : Nat} {R R' R2 : Nat → Prop} {p p' : Option Addr} {d d' : Nat} {t T : Tb} {e e' : Eg} {u u' w' : World}
theorem Fr18.trans (h : Fr18 B gb R R' u u') (k : Fr18 B gb R' R2 u' w') : Fr18 B gb R R2 u w' :=
  ⟨h.below.trans k.below, h.off.trans k.off, fun g cs T z hn hT hg => k.off2 g cs T z hn hT (h.off2 g cs T z hn hT hg), fun g hg hn hl => (k.keep g (h.up g hg) (hn.on (h.keep g hg hn hl)) (Nat.lt_of_lt_of_le hl h.below.size)).trans (h.keep g hg hn hl), fun g hg => k.up g (h.up g hg), fun g hg => (k.new g hg).elim (h.new g) fun hs => .inr (Nat.le_trans h.below.size hs)⟩
theorem Fr18.of_below (hb : Below u.heap.size u u') (hB : B ≤ u.heap.size) : Fr18 B gb R R u u' :=
  ⟨hb.mono hB, Kit.Off.of_below hb, fun g _ _ _ _ _ hg => (hb.block g (lt_of_heap hg)).trans hg, fun g _ _ hl => hb.block g hl, fun _ h => h, fun _ h => .inl h⟩
theorem Fr18.of_more (hb : Below u.heap.size u u') (hB : B ≤ u.heap.size) : Fr18 B gb R (fun g => R g ∨ u.heap.size ≤ g ∧ g < u'.heap.size) u u' :=
  ⟨hb.mono hB, Kit.Off.of_below hb, fun g _ _ _ _ _ hg => (hb.block g (lt_of_heap hg)).trans hg, fun g _ _ hl => hb.block g hl, fun _ h => .inl h, fun _ h => h.imp id And.left⟩
theorem Fr18.of_moves {q : Nat} {c : Cf} (m : Moves R B u q y qw qq qd c e' u') : Fr18 B gb R R u u' :=
  ⟨m.below, m.off, fun g cs T z _ hT hg => m.off2.block g cs T z hg hT, m.keep, fun _ h => h, fun _ h => .inl h⟩
theorem Gu.on (h : Gu B gb f y qw qq qd R p d t e u) (hb : Below u.heap.size u u') : Gu B gb f y qw qq qd R p d t e u' :=
  ⟨h.inn.below hb, (hb.block _ (lt_of_heap h.box)).trans h.box, h.rows.below hb, h.start, h.ngb, h.rates.on (hb.mono h.size), Nat.le_trans h.size hb.size⟩
theorem Gu.more (h : Gu B gb f y qw qq qd R p d t e u) (hb : Below u.heap.size u u') : Gu B gb f y qw qq qd (fun g => R g ∨ u.heap.size ≤ g ∧ g < u'.heap.size) p d t e u' :=
  ⟨h.inn.grow hb, (hb.block _ (lt_of_heap h.box)).trans h.box, (h.rows.below hb).on (fun _ h _ => .inl h) fun _ _ _ => rfl, h.start, fun hg => hg.elim h.ngb fun h2 => by have := lt_of_heap h.box; omega, h.rates.on (hb.mono h.size), Nat.le_trans h.size hb.size⟩
theorem Gu.moves (h : Gu B gb f y qw qq qd R p d t e u) (m : Moves R B u f.q y qw qq qd f.c e' u') : Gu B gb f y qw qq qd R p d t e' u' :=
  ⟨m.inn, m.off2.block _ _ _ _ h.box (by simp [Edge.theirs]), rowsin_on h.rows (fun _ h _ => h) m.keep, h.start, h.ngb, h.rates.on m.below, Nat.le_trans h.size m.off.size⟩
/-- Two cells of the guest's box. -/
theorem gset_box (h : Gu B gb f y qw qq qd R p d t e u) (p' : Option Addr) (n d' : Nat) :
    ((u.setCell ⟨gb, 3, none⟩ (.int .i64 f.start)).setCell ⟨gb, 4, none⟩ (.slice p' n (d' + n))).heap[gb]? = some (.cells (gcells f p' n d') 118 (0, 0)) ∧ ∀ b, b ≠ gb → ((u.setCell ⟨gb, 3, none⟩ (.int .i64 f.start)).setCell ⟨gb, 4, none⟩ (.slice p' n (d' + n))).heap[b]? = u.heap[b]? :=
  ⟨heap_set gb 4 _ _ (heap_set gb 3 _ _ h.box), fun _ hb => (Below.heap_setCell _ _ _ _ hb).trans (Below.heap_setCell _ _ _ _ hb)⟩
theorem gset_kept (h : Gu B gb f y qw qq qd R p d t e u) (p' : Option Addr) (n d' : Nat) : Kept outs18 u ((u.setCell ⟨gb, 3, none⟩ (.int .i64 f.start)).setCell ⟨gb, 4, none⟩ (.slice p' n (d' + n))) :=
  ⟨by simp, fun b o ho ht => ((gset_box h p' n d').2 b (by rintro rfl; rw [h.box] at ho; exact ht _ _ _ (Option.some.inj ho).symm (by decide))).trans ho⟩
theorem gset_below (_ : Gu B gb f y qw qq qd R p d t e u) (hg : B ≤ gb) (p' : Option Addr) (n d' : Nat) : Below B u ((u.setCell ⟨gb, 3, none⟩ (.int .i64 f.start)).setCell ⟨gb, 4, none⟩ (.slice p' n (d' + n))) :=
  ((Below.refl B u).setCell (p := ⟨gb, 3, none⟩) hg _).setCell (p := ⟨gb, 4, none⟩) hg _
/-- The table is stored. -/
theorem Gu.store (h : Gu B gb f y qw qq qd R p d t e u) (hg : B ≤ gb) (hr : Ledger.RowsIn R u p' T.rows) (hs : T.start = f.start) : Gu B gb f y qw qq qd R p' d' T e ((u.setCell ⟨gb, 3, none⟩ (.int .i64 f.start)).setCell ⟨gb, 4, none⟩ (.slice p' T.rows.length (d' + T.rows.length))) :=
  have hn : ∀ b, R b → b ≠ gb := fun _ hb e => h.ngb (e ▸ hb)
  ⟨in_kept h.inn (gset_kept h _ _ _), (gset_box h _ _ _).1, hr.on (fun _ h _ => h) fun b hb _ => (gset_box h _ _ _).2 b (hn b hb), hs, h.ngb, h.rates.on (gset_below h hg _ _ _), Nat.le_trans h.size (gset_kept h _ _ _).size⟩
theorem Fr18.of_store (h : Gu B gb f y qw qq qd R p d t e u) (hg : B ≤ gb) (p' : Option Addr) (n d' : Nat) : Fr18 B gb R R u ((u.setCell ⟨gb, 3, none⟩ (.int .i64 f.start)).setCell ⟨gb, 4, none⟩ (.slice p' n (d' + n))) :=
  ⟨gset_below h hg p' n d', ⟨(gset_kept h p' n d').size, fun b cs T z hb hT => ((gset_box h p' n d').2 b (by rintro rfl; rw [h.box] at hb; simp only [Option.some.injEq, Obj.cells.injEq] at hb; rw [← hb.2.1] at hT; simp [Edge.mine] at hT)).trans hb⟩, fun b cs T z hn _ hb => ((gset_box h p' n d').2 b hn).trans hb, fun b hb _ _ => (gset_box h p' n d').2 b fun e => h.ngb (e ▸ hb), fun _ h => h, fun _ h => .inl h⟩
/-- The cells of the guest's box. -/
theorem Gu.cells (h : Gu B gb f y qw qq qd R p d t e u) : u.cell? ⟨gb, 0, none⟩ = some (.int .i64 f.gen) ∧ u.cell? ⟨gb, 1, none⟩ = some (.int .i64 f.hop) ∧ u.cell? ⟨gb, 2, none⟩ = some (.slice f.ps f.st.length f.cs) ∧ u.cell? ⟨gb, 3, none⟩ = some (.int .i64 f.start) ∧ u.cell? ⟨gb, 4, none⟩ = some (.slice p t.rows.length (d + t.rows.length)) ∧ u.cell? ⟨gb, 5, none⟩ = some (.pointer (some ⟨f.q, 0, none⟩)) ∧ u.cell? ⟨gb, 6, none⟩ = some (.int .i64 f.node) ∧ u.cell? ⟨gb, 7, none⟩ = some (.int .i64 f.now) ∧
    u.cell? ⟨gb, 8, none⟩ = some (.int .i64 f.c.n) ∧ u.cell? ⟨gb, 9, none⟩ = some (.int .i64 f.c.sk) ∧ u.cell? ⟨gb, 10, none⟩ = some (.int .i64 f.c.tl) ∧ u.cell? ⟨gb, 11, none⟩ = some (.int .i64 f.c.va) ∧ u.cell? ⟨gb, 12, none⟩ = some (.int .i64 f.c.lo) ∧ u.cell? ⟨gb, 13, none⟩ = some (.int .i64 f.c.he) ∧ u.cell? ⟨gb, 14, none⟩ = some (.int .i64 f.c.ke) ∧ u.cell? ⟨gb, 15, none⟩ = some (.int .i64 f.c.qu) ∧ u.cell? ⟨gb, 16, none⟩ = some (.slice f.pf f.c.zs.length f.kf) ∧ ∀ o, u.frozen? ⟨gb, o, none⟩ = false := by
  have hb := h.box
  refine ⟨?_, ?_, ?_, ?_, ?_, ?_, ?_, ?_, ?_, ?_, ?_, ?_, ?_, ?_, ?_, ?_, ?_, fun o => frozen_of hb⟩ <;> (rw [cell_of_row _ _ _ _ _ (0, 0) hb]; rfl)
end
end Go.Proofs.YtbgdlokegibkmaaGreat.Visit

namespace Go.Proofs.YtbgdlokegibkmaaGreat.Visit
open _root_.Go.Proofs.YtbgdlokegibkmaaGreat.Frame (Rw Tb Tk noRow tokenOk)
open _root_.Go.Proofs.YtbgdlokegibkmaaGreat.Ledger (Rise RowB outs findRow setRow mint minted total rateAt rateOf place spot has amountOf spentOf outAt mayGrant grantN granted withLease)
open _root_.Go.Proofs.YtbgdlokegibkmaaGreat.Sat (fit add sub mul fit_self)
open _root_.Go.Proofs.YtbgdlokegibkmaaGreat.Edge (Cf Eg An Rq RqNum e0)
open _root_.Go.Proofs.YtbgdlokegibkmaaGreat.Lease (Num Lz)
/-- A row, minted: its credit. -/
theorem minted_avail {m : Nat} {F : Rw} {now R B : Int} (hR0 : 0 ≤ R) (hR1 : R ≤ 2147483648) (hB0 : 0 ≤ B) (hB1 : B ≤ 2147483648) (hF : RowB m F) (ht : F.avail + outs F.out ≤ B) (hm0 : 0 ≤ F.mark) (hm1 : F.mark ≤ 2147483648) (h0 : 0 ≤ now) (h1 : now ≤ 2147483648) :
    (minted F now R B).avail = F.avail + min (R * (max F.mark now - F.mark)) (B - (F.avail + outs F.out)) := by
  have hsum := Ledger.outs_lo fun x hx => (hF.out x hx).2.1
  have hlo := hF.lo
  have htt := Ledger.total_outs hF (by omega)
  have s1 : sub now F.mark = max F.mark now - F.mark := by
    rw [Ledger.sub_two, fit_self h0 (by omega), fit_self (x := F.mark) (by omega) (by omega)]
    split <;> omega
  have s2 : sub B (total F) = B - (F.avail + outs F.out) := by
    rw [Ledger.sub_two, htt, fit_self hB0 (by omega), fit_self (by omega) (by omega), if_neg (by omega)]
  have hd0 : 0 ≤ max F.mark now - F.mark := by omega
  have hd1 : max F.mark now - F.mark ≤ 2147483648 := by omega
  have m1 : mul R (max F.mark now - F.mark) = R * (max F.mark now - F.mark) := by
    have h2 : R * (max F.mark now - F.mark) ≤ 2147483648 * 2147483648 := Int.mul_le_mul hR1 hd1 hd0 (by omega)
    unfold mul Sat.top
    rw [fit_self hR0 (by omega), fit_self hd0 (by omega), if_neg (by omega)]
  have hp := Int.mul_nonneg hR0 hd0
  simp only [minted, s1, s2, m1]
  generalize R * (max F.mark now - F.mark) = X at *
  rw [Ledger.add_two, fit_self hlo (by omega), fit_self (x := min X _) (by omega) (by omega), if_neg (by omega)]
/-- The key 0 alone. -/
def Sole (t : Tb) : Prop := t.rows = [] ∨ ∃ r, t.rows = [r] ∧ r.key = 0
theorem sole_set {t : Tb} {r : Rw} (hk : r.key = 0) (h : Sole t) : setRow t r = ⟨t.start, [r]⟩ := by
  rcases h with h | ⟨q, h, hq⟩ <;> simp [setRow, Ledger.setRows, Ledger.setTo, Ledger.setStep, *]
theorem sole_find (s : Int) {r : Rw} (hk : r.key = 0) : findRow ⟨s, [r]⟩ 0 = r := by
  simp [findRow, place, spot, hk]
theorem sole_key {t : Tb} (h : Sole t) : (findRow t 0).key = 0 := by
  rcases h with e | ⟨r, e, hk⟩
  · simp [findRow, place, spot, e]
  · simp [findRow, place, spot, e, hk]
theorem num0 : Num 0 := by unfold Num; omega
/-- What stands of the table, the edge, and what was spent. -/
structure Mk (c : Cf) (start last : Int) (cost : Int → Int) (i : Int) (t : Tb) (e : Eg) (sp : Int) : Prop where
  rise : Rise 0 t
  good : Edge.Good c e
  st : t.start = start
  sole : Sole t
  tot : (findRow t 0).avail + outs (findRow t 0).out ≤ (c.zs.getD 0 (0, 0)).2
  lo : start ≤ (findRow t 0).mark
  hi : (findRow t 0).mark ≤ last
  same : (e.L = [] ∧ (findRow t 0).out = [] ∧ sp + (findRow t 0).avail ≤ (c.zs.getD 0 (0, 0)).1 * ((findRow t 0).mark - start)) ∨
    ∃ x, e.L = [x] ∧ x.key = 0 ∧ x.gen = 9 ∧ (findRow t 0).out = [(0, x.amount)] ∧ sp + (findRow t 0).avail + (x.amount - x.spent) ≤ (c.zs.getD 0 (0, 0)).1 * ((findRow t 0).mark - start)
  q : ∀ x ∈ e.Q, x.key = 0 ∧ 0 ≤ x.id ∧ x.id < i ∧ x.cost = cost x.id
  d : ∀ n ∈ e.D, n.key = 0
  sp0 : 0 ≤ sp
/-- The configuration's first rate. -/
structure Rate1 (c : Cf) : Prop where
  some : 0 < c.zs.length
  ke : 1 ≤ c.ke
  ke' : c.ke ≤ 16
  R0 : 0 ≤ (c.zs.getD 0 (0, 0)).1
  R1 : (c.zs.getD 0 (0, 0)).1 ≤ 2147483648
  B0 : 0 ≤ (c.zs.getD 0 (0, 0)).2
  B1 : (c.zs.getD 0 (0, 0)).2 ≤ 2147483648
section
variable {c : Cf} {start last : Int} {cost : Int → Int} {i : Int} {t : Tb} {e : Eg} {sp : Int}
theorem mint_sole (hc : Rate1 c) (h : Sole t) (now : Int) : mint t 0 now (toL c) = (⟨t.start, [minted (findRow t 0) now (c.zs.getD 0 (0, 0)).1 (c.zs.getD 0 (0, 0)).2]⟩, 0) := by
  have e0 : rateAt c.zs 0 = 0 := by
    have := hc.some
    unfold rateAt
    rw [if_pos (by omega)]
    rfl
  have hz : 0 ≤ place t.rows 0 ∨ (t.rows.length : Int) < c.ke := by
    have := hc.ke
    rcases h with e | ⟨r, e, hk⟩
    · exact .inr (by simp [e]; omega)
    · exact .inl (by simp [e, place, spot, hk])
  have hk : (minted (findRow t 0) now (c.zs.getD 0 (0, 0)).1 (c.zs.getD 0 (0, 0)).2).key = 0 := sole_key h
  unfold mint
  have e1 : rateOf (toL c) 0 = c.zs.getD 0 (0, 0) := by unfold rateOf toL; simp only [e0]; rfl
  rw [show (toL c).rates = c.zs from rfl, show (toL c).keys = c.ke from rfl, e0, if_neg (by omega), if_pos hz, e1]
  exact Prod.ext (sole_set hk h) rfl
/-- To mint. -/
theorem mk_mint (hc : Rate1 c) (hs0 : 0 ≤ start) (hl : last ≤ 1073741824) (h : Mk c start last cost i t e sp) {now : Int} (h0 : 0 ≤ now) (h1 : now ≤ last) : Mk c start last cost i (mint t 0 now (toL c)).1 e sp ∧ (mint t 0 now (toL c)).2 = 0 ∧ (findRow (mint t 0 now (toL c)).1 0).out = (findRow t 0).out := by
  have hrise := Ledger.zmint h.rise (key := 0) (now := now) num0 (by unfold Ledger.Num; omega) (f := toL c) hc.ke'
  rw [mint_sole hc h.sole now] at hrise ⊢
  have hbf := Ledger.base_find h.rise.base num0
  have hav := minted_avail hc.R0 hc.R1 hc.B0 hc.B1 hbf h.tot (by have := h.lo; omega) (by have := h.hi; omega) h0 (by omega)
  have hk : (minted (findRow t 0) now (c.zs.getD 0 (0, 0)).1 (c.zs.getD 0 (0, 0)).2).key = 0 := sole_key h.sole
  have hfind := sole_find t.start hk
  have hp : 0 ≤ (c.zs.getD 0 (0, 0)).1 * (max (findRow t 0).mark now - (findRow t 0).mark) := Int.mul_nonneg hc.R0 (by omega)
  have hmk : (minted (findRow t 0) now (c.zs.getD 0 (0, 0)).1 (c.zs.getD 0 (0, 0)).2).mark = max (findRow t 0).mark now := rfl
  have hout : (minted (findRow t 0) now (c.zs.getD 0 (0, 0)).1 (c.zs.getD 0 (0, 0)).2).out = (findRow t 0).out := rfl
  have htot := h.tot
  have hlo := h.lo
  have hhi := h.hi
  have hsame := h.same
  have hmul : (c.zs.getD 0 (0, 0)).1 * (max (findRow t 0).mark now - start) = (c.zs.getD 0 (0, 0)).1 * ((findRow t 0).mark - start) + (c.zs.getD 0 (0, 0)).1 * (max (findRow t 0).mark now - (findRow t 0).mark) := by
    rw [← Int.mul_add]
    congr 1
    omega
  refine ⟨⟨hrise, h.good, h.st, .inr ⟨_, rfl, hk⟩, ?_, ?_, ?_, ?_, h.q, h.d, h.sp0⟩, rfl, ?_⟩
  · rw [hfind, hav, hout]; omega
  · rw [hfind, hmk]; omega
  · rw [hfind, hmk]; omega
  · rw [hfind, hmk, hav, hout, hmul]
    rcases hsame with ⟨a, b, d⟩ | ⟨x, a, b, d, k, l⟩
    · exact .inl ⟨a, b, by omega⟩
    · exact .inr ⟨x, a, b, d, k, by omega⟩
  · rw [hfind, hout]
theorem sole_found {t : Tb} (h : Sole t) (ho : (findRow t 0).out ≠ []) : Ledger.findIs t 0 = true := by
  unfold Ledger.findIs
  rcases h with e | ⟨r, e, hk⟩
  · exfalso
    apply ho
    simp [findRow, place, spot, e]
  · simp [e, place, spot, hk]
/-- To close, and settle. -/
theorem mk_settle (hc : Rate1 c) (h : Mk c start last cost i t e sp) : Mk c start last cost i (Ledger.settle t 0 0 (Edge.close e 0 9).2).1 (Edge.close e 0 9).1 sp := by
  have hhi := h.hi
  have hlo := h.lo
  have htot := h.tot
  rcases h.same with ⟨a, b, d⟩ | ⟨x, a, b, d, k, l⟩
  · have hh : has t 0 0 = false := by unfold has; simp [b, outAt, spot]
    have e1 : Edge.close e 0 9 = (e, -1) := by
      unfold Edge.close Lease.close
      obtain ⟨L, Q, D⟩ := e
      simp only at a
      subst a
      simp [Lease.place, spot]
    have e2 : Ledger.settle t 0 0 (-1) = (t, 0) := by unfold Ledger.settle; rw [if_neg (by simp [hh])]
    rw [e1, e2]
    exact h
  · have hx := h.good.l.each x (by rw [a]; exact List.mem_singleton.2 rfl)
    have hbf := Ledger.base_find h.rise.base num0
    have hA := hbf.out (0, x.amount) (by rw [k]; exact List.mem_singleton.2 rfl)
    have hlo2 := hbf.lo
    simp only at hA
    have e1 : Edge.close e 0 9 = (⟨[], e.Q, e.D ++ [⟨0, x.spent⟩]⟩, x.spent) := by
      unfold Edge.close Lease.close
      obtain ⟨L, Q, D⟩ := e
      simp only at a
      subst a
      have hp : Lease.place [x] 0 = 0 := by simp [Lease.place, spot, b]
      have ht : Lease.the [x] 0 = x := by unfold Lease.the; rw [hp]; rfl
      rw [hp, ht, if_neg (by omega), if_pos d]
      simp only [Int.toNat_zero, List.eraseIdx_cons_zero]
      rw [if_pos hx.1]
    have ho : outAt (findRow t 0).out 0 = 0 := by rw [k]; simp [outAt, spot]
    have hh : has t 0 0 = true := by
      unfold has
      rw [sole_found h.sole (by rw [k]; simp), ho]
      rfl
    have ha : amountOf t 0 0 = x.amount := by unfold amountOf; rw [ho, k]; rfl
    have hsp : spentOf x.amount x.spent = x.spent := by unfold spentOf; rw [if_neg (by omega)]
    have htot2 := htot
    rw [k] at htot2
    simp only [outs] at htot2
    have hB1 := hc.B1
    have hset : Ledger.settle t 0 0 x.spent = (setRow t (Ledger.settled (findRow t 0) 0 (x.amount - x.spent)), x.spent) := by
      unfold Ledger.settle
      rw [if_pos hh, ha, hsp, ho]
      rfl
    have hk : (Ledger.settled (findRow t 0) 0 (x.amount - x.spent)).key = 0 := sole_key h.sole
    have hav : (Ledger.settled (findRow t 0) 0 (x.amount - x.spent)).avail = (findRow t 0).avail + (x.amount - x.spent) := by
      simp only [Ledger.settled]
      rw [Ledger.add_two, fit_self hlo2 (by omega), fit_self (by omega) (by omega), if_neg (by omega)]
    have hout : (Ledger.settled (findRow t 0) 0 (x.amount - x.spent)).out = [] := by
      simp only [Ledger.settled, Ledger.butAt, k]
      rfl
    have hmk : (Ledger.settled (findRow t 0) 0 (x.amount - x.spent)).mark = (findRow t 0).mark := rfl
    have hrise := Ledger.zsettle h.rise (key := 0) num0 0 x.spent
    have hgd := good_close h.good 0 9
    rw [e1] at hgd
    rw [e1]
    simp only
    rw [hset] at hrise ⊢
    simp only at hrise ⊢
    rw [sole_set hk h.sole] at hrise ⊢
    have hfind := sole_find t.start hk
    refine ⟨hrise, hgd, h.st, .inr ⟨_, rfl, hk⟩, ?_, ?_, ?_, .inl ⟨rfl, ?_, ?_⟩, h.q, fun n hn => ?_, h.sp0⟩
    · rw [hfind, hav, hout]; simp only [outs]; omega
    · rw [hfind, hmk]; exact hlo
    · rw [hfind, hmk]; exact hhi
    · rw [hfind, hout]
    · rw [hfind, hav, hmk]; omega
    · rcases List.mem_append.1 hn with hn | hn
      · exact h.d n hn
      · rw [List.mem_singleton.1 hn]
/-- To settle a key. -/
theorem mk_st1 (hc : Rate1 c) (hs0 : 0 ≤ start) (hl : last ≤ 1073741824) (h : Mk c start last cost i t e sp) {now : Int} (h0 : 0 ≤ now) (h1 : now ≤ last) : Mk c start last cost i (st1 c 0 9 now (t, e) 0).1 (st1 c 0 9 now (t, e) 0).2 sp :=
  mk_settle hc (mk_mint hc hs0 hl h h0 h1).1
theorem mk_sts (hc : Rate1 c) (hs0 : 0 ≤ start) (hl : last ≤ 1073741824) {now : Int} (h0 : 0 ≤ now) (h1 : now ≤ last) : ∀ (l : List Int) (s : Tb × Eg), (∀ k ∈ l, k = 0) → Mk c start last cost i s.1 s.2 sp → Mk c start last cost i (sts c 0 9 now l s).1 (sts c 0 9 now l s).2 sp
  | [], _, _, h => h
  | k :: l, s, hk, h => by
    obtain rfl := hk k List.mem_cons_self
    exact mk_sts hc hs0 hl h0 h1 l _ (fun x hx => hk x (List.mem_cons_of_mem _ hx)) (mk_st1 hc hs0 hl (t := s.1) (e := s.2) h h0 h1)
theorem sole_held {t : Tb} (h : Sole t) : ∀ k ∈ Ledger.held t 0, k = 0 := by
  intro k hk
  unfold Ledger.held Ledger.heldOf at hk
  obtain ⟨r, hr, rfl⟩ := List.mem_map.1 hk
  have hm := (List.mem_filter.1 hr).1
  rcases h with e | ⟨q, e, hq⟩
  · rw [e] at hm; cases hm
  · rw [e] at hm; rw [List.mem_singleton.1 hm]; exact hq
theorem mk_drop (h : Mk c start last cost i t e sp) : Mk c start last cost i t (Edge.drop e 9) sp := by
  have hgd := good_drop h.good 9
  have e1 : (Edge.drop e 9).L = e.L := by
    simp only [Edge.drop, Lease.drop]
    rcases h.same with ⟨a, -⟩ | ⟨x, a, -, d, -⟩
    · rw [a]; rfl
    · rw [a]
      have : Lease.elder 9 x = false := by unfold Lease.elder; rw [d]; decide
      simp [this]
  exact ⟨h.rise, hgd, h.st, h.sole, h.tot, h.lo, h.hi, by rw [e1]; exact h.same, h.q, h.d, h.sp0⟩
theorem mk_settled (hc : Rate1 c) (hs0 : 0 ≤ start) (hl : last ≤ 1073741824) (h : Mk c start last cost i t e sp) {now : Int} (h0 : 0 ≤ now) (h1 : now ≤ last) : Mk c start last cost i (settled c 0 9 now t e).1 (settled c 0 9 now t e).2 sp :=
  mk_drop (mk_sts hc hs0 hl h0 h1 _ (t, e) (sole_held h.sole) h)
/-- What was granted costs. -/
def gsum (cost : Int → Int) : List An → Int
  | [] => 0
  | y :: l => (if y.why = 0 then cost y.id else 0) + gsum cost l
theorem gsum_append (cost : Int → Int) : ∀ a b : List An, gsum cost (a ++ b) = gsum cost a + gsum cost b
  | [], b => by simp [gsum]
  | y :: a, b => by simp only [List.cons_append, gsum, gsum_append cost a b]; omega
/-- Who is granted has a name below. -/
def Told (i : Int) (l : List An) : Prop := ∀ y ∈ l, y.why = 0 → 0 ≤ y.id ∧ y.id < i
theorem mk_spend (h : Mk c start last cost i t e sp) {k x now : Int} (hs : (Lease.spend e.L k x now).2.2 = true) {Q' : List Queue.It} (hq : ∀ y ∈ Q', y ∈ e.Q) (hg : Edge.Good c ⟨(Lease.spend e.L k x now).1, Q', e.D⟩) : Mk c start last cost i t ⟨(Lease.spend e.L k x now).1, Q', e.D⟩ (sp + x) := by
  unfold Lease.spend at hs hg ⊢
  split at hs
  · simp at hs
  · rename_i hn
    rw [if_neg hn] at hg ⊢
    obtain ⟨h1, h2, h3, h4⟩ := Lease.left_some hn
    obtain ⟨h5, h6, h7⟩ := Lease.place_some h1
    have hsp := h.sp0
    rcases h.same with ⟨a, -⟩ | ⟨x', a, b, d, k', l'⟩
    · rw [a] at h5; simp at h5
    · have h8 : ∀ z ∈ e.L, z = x' := by rw [a]; exact fun z hz => List.mem_singleton.1 hz
      have hx' : Lease.the e.L k = x' := h8 _ h7
      have hp0 : (Lease.place e.L k).toNat = 0 := by rw [a] at h5 ⊢; simpa using h5
      have hL : e.L.set (Lease.place e.L k).toNat (Lease.more (Lease.the e.L k) x) = [Lease.more x' x] := by rw [hx', hp0, a]; rfl
      simp only at hg ⊢
      rw [hL] at hg ⊢
      refine ⟨h.rise, hg, h.st, h.sole, h.tot, h.lo, h.hi, .inr ⟨_, rfl, b, d, k', ?_⟩, fun y hy => h.q y (hq y hy), h.d, by omega⟩
      simp only [Lease.more]
      omega
theorem take_mem {Q : List Queue.It} {id : Int} : ∀ y ∈ (Queue.take Q id).1, y ∈ Q := by
  intro y hy
  unfold Queue.take at hy
  split at hy
  · exact hy
  · exact List.mem_of_mem_eraseIdx hy
theorem mk_serves {now : Int} : ∀ (l : List Queue.It) {e : Eg} {sp : Int}, (∀ y ∈ l, y.cost = cost y.id ∧ 0 ≤ y.id ∧ y.id < i) → Mk c start last cost i t e sp → Mk c start last cost i t (Edge.serves 0 now l e).1 (sp + gsum cost (Edge.serves 0 now l e).2) ∧ Told i (Edge.serves 0 now l e).2
  | [], e, sp, _, h => ⟨by simpa [Edge.serves, gsum] using h, fun y hy => by simp [Edge.serves] at hy⟩
  | x :: l, e, sp, hl, h => by
    unfold Edge.serves
    split
    · rename_i hs
      obtain ⟨hx, hx0, hx1⟩ := hl x List.mem_cons_self
      have hg : Edge.Good c ⟨(Lease.spend e.L 0 x.cost now).1, (Queue.take e.Q x.id).1, e.D⟩ := ⟨Lease.good_spend h.good.l _ _ _, Queue.good_take h.good.q _, fun y hy => h.good.until' y (take_mem y hy)⟩
      have h2 := mk_spend h hs (Q' := (Queue.take e.Q x.id).1) take_mem hg
      obtain ⟨h3, h4⟩ := mk_serves l (fun y hy => hl y (List.mem_cons_of_mem _ hy)) h2
      refine ⟨?_, fun y hy hw => ?_⟩
      · simp only [gsum]
        rw [if_pos trivial, ← hx, ← Int.add_assoc]
        exact h3
      · rcases List.mem_cons.1 hy with rfl | hy
        · exact ⟨hx0, hx1⟩
        · exact h4 y hy hw
    · exact ⟨by simpa [gsum] using h, fun y hy => by simp at hy⟩
theorem mk_more {last' : Int} (h : Mk c start last cost i t e sp) (hl : last ≤ last') : Mk c start last' cost i t e sp := ⟨h.rise, h.good, h.st, h.sole, h.tot, h.lo, by have := h.hi; omega, h.same, h.q, h.d, h.sp0⟩
theorem grant_nought {t : Tb} {key node want : Int} (h : ¬ 0 < (Ledger.grant t key node want).2) : Ledger.grant t key node want = (t, 0) := by
  unfold Ledger.grant at h ⊢
  by_cases hm : mayGrant t key node want = true
  · rw [if_pos hm] at h
    have := (Ledger.may_in hm).1
    simp only at h
    omega
  · rw [if_neg hm]
/-- To lend, and answer who waits. -/
theorem mk_lend (h : Mk c start last cost i t e sp) (want now : Int) (hp : 0 < (Ledger.grant t 0 0 want).2) :
    Mk c start last cost i (Ledger.grant t 0 0 want).1 (Edge.grant e (lz c 0 9 (Ledger.grant t 0 0 want).2 now) now).1 (sp + gsum cost (Edge.grant e (lz c 0 9 (Ledger.grant t 0 0 want).2 now) now).2) ∧ Told i (Edge.grant e (lz c 0 9 (Ledger.grant t 0 0 want).2 now) now).2 := by
  have hm : mayGrant t 0 0 want = true := by
    cases hm : mayGrant t 0 0 want with
    | true => rfl
    | false =>
      unfold Ledger.grant at hp
      rw [if_neg (by simp [hm])] at hp
      simp at hp
  have hin := Ledger.may_in hm
  have hout : outAt (findRow t 0).out 0 < 0 := by
    simp only [mayGrant, Bool.and_eq_true, decide_eq_true_eq] at hm
    exact hm.2
  have hrise := Ledger.zgrant h.rise (key := 0) num0 0 want
  have e1 : Ledger.grant t 0 0 want = (setRow t (granted (findRow t 0) 0 (grantN (findRow t 0) want)), grantN (findRow t 0) want) := by unfold Ledger.grant; rw [if_pos hm]
  rw [e1] at hrise ⊢
  simp only at hrise ⊢
  have hN : grantN (findRow t 0) want ≤ (findRow t 0).avail ∧ grantN (findRow t 0) want ≤ 2147483648 := by unfold grantN; omega
  generalize grantN (findRow t 0) want = N at *
  rcases h.same with ⟨a, b, d⟩ | ⟨x, a, b, d, k, l⟩
  · have hk : (granted (findRow t 0) 0 N).key = 0 := sole_key h.sole
    have hfind := sole_find t.start hk
    have hwo : (granted (findRow t 0) 0 N).out = [(0, N)] := by
      simp only [granted, b]
      rfl
    rw [sole_set hk h.sole] at hrise ⊢
    have hx : Lease.Nums (lz c 0 9 N now) := lz_num num0 (by unfold Num; omega) (by unfold Num; omega)
    have htil : 0 ≤ (lz c 0 9 N now).til := Sat.add_lo _
    have hput : Lease.put e.L (lz c 0 9 N now) = ([lz c 0 9 N now], 0) := by
      unfold Lease.put
      rw [if_neg (by unfold Lease.wrong; simp only [lz] at htil ⊢; omega), a, if_neg (by simp [Lease.place, spot])]
      rfl
    have hg1 : Edge.Good c ⟨[lz c 0 9 N now], e.Q, e.D⟩ := by
      have := Lease.good_put h.good.l hx
      rw [hput] at this
      exact ⟨this, h.good.q, h.good.until'⟩
    have hm1 : Mk c start last cost i ⟨t.start, [granted (findRow t 0) 0 N]⟩ ⟨[lz c 0 9 N now], e.Q, e.D⟩ sp := by
      have htot := h.tot
      rw [b] at htot
      simp only [outs] at htot
      have hav : (granted (findRow t 0) 0 N).avail = (findRow t 0).avail - N := rfl
      have hmk : (granted (findRow t 0) 0 N).mark = (findRow t 0).mark := rfl
      refine ⟨hrise, hg1, h.st, .inr ⟨_, rfl, hk⟩, ?_, by rw [hfind, hmk]; exact h.lo, by rw [hfind, hmk]; exact h.hi, .inr ⟨_, rfl, rfl, rfl, ?_, ?_⟩, h.q, h.d, h.sp0⟩
      · rw [hfind, hwo, hav]; simp only [outs]; omega
      · rw [hfind, hwo]; rfl
      · rw [hfind, hmk, hav]
        simp only [lz]
        omega
    unfold Edge.grant
    rw [hput, if_pos rfl]
    exact mk_serves _ (fun y hy => by obtain ⟨q1, q2, q3, q4⟩ := h.q y (Queue.mem_of hy).1; exact ⟨q4, q2, q3⟩) hm1
  · rw [k] at hout
    simp [outAt, spot] at hout
theorem told_append {a b : List An} (ha : Told i a) (hb : Told i b) : Told i (a ++ b) := fun y hy hw => (List.mem_append.1 hy).elim (fun h => ha y h hw) fun h => hb y h hw
/-- To grant a key. -/
theorem mk_gr1 (hc : Rate1 c) (hs0 : 0 ≤ start) (hl : last ≤ 1073741824) {s : Gs} (h : Mk c start last cost i s.t s.e (sp + gsum cost s.out)) (ht : Told i s.out) {now : Int} (h0 : 0 ≤ now) (h1 : now ≤ last) (w : Int × Int) (hw : w.1 = 0) :
    Mk c start last cost i (gr1 c 0 9 now s w).t (gr1 c 0 9 now s w).e (sp + gsum cost (gr1 c 0 9 now s w).out) ∧ Told i (gr1 c 0 9 now s w).out := by
  obtain ⟨m1, m2, -⟩ := mk_mint hc hs0 hl h h0 h1
  unfold gr1
  rw [hw, if_neg (by simp [m2])]
  by_cases hp : 0 < (Ledger.grant (mint s.t 0 now (toL c)).1 0 0 w.2).2
  · rw [if_pos hp]
    obtain ⟨k1, k2⟩ := mk_lend m1 w.2 now hp
    refine ⟨?_, told_append ht k2⟩
    simp only [gsum_append]
    rw [← Int.add_assoc]
    exact k1
  · rw [if_neg hp, grant_nought hp]
    exact ⟨m1, ht⟩
theorem mk_grs (hc : Rate1 c) (hs0 : 0 ≤ start) (hl : last ≤ 1073741824) {now : Int} (h0 : 0 ≤ now) (h1 : now ≤ last) : ∀ (l : List (Int × Int)) (s : Gs), (∀ w ∈ l, w.1 = 0) → Mk c start last cost i s.t s.e (sp + gsum cost s.out) → Told i s.out →
    Mk c start last cost i (grs c 0 9 now l s).t (grs c 0 9 now l s).e (sp + gsum cost (grs c 0 9 now l s).out) ∧ Told i (grs c 0 9 now l s).out
  | [], _, _, h, ht => ⟨h, ht⟩
  | w :: l, s, hw, h, ht => by
    obtain ⟨k1, k2⟩ := mk_gr1 hc hs0 hl h ht h0 h1 w (hw w List.mem_cons_self)
    exact mk_grs hc hs0 hl h0 h1 l _ (fun x hx => hw x (List.mem_cons_of_mem _ hx)) k1 k2
theorem kfold_mem (k : Int) : ∀ (l : List Int) (s : List Int × Bool) (x : Int), x ∈ (l.foldl (Queue.kstep k) s).1 → x = k ∨ x ∈ s.1 ∨ x ∈ l
  | [], _, _, h => .inr (.inl h)
  | a :: l, s, x, h => by
    have h1 : x ∈ (Queue.kstep k s a).1 → x = k ∨ x ∈ s.1 ∨ x = a := by
      unfold Queue.kstep
      repeat' split
      all_goals simp only [List.mem_append, List.mem_singleton]
      all_goals (intro h; first | (rcases h with (h | h) | h <;> simp [h]) | (rcases h with h | h <;> simp [h]) | simp [h])
    rcases kfold_mem k l _ x h with h | h | h
    · exact .inl h
    · rcases h1 h with h | h | h
      · exact .inl h
      · exact .inr (.inl h)
      · exact .inr (.inr (by rw [h]; exact List.mem_cons_self))
    · exact .inr (.inr (List.mem_cons_of_mem _ h))
theorem kput_mem (k : Int) (l : List Int) (x : Int) (h : x ∈ Queue.kput k l) : x = k ∨ x ∈ l := by
  have h1 : x ∈ (Queue.kfold k l).1 → x = k ∨ x ∈ l := fun h => by
    rcases kfold_mem k l ([], false) x h with h | h | h
    · exact .inl h
    · cases h
    · exact .inr h
  unfold Queue.kput at h
  split at h
  · exact h1 h
  · rcases List.mem_append.1 h with h | h
    · exact h1 h
    · exact .inl (List.mem_singleton.1 h)
theorem qkeys_mem : ∀ (l : List Queue.It) (s : List Int) (x : Int), x ∈ l.foldl (fun s x => Queue.kput x.key s) s → x ∈ s ∨ ∃ y ∈ l, y.key = x
  | [], _, _, h => .inl h
  | a :: l, s, x, h => by
    rcases qkeys_mem l _ x h with h | ⟨y, hy, e⟩
    · rcases kput_mem _ _ _ h with h | h
      · exact .inr ⟨a, List.mem_cons_self, h.symm⟩
      · exact .inl h
    · exact .inr ⟨y, List.mem_cons_of_mem _ hy, e⟩
theorem dof_zero : ∀ (l : List Demand.Nt) (s k : Int), (∀ n ∈ l, n.key ≠ k) → l.foldl (Demand.estep k) s = s
  | [], _, _, _ => rfl
  | a :: l, s, k, h => by
    rw [List.foldl_cons, show Demand.estep k s a = s by unfold Demand.estep; rw [if_neg (h a List.mem_cons_self)]]
    exact dof_zero l s k fun n hn => h n (List.mem_cons_of_mem _ hn)
theorem merge_in (x : Int) : ∀ (a b : List Int), x ∈ Edge.merge a b → x ∈ a ∨ x ∈ b
  | [], b, h => .inr (by simpa [Edge.merge] using h)
  | a :: l, [], h => .inl (by simpa [Edge.merge] using h)
  | a :: l, b :: m, h => by
    have h1 := merge_in x l (b :: m)
    have h2 := merge_in x l m
    have h3 := merge_in x (a :: l) m
    rw [Edge.merge] at h
    split at h
    · rcases List.mem_cons.1 h with h | h
      · exact .inl (by simp [h])
      · rcases h1 h with h | h
        · exact .inl (by simp [h])
        · exact .inr h
    · split at h
      · rcases List.mem_cons.1 h with h | h
        · exact .inr (by simp [h])
        · rcases h2 h with h | h
          · exact .inl (by simp [h])
          · exact .inr (by simp [h])
      · rcases List.mem_cons.1 h with h | h
        · exact .inr (by simp [h])
        · rcases h3 h with h | h
          · exact .inl h
          · exact .inr (by simp [h])
theorem sole_wants (hq : ∀ x ∈ e.Q, x.key = 0) (hd : ∀ n ∈ e.D, n.key = 0) : ∀ w ∈ Edge.wants c e, w.1 = 0 := by
  intro w hw
  unfold Edge.wants at hw
  obtain ⟨k, hk, rfl⟩ := List.mem_map.1 (List.mem_filter.1 hw).1
  show k = 0
  unfold Edge.keys at hk
  rcases merge_in _ _ _ hk with h | h
  · rcases qkeys_mem e.Q [] k h with h | ⟨y, hy, rfl⟩
    · cases h
    · exact hq y hy
  · have h1 := (Demand.keys_mem _ _).1 h
    refine Classical.byContradiction fun hne => h1 ?_
    exact dof_zero e.D 0 k fun n hn hnk => hne (by rw [← hnk]; exact hd n hn)
/-- A visit. -/
theorem mk_visit (hc : Rate1 c) (hs0 : 0 ≤ start) (hl : last ≤ 1073741824) {t : Tk} (h : Mk c start last cost i t.table e sp) (hg : t.gen = 9) {now : Int} (h0 : 0 ≤ now) (h1 : now ≤ last) :
    Mk c start last cost i (visit c 0 now t e).1.table (visit c 0 now t e).2.1 (sp + gsum cost (visit c 0 now t e).2.2) ∧ Told i (visit c 0 now t e).2.2 := by
  unfold visit
  split
  · rw [hg]
    have hs := mk_settled hc hs0 hl h h0 h1
    exact mk_grs hc hs0 hl h0 h1 _ _ (sole_wants (fun x hx => (hs.q x hx).1) hs.d) (by simpa [gsum] using hs) fun y hy => by cases hy
  · rw [(stamped_rest t 0 now).2.2.1]
    exact ⟨by simpa [gsum] using h, fun y hy => by cases hy⟩
theorem mk_next (h : Mk c start last cost i t e sp) : Mk c start last cost (i + 1) t e sp := ⟨h.rise, h.good, h.st, h.sole, h.tot, h.lo, h.hi, h.same, fun x hx => by obtain ⟨a, b, d, k⟩ := h.q x hx; exact ⟨a, b, by omega, k⟩, h.d, h.sp0⟩
theorem gsum_no (id : Int) {why : Int} (h : why ≠ 0) : gsum cost (Edge.no id why) = 0 ∧ Told i (Edge.no id why) := by
  refine ⟨by simp [Edge.no, gsum, h], fun y hy hw => ?_⟩
  simp only [Edge.no, List.mem_singleton] at hy
  subst hy
  exact absurd hw h
/-- A request. -/
theorem mk_ask (h : Mk c start last cost i t e sp) (hi : 0 ≤ i) {r : Rq} (hr : RqNum r) (hk : r.key = 0) (hid : r.id = i) (hcost : r.cost = cost i) (now : Int) :
    Mk c start last cost (i + 1) t (Edge.ask c e r now).1 (sp + gsum cost (Edge.ask c e r now).2) ∧ Told (i + 1) (Edge.ask c e r now).2 := by
  have hn := mk_next h
  have hgd := Edge.good_ask h.good hr now
  have hno : ∀ why : Int, why ≠ 0 → Mk c start last cost (i + 1) t e (sp + gsum cost (Edge.no r.id why)) ∧ Told (i + 1) (Edge.no r.id why) := fun why hw => by
    obtain ⟨h1, h2⟩ := gsum_no (cost := cost) (i := i + 1) r.id hw
    rw [h1, Int.add_zero]
    exact ⟨hn, h2⟩
  unfold Edge.ask at hgd ⊢
  split
  · exact hno 7 (by decide)
  · rename_i g1
    rw [if_neg g1] at hgd
    split
    · exact hno 1 (by decide)
    · rename_i g2
      rw [if_neg g2] at hgd
      split
      · exact hno 6 (by decide)
      · rename_i g3
        rw [if_neg g3] at hgd
        split
        · exact hno 5 (by decide)
        · rename_i g4
          rw [if_neg g4] at hgd
          split
          · rename_i g5
            rw [if_pos g5] at hgd
            have := mk_spend hn g5.2 (Q' := e.Q) (fun _ h => h) hgd
            refine ⟨?_, fun y hy _ => ?_⟩
            · simp only [gsum, Int.add_zero]
              rw [if_pos trivial]
              rw [hid, ← hcost]
              exact this
            · simp only [List.mem_singleton] at hy
              subst hy
              simp only
              omega
          · rename_i g5
            rw [if_neg g5] at hgd
            unfold Edge.wait at hgd ⊢
            split
            · exact hno 1 (by decide)
            · rename_i g6
              rw [if_neg g6] at hgd
              split
              · rename_i g7
                rw [if_pos g7] at hgd
                refine ⟨?_, fun y hy => by cases hy⟩
                simp only [gsum, Int.add_zero]
                refine ⟨hn.rise, hgd, hn.st, hn.sole, hn.tot, hn.lo, hn.hi, hn.same, fun x hx => ?_, hn.d, hn.sp0⟩
                simp only at hx
                have hx2 : x ∈ e.Q ∨ x = Edge.item r now := by
                  unfold Queue.put at hx
                  repeat' split at hx
                  all_goals simp only at hx
                  · exact .inl hx
                  · exact .inl hx
                  · exact .inl hx
                  · simpa using hx
                rcases hx2 with hx | rfl
                · exact hn.q x hx
                · simp only [Edge.item]
                  exact ⟨hk, by omega, by omega, by rw [hid, hcost]⟩
              · exact hno 2 (by decide)
end
end Go.Proofs.YtbgdlokegibkmaaGreat.Visit

namespace Go.Proofs.YtbgdlokegibkmaaGreat.Visit
open _root_.Go.Proofs.YtbgdlokegibkmaaGreat.Frame (Rw Tb Tk noRow tokenOk tableOk rowAt rowOk leaseAt isIn isKey allTo stampsOk tokenHead)
open _root_.Go.Proofs.YtbgdlokegibkmaaGreat.Ledger (Rise RowB outs findRow)
open _root_.Go.Proofs.YtbgdlokegibkmaaGreat.Edge (Cf Eg An Rq RqNum e0)
open _root_.Go.Proofs.YtbgdlokegibkmaaGreat.Lease (Num)
theorem rate1 {c : Cf} (h : c.check = 0) : Rate1 c := by
  obtain ⟨h1, h2⟩ := check_ke h
  obtain ⟨h3, -⟩ := check_len h
  have hz : ∀ z ∈ c.zs, (0 ≤ z.1 ∧ z.1 ≤ 2147483648) ∧ 0 ≤ z.2 ∧ z.2 ≤ 2147483648 := by
    unfold Cf.check Conf.check at h
    repeat' split at h
    all_goals first | (simp at h; done) | skip
    rename_i h4
    have h4 : Conf.rates c.zs = true := by simpa using h4
    simp only [Conf.rates, Bool.and_eq_true] at h4
    intro z hz
    have h5 := List.all_eq_true.1 h4.2 z hz
    simp only [Conf.rate1, Conf.within, Bool.and_eq_true, decide_eq_true_eq] at h5
    omega
  have h0 := hz (c.zs.getD 0 (0, 0)) (by simp [List.getD, show 0 < c.zs.length by omega])
  exact ⟨by omega, h1, h2, h0.1.1, h0.1.2, h0.2.1, h0.2.2⟩
theorem rows_in {r : Rw} {m : Nat} (h : RowB m r) : 0 ≤ outs r.out := by
  have : ∀ (l : List (Int × Int)), (∀ x ∈ l, 1 ≤ x.2) → 0 ≤ outs l := by
    intro l
    induction l with
    | nil => intro _; simp [outs]
    | cons x l ih =>
      intro hx
      have h1 := hx x (by simp)
      have h2 := ih fun y hy => hx y (by simp [hy])
      simp only [outs] at *
      omega
  exact this _ fun x hx => (h.out x hx).2.1
/-- The table may be. -/
theorem mk_table {c : Cf} {start last : Int} {cost : Int → Int} {i : Int} {t : Tb} {e : Eg} {sp : Int} (hc : Rate1 c) (hs0 : 0 ≤ start) (hl : last ≤ 1073741824) (h : Mk c start last cost i t e sp) : tableOk t = true := by
  have hst := h.st
  rcases h.sole with hs | ⟨r, hs, hk⟩
  · simp only [tableOk, hs, Bool.and_eq_true, decide_eq_true_eq]
    refine ⟨⟨?_, by simp⟩, by simp [allTo]⟩
    have := h.lo
    have := h.hi
    simp [isIn]; omega
  · have hf : findRow t 0 = r := by
      obtain ⟨s, rows⟩ := t
      simp only at hs
      subst hs
      exact sole_find s hk
    have hrb := h.rise.base.rows r (by rw [hs]; simp)
    have h1 := h.tot
    have h2 := h.lo
    have h3 := h.hi
    have h4 := rows_in hrb
    have h5 := hrb.lo
    have h6 := hc.B1
    rw [hf] at h1 h2 h3
    have hout : r.out = [] ∨ ∃ a, r.out = [(0, a)] := by
      rcases h.same with ⟨-, k, -⟩ | ⟨x, -, -, -, k, -⟩
      · exact .inl (hf ▸ k)
      · exact .inr ⟨_, hf ▸ k⟩
    have hro : rowOk r t.start = true := by
      simp only [rowOk, Bool.and_eq_true, decide_eq_true_eq]
      refine ⟨⟨⟨⟨by simp [isKey, hk], by simp [isIn]; omega⟩, by simp [isIn]; omega⟩, by have := hrb.len; omega⟩, ?_⟩
      rcases hout with ho | ⟨a, ho⟩
      · simp [ho, allTo]
      · have h7 := hrb.out (0, a) (by rw [ho]; simp)
        rw [ho]
        refine Frame.allTo_true fun j hj => ?_
        obtain rfl : j = 0 := by simp at hj; omega
        simp [leaseAt, isIn]; omega
    simp only [tableOk, hs, Bool.and_eq_true, decide_eq_true_eq]
    refine ⟨⟨by simp [isIn]; omega, by simp⟩, Frame.allTo_true fun j hj => ?_⟩
    obtain rfl : j = 0 := by simp at hj; omega
    show Frame.rowAt [r] t.start 0 = true
    have hro' : rowOk ([r].getD 0 Frame.noRow) t.start = true := hro
    unfold Frame.rowAt
    rw [hro']
    rfl
/-- The token's own numbers. -/
structure Nine (c : Cf) (t : Tk) : Prop where
  gen : t.gen = 9
  hop : t.hop = 0
  len : (t.stamps.length : Int) = c.n
  at' : ∀ x ∈ t.stamps, -1 ≤ x ∧ x ≤ 1073741824
theorem nine_token {c : Cf} {start last : Int} {cost : Int → Int} {i : Int} {t : Tk} {e : Eg} {sp : Int} (hck : c.check = 0) (hs0 : 0 ≤ start) (hl : last ≤ 1073741824) (h : Mk c start last cost i t.table e sp) (h9 : Nine c t) : tokenOk t = true := by
  have hn : 1 ≤ c.n ∧ c.n ≤ 64 := by
    have h := hck
    unfold Cf.check Conf.check at h
    split at h
    · simp at h
    · rename_i h1
      simp only [Conf.within, Bool.not_eq_false, Bool.and_eq_true, decide_eq_true_eq] at h1
      omega
  have h1 := h9.len
  simp only [tokenOk, Bool.and_eq_true, mk_table (rate1 hck) hs0 hl h, and_true, tokenHead, h9.gen, h9.hop]
  refine ⟨⟨⟨by simp [isIn], by simp [isIn]⟩, by simp [isIn]; omega⟩, ?_⟩
  refine Frame.allTo_true fun j hj => ?_
  have h2 := h9.at' (t.stamps.getD j 0) (by simp [List.getD, hj])
  simp only [isIn, decide_eq_true_eq]
  omega
theorem nine_right {c : Cf} {start last : Int} {cost : Int → Int} {i : Int} {t : Tk} {e : Eg} {sp now : Int} (hck : c.check = 0) (hs0 : 0 ≤ start) (hl : last ≤ 1073741824) (h : Mk c start last cost i t.table e sp) (h9 : Nine c t) (h0 : 0 ≤ now) (h1 : now ≤ 1073741824) : right c t 0 now = true := by
  have ht := nine_token hck hs0 hl h h9
  have hl1 : 1 ≤ (t.stamps.length : Int) := by
    simp only [tokenOk, tokenHead, isIn, Bool.and_eq_true, decide_eq_true_eq] at ht
    omega
  simp only [right, ht, hck, h9.len, Bool.and_eq_true, decide_eq_true_eq]
  have := h9.len
  refine ⟨⟨⟨⟨⟨⟨trivial, trivial⟩, trivial⟩, by omega⟩, by omega⟩, h0⟩, by omega⟩
theorem nine_visit {c : Cf} {t : Tk} {e : Eg} {now : Int} (h9 : Nine c t) (h0 : 0 ≤ now) (h1 : now ≤ 1073741824) : Nine c (visit c 0 now t e).1 := by
  obtain ⟨a1, a2, a3, a4⟩ := stamped_rest t 0 now
  have hs : ∀ x ∈ (Token.stamped t 0 now).1.stamps, -1 ≤ x ∧ x ≤ 1073741824 := by
    unfold Token.stamped
    split
    · exact h9.at'
    · intro x hx
      rcases List.mem_or_eq_of_mem_set hx with h | h
      · exact h9.at' x h
      · omega
  unfold visit
  split
  · exact ⟨h9.gen, h9.hop, by simp only; rw [a4]; exact h9.len, hs⟩
  · exact ⟨a1.trans h9.gen, a2.trans h9.hop, by rw [a4]; exact h9.len, hs⟩
/-- An act, as the law asks it: of the key 0, named by its place. -/
def named (a : Av) (j : Nat) : Rq := ⟨(j : Int), 0, a.r.cost, a.r.cls, a.r.wait⟩
theorem named_num {a : Av} {j : Nat} (h : AvNum a) (hj : j ≤ 40) : RqNum (named a j) := by
  obtain ⟨⟨h1, h2, h3, h4, h5⟩, h6⟩ := h
  refine ⟨?_, ?_, h3, h4, h5⟩
  · simp only [named, Num] at *; omega
  · simp only [named, Num] at *; omega
def makeOf (c : Cf) (s : Vs) (a : Av) (j : Nat) : Vs × List An :=
  if a.visit then (⟨(visit c 0 a.now s.t s.e).1, (visit c 0 a.now s.t s.e).2.1⟩, (visit c 0 a.now s.t s.e).2.2) else (⟨s.t, (Edge.ask c s.e (named a j) a.now).1⟩, (Edge.ask c s.e (named a j) a.now).2)
def lastOf (last : Int) (a : Av) : Int := if a.visit then max last a.now else last
def costOf (l : List Av) (i : Int) : Int := (l.getD i.toNat zv).r.cost
/-- What stands ahead of act j. -/
structure Mi (c : Cf) (start last : Int) (l : List Av) (j : Nat) (s : Vs) (sp : Int) : Prop where
  mk' : Mk c start last (costOf l) (j : Int) s.t.table s.e sp
  nine : Nine c s.t
  inv : Inv c (16 * j) s
  hi : last ≤ 1073741824
theorem mi_step {c : Cf} {start last : Int} {l : List Av} {j : Nat} {s : Vs} {sp : Int} (hck : c.check = 0) (hs0 : 0 ≤ start) (h : Mi c start last l j s sp) (hj : j < l.length) (hl : l.length ≤ 40) (hn : AvNum (l.getD j zv)) (h0 : 0 ≤ (l.getD j zv).now) (h1 : (l.getD j zv).now ≤ 1073741824) :
    Mi c start (lastOf last (l.getD j zv)) l (j + 1) (makeOf c s (l.getD j zv) j).1 (sp + gsum (costOf l) (makeOf c s (l.getD j zv) j).2) ∧ Told ((j : Int) + 1) (makeOf c s (l.getD j zv) j).2 := by
  have hke := (check_ke hck).2
  have hcs : costOf l (j : Int) = (l.getD j zv).r.cost := by simp [costOf]
  generalize l.getD j zv = a at *
  have hc := rate1 hck
  have hR := nine_right hck hs0 h.hi h.mk' h.nine h0 h1
  unfold makeOf lastOf
  cases a.visit with
  | true =>
    simp only [if_true]
    have hl2 : max last a.now ≤ 1073741824 := by have := h.hi; omega
    have hm := mk_visit hc hs0 hl2 (mk_more h.mk' (show last ≤ max last a.now by omega)) h.nine.gen h0 (by omega)
    have hv : visited c s a.now = (⟨(visit c 0 a.now s.t s.e).1, (visit c 0 a.now s.t s.e).2.1⟩, (visit c 0 a.now s.t s.e).2.2) := if_pos hR
    have hi := inv_visited hke h.inv hn.2
    rw [hv] at hi
    exact ⟨⟨by rw [Int.natCast_add]; exact mk_next hm.1, nine_visit h.nine h0 h1, by rw [Nat.mul_succ]; exact hi, hl2⟩, fun y hy hw => by have := hm.2 y hy hw; omega⟩
  | false =>
    simp only [Bool.false_eq_true, if_false]
    have hm := mk_ask h.mk' (by omega) (named_num hn (by omega)) rfl rfl (by rw [hcs]; rfl) a.now
    have hi := (inv_ask h.inv (named_num hn (j := j) (by omega)) a.now).more
    exact ⟨⟨by rw [Int.natCast_add]; exact hm.1, h.nine, by rw [Nat.mul_succ]; exact hi, h.hi⟩, hm.2⟩
end Go.Proofs.YtbgdlokegibkmaaGreat.Visit

namespace Go.Proofs.YtbgdlokegibkmaaGreat.Visit
open Go.RowKit
open _root_.Go.Proofs.YtbgdlokegibkmaaGreat.Frame (Rw Tb Tk noRow Asked cell_on LeasesAt)
open _root_.Go.Proofs.YtbgdlokegibkmaaGreat.Ledger (RowAt RowsAt outs findRow total rowVal tabVal)
open _root_.Go.Proofs.YtbgdlokegibkmaaGreat.Codec (Ints lt_of_heap)
open _root_.Go.Proofs.YtbgdlokegibkmaaGreat.Edge (Cf Eg An RatesB CfNum Says HasN Lens e0)
open _root_.Go.Proofs.YtbgdlokegibkmaaGreat.Token (tokVal box5f)
open _root_.Go.Proofs.YtbgdlokegibkmaaGreat.Lease (Num)
/-- What a wallet of one lease adds up to. -/
structure Sums (c : Cf) (start last sp : Int) (F : Rw) (L : List Lease.Lz) : Prop where
  tot : total F ≤ (c.zs.getD 0 (0, 0)).2
  num : Num (total F) ∧ Num F.avail ∧ 0 ≤ F.avail ∧ F.avail ≤ 4611686018427387904
  row : (L = [] ∧ total F - F.avail = 0 ∧ sp + F.avail ≤ (c.zs.getD 0 (0, 0)).1 * (last - start)) ∨ ∃ x, L = [x] ∧ total F - F.avail = x.amount ∧ Num x.amount ∧ 0 ≤ x.spent ∧ x.spent ≤ x.amount ∧ x.amount ≤ 2147483648 ∧ sp + (F.avail + x.amount - x.spent) ≤ (c.zs.getD 0 (0, 0)).1 * (last - start)
  sp0 : 0 ≤ sp
  out : F.out.length ≤ 1
  R0 : 0 ≤ (c.zs.getD 0 (0, 0)).1 * (last - start)
  R1 : (c.zs.getD 0 (0, 0)).1 * (last - start) ≤ 2305843009213693952
theorem mk_sums {c : Cf} {start last : Int} {cost : Int → Int} {i : Int} {t : Tb} {e : Eg} {sp : Int} (hc : Rate1 c) (hs0 : 0 ≤ start) (hl : last ≤ 1073741824) (h : Mk c start last cost i t e sp) : Sums c start last sp (findRow t 0) e.L := by
  have h1 := h.tot
  have h2 := h.lo
  have h3 := h.hi
  have h6 := hc.B1
  have hR0 := hc.R0
  have hR1 := hc.R1
  have hmul : (c.zs.getD 0 (0, 0)).1 * ((findRow t 0).mark - start) ≤ (c.zs.getD 0 (0, 0)).1 * (last - start) := Int.mul_le_mul_of_nonneg_left (by omega) hR0
  have hm0 : 0 ≤ (c.zs.getD 0 (0, 0)).1 * (last - start) := Int.mul_nonneg hR0 (by omega)
  have hm1 : (c.zs.getD 0 (0, 0)).1 * (last - start) ≤ 2147483648 * 1073741824 := Int.mul_le_mul hR1 (by omega) (by omega) (by omega)
  have hF : total (findRow t 0) = (findRow t 0).avail + outs (findRow t 0).out ∧ 0 ≤ outs (findRow t 0).out ∧ 0 ≤ (findRow t 0).avail ∧ (findRow t 0).avail ≤ 4611686018427387904 ∧ ∀ x ∈ (findRow t 0).out, x.2 ≤ 2147483648 := by
    have hrb := Ledger.base_find h.rise.base num0
    exact ⟨Ledger.total_outs hrb (by omega), rows_in hrb, hrb.lo, hrb.hi, fun x hx => (hrb.out x hx).2.2⟩
  obtain ⟨g1, g2, g3, g4, g5⟩ := hF
  refine ⟨by omega, by unfold Num; omega, ?_, h.sp0, by rcases h.same with ⟨-, k, -⟩ | ⟨x, -, -, -, k, -⟩ <;> (rw [k]; simp), hm0, by omega⟩
  rcases h.same with ⟨k1, k2, k3⟩ | ⟨x, k1, k2, k3, k4, k5⟩
  · refine .inl ⟨k1, ?_, by omega⟩
    rw [g1, k2]; simp [outs]
  · have hx := h.good.l.each x (by rw [k1]; simp)
    have h7 := g5 (0, x.amount) (by rw [k4]; simp)
    simp only at h7
    refine .inr ⟨x, k1, ?_, by unfold Num; omega, hx.1, hx.2.1, h7, by omega⟩
    rw [g1, k4]; simp only [outs]; omega
/-- What stands while a wallet's leases are gone through. -/
def Adds (F : Rw) (L : List Lease.Lz) (sp M : Int) (left am i : Value) : Prop := (∃ (n : Nat) (A G : Int), L.length = n ∧ i = .int .i64 (n : Int) ∧ am = .int .i64 A ∧ left = .int .i64 G ∧ total F - F.avail = A ∧ Num A ∧ 0 ≤ G ∧ sp + G ≤ M) ∨ ∃ x, L = [x] ∧ i = .int .i64 0 ∧ am = .int .i64 0 ∧ left = .int .i64 F.avail
theorem hll {w w' : World} {p : Option Addr} {l : List (Int × Int)} (h : LeasesAt w p l) (hb : Below w.heap.size w w') : LeasesAt w' p l := h.below hb
set_option maxRecDepth 100000 in
set_option maxHeartbeats 4000000 in
/-- kept holds. -/
theorem kept_any {PW : PwR} (P : Way18 PW) {R : Nat → Prop} {B q : Nat} {c : Cf} {e : Eg} {W : World} {t : Tk} {start last sp : Int} (ps : Option Addr) (cs : Nat) (pt : Option Addr) (d : Nat) (pf : Option Addr) (kf : Nat) (hp : PW R B W q c e) (hg : Edge.Good c e) (hl : Lens e) (hL : e.L.length ≤ 1) (hrw : RowsAt W pt t.table.rows) (hr : RatesB W.heap.size W pf c.zs) (hz : 0 < c.zs.length) (hn : t.table.rows.length ≤ 1000) (hs : Sums c start last sp (findRow t.table 0) e.L) :
    Calls Tryz.prog 20 #[tokVal t ps cs pt (d + t.table.rows.length), .pointer (some ⟨q, 0, none⟩), c.val pf kf, .int .i64 sp, .int .i64 (last - start)] W (Asked W true) := by
  obtain ⟨bz, oz, rfl, hzl⟩ : ∃ b o, pf = some ⟨b, o, none⟩ ∧ ∀ u, Below W.heap.size W u → u.cell? ⟨b, o, none⟩ = some (.int .i64 (c.zs.getD 0 (0, 0)).1) ∧ u.cell? ⟨b, o + 1, none⟩ = some (.int .i64 (c.zs.getD 0 (0, 0)).2) := by
    rcases hr with h | ⟨b, o, e1, _, hc⟩
    · rw [h] at hz; simp at hz
    · obtain ⟨h1, h2⟩ := hc 0 hz
      rw [Nat.zero_mul, Nat.add_zero] at h1 h2
      exact ⟨b, o, e1, fun u hu => ⟨cell_on h1 hu, cell_on h2 hu⟩⟩
  have HZ := Lib.hid hzl
  have HFI := Lib.hid (fun u (hu : Below W.heap.size W u) => (Ledger.find_any t.table pt d 0 W u hrw hu hn).mono fun (x : Ending) w' ⟨p, k, h1, h2, h3⟩ => show ∃ p k, x = Ending.returned (.tuple #[.agg #[.int .i64 (findRow t.table 0).key, .int .i64 (findRow t.table 0).avail, .int .i64 (findRow t.table 0).mark, .slice p (findRow t.table 0).out.length (k + (findRow t.table 0).out.length)], .bool (Ledger.findIs t.table 0)]) ∧ LeasesAt W p (findRow t.table 0).out ∧ Below u.heap.size u w' from ⟨p, k, h1, h2, h3⟩)
  have hout := hs.out
  have HTO := Lib.hid (fun u p k (hu : Frame.LeasesAt u p (findRow t.table 0).out) => Ledger.total_any (findRow t.table 0) p k u hu (by omega))
  have HLE := Lib.hid (fun u (hu : Below W.heap.size W u) => P.leases (P.fr.below hp hu) hg hl)
  have HS := Lib.hid hs
  clear hr hrw hp hg hl P hzl hs
  generalize e.L = L at *
  generalize findRow t.table 0 = F at *
  have hX1 := heap_alloc_new W (.cells #[.int .i64 t.gen, .int .i64 t.hop, .slice ps t.stamps.length cs, .int .i64 t.table.start, .slice pt t.table.rows.length (d + t.table.rows.length)] 30)
  have hX2 := heap_alloc_new (W.alloc (.cells #[.int .i64 t.gen, .int .i64 t.hop, .slice ps t.stamps.length cs, .int .i64 t.table.start, .slice pt t.table.rows.length (d + t.table.rows.length)] 30)) (.cells #[.int .i64 c.n, .int .i64 c.sk, .int .i64 c.tl, .int .i64 c.va, .int .i64 c.lo, .int .i64 c.he, .int .i64 c.ke, .int .i64 c.qu, .slice (some ⟨bz, oz, none⟩) c.zs.length kf] 24)
  have hB := lay_two W (.cells #[.int .i64 t.gen, .int .i64 t.hop, .slice ps t.stamps.length cs, .int .i64 t.table.start, .slice pt t.table.rows.length (d + t.table.rows.length)] 30) (.cells #[.int .i64 c.n, .int .i64 c.sk, .int .i64 c.tl, .int .i64 c.va, .int .i64 c.lo, .int .i64 c.he, .int .i64 c.ke, .int .i64 c.qu, .slice (some ⟨bz, oz, none⟩) c.zs.length kf] 24)
  have hX3 := (heap_alloc_old (W.alloc (.cells #[.int .i64 t.gen, .int .i64 t.hop, .slice ps t.stamps.length cs, .int .i64 t.table.start, .slice pt t.table.rows.length (d + t.table.rows.length)] 30)) (.cells #[.int .i64 c.n, .int .i64 c.sk, .int .i64 c.tl, .int .i64 c.va, .int .i64 c.lo, .int .i64 c.he, .int .i64 c.ke, .int .i64 c.qu, .slice (some ⟨bz, oz, none⟩) c.zs.length kf] 24) (lt_of_heap hX1)).trans hX1
  rw [show (W.alloc (.cells #[.int .i64 t.gen, .int .i64 t.hop, .slice ps t.stamps.length cs, .int .i64 t.table.start, .slice pt t.table.rows.length (d + t.table.rows.length)] 30)).heap.size = W.heap.size + 1 by simp] at hX2
  have HB := Lib.hid hB
  have HX2 := Lib.hid hX2
  obtain ⟨x0, x1, x2, x3, x4, -⟩ := box5f hX3
  clear hX1 hX2 hX3 hB
  simp only [tokVal, Cf.val] at HFI ⊢
  simp only [tabVal] at HFI
  go_enter Tryz.func20, Tryz.ntmps20
  go_upto_region 1 with (fail)
  generalize ((W.alloc (.cells #[.int .i64 t.gen, .int .i64 t.hop, .slice ps t.stamps.length cs, .int .i64 t.table.start, .slice pt t.table.rows.length (d + t.table.rows.length)] 30)).alloc (.cells #[.int .i64 c.n, .int .i64 c.sk, .int .i64 c.tl, .int .i64 c.va, .int .i64 c.lo, .int .i64 c.he, .int .i64 c.ke, .int .i64 c.qu, .slice (some ⟨bz, oz, none⟩) c.zs.length kf] 24)) = W0 at *
  go_upto_region 2 with (go_at_call 67; (with_reducible refine (HFI.out _ HB.out).mono ?_); rintro x u1 ⟨p1, c1, rfl, hl1, hb⟩; have HB1 := Lib.hid (HB.out.trans (hb.mono HB.out.size)); have HC1 := Lib.hid ((hb.block _ (lt_of_heap HX2.out)).trans HX2.out); have HLA := Lib.hid (hll hl1 HB1.out); clear hb hl1 HFI)
  have hla := lay u1 (.cells #[.int .i64 F.key, .int .i64 F.avail, .int .i64 F.mark, .slice p1 F.out.length (c1 + F.out.length)] 80)
  have HR1 := Lib.hid (heap_alloc_new u1 (.cells #[.int .i64 F.key, .int .i64 F.avail, .int .i64 F.mark, .slice p1 F.out.length (c1 + F.out.length)] 80))
  have HB2 := Lib.hid (HB1.out.trans (hla.mono HB1.out.size))
  have HC2 := Lib.hid ((hla.block _ (lt_of_heap HC1.out)).trans HC1.out)
  have HL2 := Lib.hid (hll HLA.out hla)
  clear hla HB HB1 HC1 HX2 HLA x0 x1 x2 x3 x4
  generalize u1.alloc (.cells #[.int .i64 F.key, .int .i64 F.avail, .int .i64 F.mark, .slice p1 F.out.length (c1 + F.out.length)] 80) = u2 at *
  generalize u1.heap.size = g1 at *
  obtain ⟨y0, y1, y2, y3, -⟩ := Ledger.box4 HR1.out
  have HTC := Lib.hid (HTO.out u2 p1 c1 HL2.out)
  simp only [rowVal] at HTC
  go_upto_region 5 with (first
    | (go_at_call 30; (with_reducible refine HTC.out.mono ?_); rintro x u3 ⟨rfl, hb⟩; have HB3 := Lib.hid (HB2.out.trans (hb.mono HB2.out.size)); have HC3 := Lib.hid ((hb.block _ (lt_of_heap HC2.out)).trans HC2.out); have HR3 := Lib.hid ((hb.block _ (lt_of_heap HR1.out)).trans HR1.out); clear y0 y1 y2 y3; obtain ⟨y0, y1, y2, y3, -⟩ := Ledger.box4 HR3.out; clear hb)
    | (go_at_call 22; (with_reducible refine (HLE.out _ HB3.out).mono ?_); rintro x u4 ⟨p4, c4, rfl, hl4, hb⟩; have HB4 := Lib.hid (HB3.out.trans (hb.mono HB3.out.size)); have HC4 := Lib.hid ((hb.block _ (lt_of_heap HC3.out)).trans HC3.out); have HR4 := Lib.hid ((hb.block _ (lt_of_heap HR3.out)).trans HR3.out); have HL4 := Lib.hid hl4; clear hb hl4))
  clear HTC HTO HLE HB2 HC2 HR1 HL2
  have hrow := HS.out.row
  obtain ⟨n1, n2, n3, n4⟩ := HS.out.num
  go_upto_region 7 with (fail)
  go_loopw [14, 16, 17] (fun left am i wr => Adds F L sp ((c.zs.getD 0 (0, 0)).1 * (last - start)) left am i ∧ Hid (Below u4.heap.size u4 wr)) (fun _ _ i _ => 2 - (intOf i).toNat)
  case atStart =>
    refine ⟨?_, Lib.hid (Below.refl _ _)⟩
    rcases hrow with ⟨hL0, e1, e2⟩ | ⟨x, hL1, e1, e2, e3, e4, e5, e6⟩
    · exact .inl ⟨0, 0, F.avail, by rw [hL0]; rfl, rfl, rfl, rfl, e1, by unfold Num; omega, n3, e2⟩
    · exact .inr ⟨x, hL1, rfl, rfl, rfl⟩
  case round =>
    obtain ⟨hend, hb⟩ := hrel
    have hbw := HB4.out.trans (hb.out.mono HB4.out.size)
    rcases hend with ⟨n, A, G, hLn, rfl, rfl, rfl, g1, g2, g3, g4⟩ | ⟨x, rfl, rfl, rfl, rfl⟩
    · have hlt : ¬ (n : Int) < (L.length : Int) := by omega
      have htot := HS.out.tot
      have hsp := HS.out.sp0
      have hM0 := HS.out.R0
      have hM1 := HS.out.R1
      obtain ⟨z0, z1⟩ := HZ.out _ hbw
      have k8 : u4.cell? ⟨W.heap.size + 1, 8, none⟩ = some (.slice (some ⟨bz, oz, none⟩) c.zs.length kf) := by rw [cell_of_row _ _ _ _ _ (0, 0) HC4.out]; rfl
      have k8 := cell_on k8 hb.out
      obtain ⟨y0, y1, y2, y3, -⟩ := Ledger.box4 ((hb.out.block _ (lt_of_heap HR4.out)).trans HR4.out)
      clear HS hrow HZ HC4 HR4 HL4 HB4
      generalize (c.zs.getD 0 (0, 0)).1 = R0 at *
      generalize (c.zs.getD 0 (0, 0)).2 = B0 at *
      generalize last - start = span at *
      generalize total F = T at *
      have w1 : IntKind.i64.wrap (T - F.avail) = A := by rw [g1]; exact IntWalk.i64_in _ (by unfold Num at g2; omega)
      have w2 : IntKind.i64.wrap (R0 * span) = R0 * span := IntWalk.i64_in _ (by omega)
      have w3 : IntKind.i64.wrap (sp + G) = sp + G := IntWalk.i64_in _ (by omega)
      have w4 : (A == A) = true := by simp
      have w6 : IntKind.i64.wrap A = A := IntWalk.i64_in _ (by unfold Num at g2; omega)
      have hor : R0 * span < 1152921504606846976 ∨ ¬ R0 * span < 1152921504606846976 := Decidable.em _
      rcases hor with h0 | h0
      · go_wp2
        all_goals go_ret
        all_goals exact ⟨rfl, hbw⟩
      · have h1 : 1152921504606846976 ≤ R0 * span := by omega
        go_wp2
        all_goals go_ret
        all_goals exact ⟨rfl, hbw⟩
    · have hlt : (0 : Int) < (([x] : List Lease.Lz).length : Int) := by simp
      obtain ⟨b, o, rfl, k0, k1, k2, k3, k4⟩ := Lease.lies_at (HL4.out.below hb.out) (show 0 < ([x] : List Lease.Lz).length by simp)
      rcases hrow with ⟨h, -⟩ | ⟨x', h, e1, e2, e3, e4, e5, e6⟩
      · simp at h
      · simp only [List.cons.injEq, and_true] at h
        subst h
        have e0 : ([x] : List Lease.Lz).getD 0 Lease.z = x := rfl
        rw [e0] at k2 k3
        rw [Nat.zero_mul, Nat.add_zero] at k2 k3
        clear k0 k1 k4 HS HZ HC4 HR4
        have w0 : (0 : Int) + x.amount = x.amount := by omega
        have w1 : IntKind.i64.wrap x.amount = x.amount := IntWalk.i64_in _ (by unfold Num at e2; omega)
        have w2 : IntKind.i64.wrap (F.avail + x.amount) = F.avail + x.amount := IntWalk.i64_in _ (by omega)
        have w3 : IntKind.i64.wrap (F.avail + x.amount - x.spent) = F.avail + x.amount - x.spent := IntWalk.i64_in _ (by omega)
        go_wp2
        go_quiet (fail)
        go_wp2
        go_roundw
        case rel => exact ⟨.inl ⟨1, x.amount, F.avail + x.amount - x.spent, rfl, by go_num, by simp, by simp, e1, e2, by omega, e6⟩, Lib.hid (hb.out.trans ((Kit.below_drewN _ _).mono hb.out.size))⟩
        case measure => simp only [intOf]; omega
end Go.Proofs.YtbgdlokegibkmaaGreat.Visit

namespace Go.Proofs.YtbgdlokegibkmaaGreat.Visit
open Go.RowKit
open _root_.Go.Proofs.YtbgdlokegibkmaaGreat.Frame (Rw Tb Tk noRow LeasesAt cell_on)
open _root_.Go.Proofs.YtbgdlokegibkmaaGreat.Codec (Ints lt_of_heap frozen_of heap_set own_below)
open _root_.Go.Proofs.YtbgdlokegibkmaaGreat.Kit (Enc Lies Kept Off Own At Laid cells cells_snoc lt_heap)
open _root_.Go.Proofs.YtbgdlokegibkmaaGreat.Edge (Cf Eg An Rq In KeepC)
open _root_.Go.Proofs.YtbgdlokegibkmaaGreat.Lease (Num)
/-- Blocks of these types are written beside the edge. -/
abbrev outs19 : List TypeId := [97, 60, 30, 118, 45, 3, 42]
/-- So it is of an edge of any make. -/
def Beside (PW : PwR) : Prop := ∀ {R : Nat → Prop} {B : Nat} {w w' : World} {q : Nat} {c : Cf} {e : Eg}, PW R B w q c e → Kept outs19 w w' → PW R B w' q c e
theorem besidePf : Beside Pf := by
  rintro R B w w' q c e ⟨h0, y, qw, qq, qd, h⟩ hk
  have k : ∀ {T : TypeId}, T ∉ outs19 → KeepC T w w' := fun hT g cs z hg => hk.block g _ _ _ hg hT
  have km : ∀ (b : Nat) es cl, w.heap[b]? = some (.map es cl) → w'.heap[b]? = some (.map es cl) := fun b es cl hb => hk.obj b _ hb (fun _ _ _ e => by cases e)
  have hcw : ∀ b, Edge.holds w' qw b → Edge.holds w qw b := fun b hb => by
    obtain ⟨_, m, h1, _⟩ := h.wl
    unfold Edge.holds at hb ⊢
    rwa [World.cell?_of_block (a := ⟨qw, 0, none⟩) ((k (by decide) _ _ _ h1).trans h1.symm)] at hb
  have hcd : ∀ b, Edge.holds w' qd b → Edge.holds w qd b := fun b hb => by
    obtain ⟨_, m, h1, _⟩ := h.dm
    unfold Edge.holds at hb ⊢
    rwa [World.cell?_of_block (a := ⟨qd, 0, none⟩) ((k (by decide) _ _ _ h1).trans h1.symm)] at hb
  exact ⟨h0, y, qw, qq, qd, h.ge, k (by decide) _ _ _ h.blk, Edge.rt_stays h.rt (k (by decide)), Edge.pw_stays h.wl (k (by decide)) (fun b es cl _ hb => km b es cl hb), Edge.pq_stays h.qu hk.size (k (by decide)) (k (by decide)), Edge.pd_stays h.dm (k (by decide)) (fun b es cl _ hb => km b es cl hb), fun b h1 h2 => h.apart b (hcw b h1) (hcd b h2)⟩
/-- A request's cells. -/
def rq : Enc Rq := ⟨5, fun x => [.int .i64 x.id, .int .i64 x.key, .int .i64 x.cost, .int .i64 x.cls, .int .i64 x.wait], Edge.zr, by decide, fun _ => rfl, fun x u hu => by simp at hu; rcases hu with rfl | rfl | rfl | rfl | rfl <;> rfl⟩
theorem laidQ : Laid Tryz.prog rq 42 57 := ⟨Tryz.underlying57, .agg #[.int .i64 0, .int .i64 0, .int .i64 0, .int .i64 0, .int .i64 0], 40, by kernel_rfl, rfl, by decide⟩
/-- An int's cell. -/
def it1 : Enc Int := ⟨1, fun x => [.int .i64 x], 0, by decide, fun _ => rfl, fun x u hu => by simp at hu; subst hu; rfl⟩
theorem laidI1 : Laid Tryz.prog it1 3 25 := ⟨Tryz.underlying25, .int .i64 0, 8, by kernel_rfl, rfl, by decide⟩
/-- One element, just laid, is appended: what stays. -/
theorem push_kept {α : Type} {E : Enc α} {P : Program} {T ST : TypeId} (L : Laid P E T ST) {u : World} {ops : Array Oper} {rest : List Oper} {o : Oper} {a : Act} {Q : Exit → Act → World → Prop} (hgd : o.guard = Option.none) (s y : Operand)
    (ho : o.op = .call { callee := .builtin .append, args := #[s, y], argTypes := #[ST, ST] })
    (B : Nat) (v : Value) (hs : a.eval s = v) (l : List α) (n : Nat) (hn : l.length = n) (hown : Own E T B u v l) (hB : B ≤ u.heap.size)
    (g : Nat) (x : α) {tg : TypeId} {fr : Nat × Nat} (hy : a.eval y = .slice (some ⟨g, 0, Option.none⟩) 1 1) (hg : u.heap[g]? = some (.cells (E.cs x).toArray tg fr)) (hlen : n ≤ 100000)
    (h : ∀ p c w', Hid (Own E T B w' (.slice p (n + 1) c) (l ++ [x])) → Hid (Kept [T] u w') → Hid (Below B u w') → Hid (∀ b, b < u.heap.size → some b ≠ v.ownBlock → w'.heap[b]? = u.heap[b]?) → Hid ((Value.slice p (n + 1) c).ownBlock = v.ownBlock ∨ (Value.slice p (n + 1) c).ownBlock = some u.heap.size) → wpList P ops Q rest (a.put o.dst (.slice p (n + 1) c)) w') : wpList P ops Q (o :: rest) a u := by
  subst hn
  obtain ⟨zv, byt, hi0, hzc, hby⟩ := L.info
  obtain ⟨i0, hi, hz0, hz1, hz2⟩ := info_parts hi0
  have hmul : (l.length + 1) * byt ≤ 100001 * 1000 := Nat.mul_le_mul (by omega) hby
  refine wpList_append_own_at _ hgd s y ST ho B T i0 zv E.n byt L.sl hi hz0 hz1 hz2 hzc E.pos v l.length (cells E l) hs hown ⟨g, 0, Option.none⟩ 1 1 (E.cs x) hy (by rw [E.len, Nat.one_mul]) (fun j z hz => World.news_of_block hg j z (by simpa using hz)) (E.one x) (by unfold maxLen; omega) (by omega) hB ?_
  intro v' w' ho2 hg2 _ hrow
  have hb2 := (Below.refl B u).grown hg2 hB (fun k hk => (World.ownsRow.lt hown k hk).1)
  have R : Own E T B w' v' (l ++ [x]) := by
    unfold Own
    rw [cells_snoc, List.length_append]
    exact ho2
  have hk : Kept [T] u w' := by
    obtain ⟨-, -, -, hz, hgb⟩ := hg2
    refine ⟨hz, fun g' ob e ht => ?_⟩
    have hlt := lt_heap e
    refine (hgb g' hlt ?_).trans e
    intro hrow
    rcases hown.2 with ⟨rfl, -⟩ | ⟨gr, cap, cur, rfl, -, h2, -⟩
    · simp [Value.ownBlock] at hrow
    · simp only [Value.ownBlock, Option.some.injEq] at hrow
      subst hrow
      rw [h2] at e
      exact ht _ _ _ (Option.some.inj e).symm (by simp)
  obtain ⟨p, c, rfl⟩ : ∃ p c, v' = .slice p (l.length + 1) c := by
    rcases ho2.2 with ⟨_, h0⟩ | ⟨g, cap, cur, rfl, _⟩
    · omega
    · exact ⟨_, cap, rfl⟩
  exact h p c w' (Lib.hid R) (Lib.hid hk) (Lib.hid hb2) (Lib.hid hg2.block) (Lib.hid hrow)
end Go.Proofs.YtbgdlokegibkmaaGreat.Visit
