/-
  VisitPlays returns true, whatever the program's edge and visit are, of any configuration, token and acts.
  A guest in memory: a token at a node, with the program's edge; what each step of it leaves. Pf: the program's edge, with blocks that stay. No conditions beyond those that each names.
  The closure that gathers answers; what stands while a guest grants.
  VisitNever returns true, whatever the program's edge and visit are, of a configuration that may be, and few acts: what stands while requests are asked, and behind the visit.
  VisitNever returns true, whatever the program's edge and visit are, of any configuration, token and acts.
-/
import Derived.Test.YtbgdlokegibkmaaGreatMnAm
import Derived.Test.YtbgdlokegibkmaaGreatMnAh
import Derived.Test.YtbgdlokegibkmaaGreatMnAl
import Derived.Test.YtbgdlokegibkmaaGreatMnAt
import Derived.Test.YtbgdlokegibkmaaGreatMnAs
import Derived.Test.YtbgdlokegibkmaaGreatMnAg
namespace Go.Proofs.YtbgdlokegibkmaaGreat.Visit
open Go.RowKit
open _root_.Go.Proofs.YtbgdlokegibkmaaGreat.Frame (Rw Tb Tk noRow Asked cell_on)
open _root_.Go.Proofs.YtbgdlokegibkmaaGreat.Ledger (RowAt RowsAt)
open _root_.Go.Proofs.YtbgdlokegibkmaaGreat.Codec (Ints lt_of_heap)
open _root_.Go.Proofs.YtbgdlokegibkmaaGreat.Edge (Cf Eg An RatesB CfNum Says e0)
open _root_.Go.Proofs.YtbgdlokegibkmaaGreat.Token (tokVal box5f)
open _root_.Go.Proofs.YtbgdlokegibkmaaGreat.Lease (Num)
/-- The two boxes are laid. -/
theorem boxes_lay (W : World) (c : Cf) (pf : Option Addr) (kf : Nat) (t : Tk) (ps : Option Addr) (cs : Nat) (pt : Option Addr) (d : Nat) : Boxes W c pf kf t ps cs pt d ((W.alloc (.cells #[.int .i64 c.n, .int .i64 c.sk, .int .i64 c.tl, .int .i64 c.va, .int .i64 c.lo, .int .i64 c.he, .int .i64 c.ke, .int .i64 c.qu, .slice pf c.zs.length kf] 24)).alloc (.cells #[.int .i64 t.gen, .int .i64 t.hop, .slice ps t.stamps.length cs, .int .i64 t.table.start, .slice pt t.table.rows.length (d + t.table.rows.length)] 30)) ∧ Below W.heap.size W ((W.alloc (.cells #[.int .i64 c.n, .int .i64 c.sk, .int .i64 c.tl, .int .i64 c.va, .int .i64 c.lo, .int .i64 c.he, .int .i64 c.ke, .int .i64 c.qu, .slice pf c.zs.length kf] 24)).alloc (.cells #[.int .i64 t.gen, .int .i64 t.hop, .slice ps t.stamps.length cs, .int .i64 t.table.start, .slice pt t.table.rows.length (d + t.table.rows.length)] 30)) := by
  have h1 := heap_alloc_new W (.cells #[.int .i64 c.n, .int .i64 c.sk, .int .i64 c.tl, .int .i64 c.va, .int .i64 c.lo, .int .i64 c.he, .int .i64 c.ke, .int .i64 c.qu, .slice pf c.zs.length kf] 24)
  have h2 := heap_alloc_new (W.alloc (.cells #[.int .i64 c.n, .int .i64 c.sk, .int .i64 c.tl, .int .i64 c.va, .int .i64 c.lo, .int .i64 c.he, .int .i64 c.ke, .int .i64 c.qu, .slice pf c.zs.length kf] 24)) (.cells #[.int .i64 t.gen, .int .i64 t.hop, .slice ps t.stamps.length cs, .int .i64 t.table.start, .slice pt t.table.rows.length (d + t.table.rows.length)] 30)
  have hs : (W.alloc (.cells #[.int .i64 c.n, .int .i64 c.sk, .int .i64 c.tl, .int .i64 c.va, .int .i64 c.lo, .int .i64 c.he, .int .i64 c.ke, .int .i64 c.qu, .slice pf c.zs.length kf] 24)).heap.size = W.heap.size + 1 := by simp
  rw [hs] at h2
  exact ⟨⟨(heap_alloc_old _ _ (lt_of_heap h1)).trans h1, h2⟩, lay_two W _ _⟩
end Go.Proofs.YtbgdlokegibkmaaGreat.Visit

namespace Go.Proofs.YtbgdlokegibkmaaGreat.Visit
open Go.RowKit
open _root_.Go.Proofs.YtbgdlokegibkmaaGreat.Frame (Rw Tb Tk noRow LeasesAt cell_on)
open _root_.Go.Proofs.YtbgdlokegibkmaaGreat.Ledger (RowAt RowsAt LeasesIn Rise mint held tabVal cfVal)
open _root_.Go.Proofs.YtbgdlokegibkmaaGreat.Codec (Ints lt_of_heap frozen_of heap_set)
open _root_.Go.Proofs.YtbgdlokegibkmaaGreat.Kit (Lies Kept Off)
open _root_.Go.Proofs.YtbgdlokegibkmaaGreat.Edge (Cf Eg An Ed RatesB CfNum Says HasN Typed In Moves KeepC Lens)
open _root_.Go.Proofs.YtbgdlokegibkmaaGreat.Token (tokVal)
open _root_.Go.Proofs.YtbgdlokegibkmaaGreat.Lease (Num)
/-- Blocks of these types are written beside the edge. -/
abbrev outs18 : List TypeId := [97, 60, 30, 118, 45]
theorem kept_outs {ts : List TypeId} {w w' : World} (h : Kept ts w w') (hs : ∀ T ∈ ts, T ∈ outs18) : Kept outs18 w w' := ⟨h.size, fun g o e ht => h.obj g o e fun cs T z k hm => ht cs T z k (hs T hm)⟩
section
variable {R : Nat → Prop} {B q qw qq qd : Nat} {w w' : World} {y : Value} {c : Cf} {e : Eg}
theorem in_kept (h : In R B w q y qw qq qd c e) (hk : Kept outs18 w w') : In R B w' q y qw qq qd c e := by
  have k : ∀ {T : TypeId}, T ∉ outs18 → KeepC T w w' := fun hT g cs z hg => hk.block g _ _ _ hg hT
  have km : ∀ (b : Nat) es cl, w.heap[b]? = some (.map es cl) → w'.heap[b]? = some (.map es cl) := fun b es cl hb => hk.obj b _ hb (fun _ _ _ e => by cases e)
  have hcw : ∀ b, Edge.holds w' qw b → Edge.holds w qw b := fun b hb => by
    obtain ⟨_, m, h1, _⟩ := h.wl
    unfold Edge.holds at hb ⊢
    rwa [World.cell?_of_block (a := ⟨qw, 0, none⟩) ((k (by decide) _ _ _ h1).trans h1.symm)] at hb
  have hcd : ∀ b, Edge.holds w' qd b → Edge.holds w qd b := fun b hb => by
    obtain ⟨_, m, h1, _⟩ := h.dm
    unfold Edge.holds at hb ⊢
    rwa [World.cell?_of_block (a := ⟨qd, 0, none⟩) ((k (by decide) _ _ _ h1).trans h1.symm)] at hb
  exact ⟨h.ge, k (by decide) _ _ _ h.blk, Edge.rt_stays h.rt (k (by decide)), Edge.pw_stays h.wl (k (by decide)) (fun b es cl _ hb => km b es cl hb), Edge.pq_stays h.qu hk.size (k (by decide)) (k (by decide)), Edge.pd_stays h.dm (k (by decide)) (fun b es cl _ hb => km b es cl hb), fun b h1 h2 => h.apart b (hcw b h1) (hcd b h2)⟩
theorem not_plain {g : Nat} {cs : Array Value} {T : TypeId} {z : Nat × Nat} (h : w.heap[g]? = some (.cells cs T z)) (hT : ¬ (T = 3 ∨ T = 80 ∨ T = 141)) : ¬ Plainly w g := by
  rintro ⟨-, cs', T', z', h1, h2⟩
  rw [h] at h1
  simp only [Option.some.injEq, Obj.cells.injEq] at h1
  exact hT (h1.2.1 ▸ h2)
theorem in_typed (h : In R B w q y qw qq qd c e) : In (fun g => R g ∨ Plainly w g) B w q y qw qq qd c e := by
  refine ⟨h.ge, h.blk, h.rt, h.wl, ?_, h.dm, h.apart⟩
  obtain ⟨y, hy⟩ := h.qu
  refine ⟨y, hy.ge, fun e => e.elim hy.nf (not_plain hy.blk (by decide)), hy.blk, hy.own, fun g hg hn => ?_, fun g hg => hg.elim (hy.fl g) And.left⟩
  rcases hn with hn | hn
  · exact hy.nfy g hg hn
  rcases hy.own.2 with ⟨rfl, -⟩ | ⟨g', cap, cur, rfl, -, h2, -⟩
  · simp [Value.ownBlock] at hg
  · simp only [Value.ownBlock, Option.some.injEq] at hg
    subst hg
    exact not_plain h2 (by decide) hn
end
/-- The program's edge; its own block is none of those that stay. -/
def Pf : PwR := fun R B w q c e => ((0 ≤ c.qu ∧ c.qu ≤ 16) ∧ (∀ x ∈ e.D, Num x.key) ∧ ¬ R q) ∧ ∃ y qw qq qd, In R B w q y qw qq qd c e
theorem frPf : FrameR Pf where
  below := fun ⟨h0, y, qw, qq, qd, h⟩ hb => ⟨h0, y, qw, qq, qd, h.below hb⟩
  kept := fun ⟨h0, y, qw, qq, qd, h⟩ hk _ => ⟨h0, y, qw, qq, qd, in_kept h (kept_outs hk (by decide))⟩
  low := fun ⟨_, _, _, _, _, h⟩ g hg => h.low g hg
  sub := fun ⟨⟨a, b, d⟩, y, qw, qq, qd, h⟩ hG => ⟨⟨a, b, fun hq => d (hG _ hq)⟩, y, qw, qq, qd, h.sub hG⟩
  grow := fun ⟨⟨a, b, d⟩, y, qw, qq, qd, h⟩ hb => ⟨⟨a, b, fun hq => hq.elim d fun h2 => by have := lt_of_heap h.blk; omega⟩, y, qw, qq, qd, h.grow hb⟩
  typed := fun ⟨⟨a, b, d⟩, y, qw, qq, qd, h⟩ => ⟨⟨a, b, fun hq => hq.elim d (not_plain h.blk (by decide))⟩, y, qw, qq, qd, in_typed h⟩
/-- What of a guest stays. -/
structure Gf where
  gen : Int
  hop : Int
  st : List Int
  ps : Option Addr
  cs : Nat
  start : Int
  q : Nat
  node : Int
  now : Int
  c : Cf
  pf : Option Addr
  kf : Nat
/-- A guest's cells. -/
def gcells (f : Gf) (p : Option Addr) (n d : Nat) : Array Value := #[.int .i64 f.gen, .int .i64 f.hop, .slice f.ps f.st.length f.cs, .int .i64 f.start, .slice p n (d + n), .pointer (some ⟨f.q, 0, none⟩), .int .i64 f.node, .int .i64 f.now, .int .i64 f.c.n, .int .i64 f.c.sk, .int .i64 f.c.tl, .int .i64 f.c.va, .int .i64 f.c.lo, .int .i64 f.c.he, .int .i64 f.c.ke, .int .i64 f.c.qu, .slice f.pf f.c.zs.length f.kf]
/-- A guest: its edge, its box, its rows in blocks that stay. -/
structure Gu (B gb : Nat) (f : Gf) (y : Value) (qw qq qd : Nat) (R : Nat → Prop) (p : Option Addr) (d : Nat) (t : Tb) (e : Eg) (u : World) : Prop where
  inn : In R B u f.q y qw qq qd f.c e
  box : u.heap[gb]? = some (.cells (gcells f p t.rows.length d) 118 (0, 0))
  rows : Ledger.RowsIn R u p t.rows
  start : t.start = f.start
  ngb : ¬ R gb
  rates : RatesB B u f.pf f.c.zs
  size : B ≤ u.heap.size
/-- What a step of a guest leaves. -/
structure Fr18 (B gb : Nat) (R R' : Nat → Prop) (u w' : World) : Prop where
  below : Below B u w'
  off : Off Edge.mine u w'
  off2 : ∀ g cs T z, g ≠ gb → T ∈ Edge.theirs → u.heap[g]? = some (.cells cs T z) → w'.heap[g]? = some (.cells cs T z)
  keep : ∀ g, R g → HasN u g → g < u.heap.size → w'.heap[g]? = u.heap[g]?
  up : ∀ g, R g → R' g
  new : ∀ g, R' g → R g ∨ u.heap.size ≤ g
section
variable {B gb : Nat} {f : Gf} {y : Value} {qw qq qd : Nat} {R R' R2 : Nat → Prop} {p p' : Option Addr} {d d' : Nat} {t T : Tb} {e e' : Eg} {u u' w' : World}
theorem Fr18.trans (h : Fr18 B gb R R' u u') (k : Fr18 B gb R' R2 u' w') : Fr18 B gb R R2 u w' :=
  ⟨h.below.trans k.below, h.off.trans k.off, fun g cs T z hn hT hg => k.off2 g cs T z hn hT (h.off2 g cs T z hn hT hg), fun g hg hn hl => (k.keep g (h.up g hg) (hn.on (h.keep g hg hn hl)) (Nat.lt_of_lt_of_le hl h.below.size)).trans (h.keep g hg hn hl), fun g hg => k.up g (h.up g hg), fun g hg => (k.new g hg).elim (h.new g) fun hs => .inr (Nat.le_trans h.below.size hs)⟩
theorem Fr18.of_below (hb : Below u.heap.size u u') (hB : B ≤ u.heap.size) : Fr18 B gb R R u u' :=
  ⟨hb.mono hB, Kit.Off.of_below hb, fun g _ _ _ _ _ hg => (hb.block g (lt_of_heap hg)).trans hg, fun g _ _ hl => hb.block g hl, fun _ h => h, fun _ h => .inl h⟩
theorem Fr18.of_more (hb : Below u.heap.size u u') (hB : B ≤ u.heap.size) : Fr18 B gb R (fun g => R g ∨ u.heap.size ≤ g ∧ g < u'.heap.size) u u' :=
  ⟨hb.mono hB, Kit.Off.of_below hb, fun g _ _ _ _ _ hg => (hb.block g (lt_of_heap hg)).trans hg, fun g _ _ hl => hb.block g hl, fun _ h => .inl h, fun _ h => h.imp id And.left⟩
theorem Fr18.of_moves {q : Nat} {c : Cf} (m : Moves R B u q y qw qq qd c e' u') : Fr18 B gb R R u u' :=
  ⟨m.below, m.off, fun g cs T z _ hT hg => m.off2.block g cs T z hg hT, m.keep, fun _ h => h, fun _ h => .inl h⟩
theorem Gu.on (h : Gu B gb f y qw qq qd R p d t e u) (hb : Below u.heap.size u u') : Gu B gb f y qw qq qd R p d t e u' :=
  ⟨h.inn.below hb, (hb.block _ (lt_of_heap h.box)).trans h.box, h.rows.below hb, h.start, h.ngb, h.rates.on (hb.mono h.size), Nat.le_trans h.size hb.size⟩
theorem Gu.more (h : Gu B gb f y qw qq qd R p d t e u) (hb : Below u.heap.size u u') : Gu B gb f y qw qq qd (fun g => R g ∨ u.heap.size ≤ g ∧ g < u'.heap.size) p d t e u' :=
  ⟨h.inn.grow hb, (hb.block _ (lt_of_heap h.box)).trans h.box, (h.rows.below hb).on (fun _ h _ => .inl h) fun _ _ _ => rfl, h.start, fun hg => hg.elim h.ngb fun h2 => by have := lt_of_heap h.box; omega, h.rates.on (hb.mono h.size), Nat.le_trans h.size hb.size⟩
theorem Gu.moves (h : Gu B gb f y qw qq qd R p d t e u) (m : Moves R B u f.q y qw qq qd f.c e' u') : Gu B gb f y qw qq qd R p d t e' u' :=
  ⟨m.inn, m.off2.block _ _ _ _ h.box (by simp [Edge.theirs]), rowsin_on h.rows (fun _ h _ => h) m.keep, h.start, h.ngb, h.rates.on m.below, Nat.le_trans h.size m.off.size⟩
/-- Two cells of the guest's box. -/
theorem gset_box (h : Gu B gb f y qw qq qd R p d t e u) (p' : Option Addr) (n d' : Nat) :
    ((u.setCell ⟨gb, 3, none⟩ (.int .i64 f.start)).setCell ⟨gb, 4, none⟩ (.slice p' n (d' + n))).heap[gb]? = some (.cells (gcells f p' n d') 118 (0, 0)) ∧ ∀ b, b ≠ gb → ((u.setCell ⟨gb, 3, none⟩ (.int .i64 f.start)).setCell ⟨gb, 4, none⟩ (.slice p' n (d' + n))).heap[b]? = u.heap[b]? :=
  ⟨heap_set gb 4 _ _ (heap_set gb 3 _ _ h.box), fun _ hb => (Below.heap_setCell _ _ _ _ hb).trans (Below.heap_setCell _ _ _ _ hb)⟩
theorem gset_kept (h : Gu B gb f y qw qq qd R p d t e u) (p' : Option Addr) (n d' : Nat) : Kept outs18 u ((u.setCell ⟨gb, 3, none⟩ (.int .i64 f.start)).setCell ⟨gb, 4, none⟩ (.slice p' n (d' + n))) :=
  ⟨by simp, fun b o ho ht => ((gset_box h p' n d').2 b (by rintro rfl; rw [h.box] at ho; exact ht _ _ _ (Option.some.inj ho).symm (by decide))).trans ho⟩
theorem gset_below (_ : Gu B gb f y qw qq qd R p d t e u) (hg : B ≤ gb) (p' : Option Addr) (n d' : Nat) : Below B u ((u.setCell ⟨gb, 3, none⟩ (.int .i64 f.start)).setCell ⟨gb, 4, none⟩ (.slice p' n (d' + n))) :=
  ((Below.refl B u).setCell (p := ⟨gb, 3, none⟩) hg _).setCell (p := ⟨gb, 4, none⟩) hg _
/-- The table is stored. -/
theorem Gu.store (h : Gu B gb f y qw qq qd R p d t e u) (hg : B ≤ gb) (hr : Ledger.RowsIn R u p' T.rows) (hs : T.start = f.start) : Gu B gb f y qw qq qd R p' d' T e ((u.setCell ⟨gb, 3, none⟩ (.int .i64 f.start)).setCell ⟨gb, 4, none⟩ (.slice p' T.rows.length (d' + T.rows.length))) :=
  have hn : ∀ b, R b → b ≠ gb := fun _ hb e => h.ngb (e ▸ hb)
  ⟨in_kept h.inn (gset_kept h _ _ _), (gset_box h _ _ _).1, hr.on (fun _ h _ => h) fun b hb _ => (gset_box h _ _ _).2 b (hn b hb), hs, h.ngb, h.rates.on (gset_below h hg _ _ _), Nat.le_trans h.size (gset_kept h _ _ _).size⟩
theorem Fr18.of_store (h : Gu B gb f y qw qq qd R p d t e u) (hg : B ≤ gb) (p' : Option Addr) (n d' : Nat) : Fr18 B gb R R u ((u.setCell ⟨gb, 3, none⟩ (.int .i64 f.start)).setCell ⟨gb, 4, none⟩ (.slice p' n (d' + n))) :=
  ⟨gset_below h hg p' n d', ⟨(gset_kept h p' n d').size, fun b cs T z hb hT => ((gset_box h p' n d').2 b (by rintro rfl; rw [h.box] at hb; simp only [Option.some.injEq, Obj.cells.injEq] at hb; rw [← hb.2.1] at hT; simp [Edge.mine] at hT)).trans hb⟩, fun b cs T z hn _ hb => ((gset_box h p' n d').2 b hn).trans hb, fun b hb _ _ => (gset_box h p' n d').2 b fun e => h.ngb (e ▸ hb), fun _ h => h, fun _ h => .inl h⟩
/-- The cells of the guest's box. -/
theorem Gu.cells (h : Gu B gb f y qw qq qd R p d t e u) : u.cell? ⟨gb, 0, none⟩ = some (.int .i64 f.gen) ∧ u.cell? ⟨gb, 1, none⟩ = some (.int .i64 f.hop) ∧ u.cell? ⟨gb, 2, none⟩ = some (.slice f.ps f.st.length f.cs) ∧ u.cell? ⟨gb, 3, none⟩ = some (.int .i64 f.start) ∧ u.cell? ⟨gb, 4, none⟩ = some (.slice p t.rows.length (d + t.rows.length)) ∧ u.cell? ⟨gb, 5, none⟩ = some (.pointer (some ⟨f.q, 0, none⟩)) ∧ u.cell? ⟨gb, 6, none⟩ = some (.int .i64 f.node) ∧ u.cell? ⟨gb, 7, none⟩ = some (.int .i64 f.now) ∧
    u.cell? ⟨gb, 8, none⟩ = some (.int .i64 f.c.n) ∧ u.cell? ⟨gb, 9, none⟩ = some (.int .i64 f.c.sk) ∧ u.cell? ⟨gb, 10, none⟩ = some (.int .i64 f.c.tl) ∧ u.cell? ⟨gb, 11, none⟩ = some (.int .i64 f.c.va) ∧ u.cell? ⟨gb, 12, none⟩ = some (.int .i64 f.c.lo) ∧ u.cell? ⟨gb, 13, none⟩ = some (.int .i64 f.c.he) ∧ u.cell? ⟨gb, 14, none⟩ = some (.int .i64 f.c.ke) ∧ u.cell? ⟨gb, 15, none⟩ = some (.int .i64 f.c.qu) ∧ u.cell? ⟨gb, 16, none⟩ = some (.slice f.pf f.c.zs.length f.kf) ∧ ∀ o, u.frozen? ⟨gb, o, none⟩ = false := by
  have hb := h.box
  refine ⟨?_, ?_, ?_, ?_, ?_, ?_, ?_, ?_, ?_, ?_, ?_, ?_, ?_, ?_, ?_, ?_, ?_, fun o => frozen_of hb⟩ <;> (rw [cell_of_row _ _ _ _ _ (0, 0) hb]; rfl)
end
end Go.Proofs.YtbgdlokegibkmaaGreat.Visit

namespace Go.Proofs.YtbgdlokegibkmaaGreat.Visit
open Go.RowKit
open _root_.Go.Proofs.YtbgdlokegibkmaaGreat.Frame (Rw Tb Tk noRow LeasesAt cell_on)
open _root_.Go.Proofs.YtbgdlokegibkmaaGreat.Ledger (RowAt RowsAt LeasesIn Rise mint held tabVal cfVal)
open _root_.Go.Proofs.YtbgdlokegibkmaaGreat.Codec (Ints lt_of_heap frozen_of heap_set)
open _root_.Go.Proofs.YtbgdlokegibkmaaGreat.Kit (Lies Kept Off)
open _root_.Go.Proofs.YtbgdlokegibkmaaGreat.Edge (Cf Eg An Ed RatesB CfNum Says HasN Typed In Moves KeepC Lens pair)
open _root_.Go.Proofs.YtbgdlokegibkmaaGreat.Token (tokVal)
open _root_.Go.Proofs.YtbgdlokegibkmaaGreat.Lease (Num)
theorem says_told {w : World} {v : Value} {l : List An} (h : Says w v l) : Edge.Told w v l := by
  obtain ⟨p, c, e, h1, -, h3⟩ := h
  exact ⟨p, c, e, h1, h3⟩
/-- The row's block, if it is not nil, is of answers. -/
theorem ownz_type {C : Nat} {u : World} {v : Value} {l : List An} (h : OwnZ C u v l) {b m d : Nat} (e : v = .slice (some ⟨b, 0, none⟩) m d) : C ≤ b ∧ ∃ cs, u.heap[b]? = some (.cells cs 60 (0, 0)) := by
  rcases h with ⟨h, -⟩ | ⟨g, cap, h, h1, -, -, h4⟩
  · rw [h] at e; simp at e
  · rw [h] at e
    simp only [Value.slice.injEq, Option.some.injEq, Addr.mk.injEq] at e
    obtain ⟨⟨rfl, -⟩, -⟩ := e
    exact ⟨h1, _, h4⟩
theorem ownz_slice {C : Nat} {u : World} {v : Value} {l : List An} (h : OwnZ C u v l) : ∃ p m d, v = .slice p m d := by
  rcases h with ⟨h, -⟩ | ⟨g, cap, h, -⟩
  · exact ⟨_, _, _, h⟩
  · exact ⟨_, _, _, h⟩
set_option maxRecDepth 100000 in
set_option maxHeartbeats 4000000 in
theorem gtell_any {ga : Nat} {u : World} {vo : Value} {out : List An} (hga : u.heap[ga]? = some (.cells #[vo] 45 (0, 0))) (hown : OwnZ ga u vo out) {v : Value} {k : List An} (hk : Edge.Told u v k) (hlen : out.length + k.length ≤ 100000) :
    Calls Tryz.prog 57 #[v, .pointer (some ⟨ga, 0, none⟩)] u fun x w' => x = .returned (.tuple #[]) ∧ ∃ vo', w'.heap[ga]? = some (.cells #[vo'] 45 (0, 0)) ∧ OwnZ ga w' vo' (out ++ k) ∧ Kept outs18 u w' ∧ Below ga u w' ∧ (∀ b, b < u.heap.size → b ≠ ga → (∀ m d, vo ≠ .slice (some ⟨b, 0, none⟩) m d) → w'.heap[b]? = u.heap[b]?) ∧ ∀ b m d, vo' = .slice (some ⟨b, 0, none⟩) m d → (∃ m' d', vo = .slice (some ⟨b, 0, none⟩) m' d') ∨ u.heap.size ≤ b := by
  have hc : u.cell? ⟨ga, 0, none⟩ = some vo := by rw [cell_of_row _ ga 0 _ _ (0, 0) hga]; rfl
  have hlt := lt_of_heap hga
  have HGA := Lib.hid hga
  have HO := Lib.hid hown
  clear hga hown
  go_enter Tryz.func57, Tryz.ntmps57
  go_wp2_with (at_builtin; refine pour2 rfl (.tmp 3) (.tmp 4) rfl ga vo rfl out HO.out (Nat.le_of_lt hlt) v rfl k hk hlen ?_; intro vo' w1 h1 h2 h3 h4 h5; obtain ⟨pv, mv, dv, rfl⟩ := ownz_slice h1.out; have hga1 : w1.heap[ga]? = some (.cells #[vo] 45 (0, 0)) := h2.out.block ga _ _ _ HGA.out (by decide); have HG1 := Lib.hid hga1; have c1 : w1.cell? ⟨ga, 0, none⟩ = some vo := (by rw [cell_of_row _ ga 0 _ _ (0, 0) hga1]; rfl); have f1 : w1.frozen? ⟨ga, 0, none⟩ = false := frozen_of hga1; clear hga1)
  go_end0
  have hs := heap_set ga 0 _ (.slice pv mv dv) HG1.out
  have ho : ∀ b, b ≠ ga → (w1.setCell ⟨ga, 0, none⟩ (.slice pv mv dv)).heap[b]? = w1.heap[b]? := fun b hb => Below.heap_setCell _ _ _ _ hb
  refine ⟨rfl, _, hs, h1.out.keep fun g _ ⟨cs, hg⟩ => ho g (by rintro rfl; rw [HG1.out] at hg; simp at hg), ⟨Nat.le_trans h2.out.size (by simp), fun g o hg ht => (ho g (by rintro rfl; rw [HGA.out] at hg; exact ht _ _ _ (Option.some.inj hg).symm (by decide))).trans (h2.out.obj g o hg fun cs T z e hT => ht cs T z e (by simp only [List.mem_singleton] at hT; subst hT; decide))⟩, h3.out.setCell (Nat.le_refl _) _, fun b hb hn hv => (ho b hn).trans (h4.out b hb hv), h5.out⟩
/-- While keys are granted: the guest, the answers' variable, what was told; whence it began. -/
structure Gr (B gb ga : Nat) (f : Gf) (y : Value) (qw qq qd : Nat) (R0 R : Nat → Prop) (w0 : World) (p : Option Addr) (d : Nat) (s : Gs) (vo : Value) (u : World) : Prop where
  gu : Gu B gb f y qw qq qd R p d s.t s.e u
  var : u.heap[ga]? = some (.cells #[vo] 45 (0, 0))
  own : OwnZ ga u vo s.out
  nga : ¬ R ga
  now' : ∀ b m d', vo = .slice (some ⟨b, 0, none⟩) m d' → ¬ R b
  fr : Fr18 B gb R0 R w0 u
  lo : w0.heap.size ≤ ga
  ba : B ≤ ga
  bg : B ≤ gb
section
variable {B gb ga : Nat} {f : Gf} {y : Value} {qw qq qd : Nat} {R0 R R' : Nat → Prop} {w0 : World} {p p' : Option Addr} {d d' : Nat} {s : Gs} {vo : Value} {u u' : World}
theorem Gr.ne (h : Gr B gb ga f y qw qq qd R0 R w0 p d s vo u) : gb ≠ ga := by
  rintro rfl
  have h1 := h.gu.box
  rw [h.var] at h1
  simp at h1
/-- A call of the guest's. -/
theorem Gr.step {t : Tb} {e : Eg} (h : Gr B gb ga f y qw qq qd R0 R w0 p d s vo u) (hg : Gu B gb f y qw qq qd R' p' d' t e u') (hf : Fr18 B gb R R' u u') : Gr B gb ga f y qw qq qd R0 R' w0 p' d' ⟨t, e, s.out⟩ vo u' :=
  ⟨hg, hf.off2 ga _ _ _ (Ne.symm h.ne) (by simp [Edge.theirs]) h.var, h.own.keep fun g _ ⟨cs, hc⟩ => (hf.off.block g _ _ _ hc (by simp [Edge.mine])).trans hc.symm,
    fun hR => (hf.new ga hR).elim h.nga fun hs => by have := lt_of_heap h.var; omega,
    fun b m d' e hR => (hf.new b hR).elim (h.now' b m d' e) fun hs => by obtain ⟨-, cs, hc⟩ := ownz_type h.own e; have := lt_of_heap hc; omega,
    h.fr.trans hf, h.lo, h.ba, h.bg⟩
theorem Gr.on (h : Gr B gb ga f y qw qq qd R0 R w0 p d s vo u) (hb : Below u.heap.size u u') : Gr B gb ga f y qw qq qd R0 R w0 p d s vo u' := h.step (h.gu.on hb) (Fr18.of_below hb h.gu.size)
/-- Answers are gathered. -/
theorem Gr.tell {vo' : Value} {k : List An} (h : Gr B gb ga f y qw qq qd R0 R w0 p d s vo u) (hv : u'.heap[ga]? = some (.cells #[vo'] 45 (0, 0))) (ho : OwnZ ga u' vo' (s.out ++ k)) (hk : Kept outs18 u u') (hb : Below ga u u') (hst : ∀ b, b < u.heap.size → b ≠ ga → (∀ m d, vo ≠ .slice (some ⟨b, 0, none⟩) m d) → u'.heap[b]? = u.heap[b]?) (hn : ∀ b m d, vo' = .slice (some ⟨b, 0, none⟩) m d → (∃ m' d', vo = .slice (some ⟨b, 0, none⟩) m' d') ∨ u.heap.size ≤ b) :
    Gr B gb ga f y qw qq qd R0 R w0 p d ⟨s.t, s.e, s.out ++ k⟩ vo' u' := by
  have hbox : u'.heap[gb]? = u.heap[gb]? := hst gb (lt_of_heap h.gu.box) h.ne fun m d e => by
    obtain ⟨-, cs, hc⟩ := ownz_type h.own e
    have h1 := h.gu.box
    rw [hc] at h1
    simp at h1
  refine ⟨⟨in_kept h.gu.inn hk, hbox.trans h.gu.box, h.gu.rows.on (fun _ h => fun _ => h) fun b hR hl => hst b hl (fun e => h.nga (e ▸ hR)) fun m d e => h.now' b m d e hR, h.gu.start, h.gu.ngb, h.gu.rates.on (hb.mono h.ba), Nat.le_trans h.gu.size hk.size⟩, hv, ho, h.nga, fun b m d' e hR => ?_, ?_, h.lo, h.ba, h.bg⟩
  · rcases hn b m d' e with ⟨m', d2, e2⟩ | hs
    · exact h.now' b m' d2 e2 hR
    · have := h.gu.inn.low b hR
      omega
  · have hl := h.lo
    exact ⟨h.fr.below.trans (hb.mono h.ba), ⟨Nat.le_trans h.fr.off.size hk.size, fun g cs T z hg hT => (hb.block g (by have := lt_of_heap hg; omega)).trans (h.fr.off.block g cs T z hg hT)⟩, fun g cs T z hn hT hg => (hb.block g (by have := lt_of_heap hg; omega)).trans (h.fr.off2 g cs T z hn hT hg), fun g hR hN hlt => (hb.block g (by omega)).trans (h.fr.keep g hR hN hlt), h.fr.up, h.fr.new⟩
end
end Go.Proofs.YtbgdlokegibkmaaGreat.Visit

namespace Go.Proofs.YtbgdlokegibkmaaGreat.Visit
open Go.RowKit
open _root_.Go.Proofs.YtbgdlokegibkmaaGreat.Frame (Rw Tb Tk noRow Asked cell_on)
open _root_.Go.Proofs.YtbgdlokegibkmaaGreat.Ledger (RowAt RowsAt)
open _root_.Go.Proofs.YtbgdlokegibkmaaGreat.Codec (Ints lt_of_heap frozen_of heap_set own_below)
open _root_.Go.Proofs.YtbgdlokegibkmaaGreat.Edge (Cf Eg An RatesB CfNum Says HasN Lens e0)
open _root_.Go.Proofs.YtbgdlokegibkmaaGreat.Token (tokVal box5f)
open _root_.Go.Proofs.YtbgdlokegibkmaaGreat.Lease (Num)
open _root_.Go.Proofs.YtbgdlokegibkmaaGreat.Kit (Off)
theorem rows_off {w w' : World} {ts : List TypeId} {B n k : Nat} {T : TypeId} {y : Value} {xs : List Value} (h : w.ownsRow B T n y k xs) (ho : Off ts w w') (ht : T ∈ ts) : w'.ownsRow B T n y k xs := by
  refine ⟨h.1, ?_⟩
  rcases h.2 with h0 | ⟨g, cap, cur, rfl, h1, h2, h3⟩
  · exact .inl h0
  · exact .inr ⟨g, cap, cur, rfl, h1, ho.block g _ _ _ h2 ht, h3⟩
set_option maxRecDepth 100000 in
set_option maxHeartbeats 4000000 in
/-- Of, in a row of its own. -/
theorem of_own11 {l : List Lease.Lz} {p : Option Addr} {c : Nat} {w : World} (h : Lease.Lies w p l) (hl : l.length ≤ 1000) :
    Calls Tryz.prog 21 #[.slice p l.length c] w fun e w' => ∃ q d, e = .returned (.slice q l.length d) ∧ Lease.Own 131 w.heap.size w' (.slice q l.length d) l ∧ Below w.heap.size w w' := by
  have HL := Lib.hid h
  clear h
  go_enter Tryz.func21, Tryz.ntmps21
  go_wp2
  go_loopw [3, 4] (fun y i wr => ∃ (j : Nat) (q : Option Addr) (d : Nat), j ≤ l.length ∧ i = .int .i64 (j : Int) ∧ y = .slice q j d ∧ Hid (Lease.Own 131 w.heap.size wr y (l.take j)) ∧ Below w.heap.size w wr) (fun _ i _ => l.length - (intOf i).toNat)
  case atStart => exact ⟨0, none, 0, by omega, rfl, rfl, Lib.hid (Lease.Own.none _ _ _), Below.refl _ _⟩
  case round =>
    obtain ⟨j, q, d, hj, rfl, rfl, hown, hbw⟩ := hrel
    have HBW := Lib.hid hbw
    by_cases hlt : j < l.length
    · obtain ⟨b, o, rfl, k0, k1, k2, k3, k4⟩ := Lease.lies_at (HL.out.below hbw) hlt
      have hlt' : (j : Int) < (l.length : Int) := by omega
      have HT := Lib.hid (Lease.take_snoc hlt)
      have HN := Lib.hid (show (l.take j).length = j by simp; omega)
      generalize l.getD j Lease.z = x at *
      generalize l.take j = L at *
      obtain ⟨xk, xg, xa, xs, xt⟩ := x
      simp only at k0 k1 k2 k3 k4
      clear hbw
      have HU := Lib.hid (fun (o : Obj) => (Below.refl wr.heap.size wr).alloc (Nat.le_refl _) o)
      have HG := Lib.hid (fun (o o' : Obj) => show ((wr.alloc o).alloc o').heap[wr.heap.size + 1]? = some o' from by have := heap_alloc_new (wr.alloc o) o'; simpa using this)
      go_wp2_with (at_builtin; refine Lease.push_lease rfl (.tmp 16) (.tmp 28) rfl w wr (.slice q j d) rfl L j HN.out hown.out HBW.out (HU.out _) (wr.heap.size + 1) ⟨xk, xg, xa, xs, xt⟩ rfl (HG.out _ _) (by omega) ?_; intro p4 c4 w4 R4 B4)
      go_roundw
      case rel => exact ⟨j + 1, p4, c4, by omega, by go_num, rfl, by rw [HT.out]; exact R4, B4⟩
      case measure => simp only [intOf]; omega
    · have hlt' : ¬ (j : Int) < (l.length : Int) := by omega
      have e : j = l.length := by omega
      have hw := hown.out
      rw [List.take_of_length_le (by omega)] at hw
      have HQ := Lib.hid hw
      clear hw hown
      go_wp2
      subst e
      refine bodyPost_ret (v := .slice q l.length d) (by simp [results, Tryz.results21, go_sem]) rfl ⟨q, d, rfl, HQ.out, HBW.out⟩
set_option maxRecDepth 100000 in
set_option maxHeartbeats 4000000 in
theorem of_own12 {l : List Queue.It} {p : Option Addr} {c : Nat} {w : World} (h : Kit.Lies Queue.item w p l) (hl : l.length ≤ 1000) :
    Calls Tryz.prog 23 #[.slice p l.length c] w fun e w' => ∃ q d, e = .returned (.slice q l.length d) ∧ Kit.Own Queue.item 113 w.heap.size w' (.slice q l.length d) l ∧ Below w.heap.size w w' := by
  have HL := Lib.hid h
  clear h
  go_enter Tryz.func23, Tryz.ntmps23
  go_wp2
  go_loopw [3, 4] (fun y i wr => ∃ (j : Nat) (q : Option Addr) (d : Nat), j ≤ l.length ∧ i = .int .i64 (j : Int) ∧ y = .slice q j d ∧ Hid (Kit.Own Queue.item 113 w.heap.size wr y (l.take j)) ∧ Below w.heap.size w wr) (fun _ i _ => l.length - (intOf i).toNat)
  case atStart => exact ⟨0, none, 0, by omega, rfl, rfl, Lib.hid (Kit.Own.none _ _ _ _), Below.refl _ _⟩
  case round =>
    obtain ⟨j, q, d, hj, rfl, rfl, hown, hbw⟩ := hrel
    have HBW := Lib.hid hbw
    by_cases hlt : j < l.length
    · obtain ⟨b, o, rfl, ha⟩ := Queue.lies_at (HL.out.below hbw) hlt
      obtain ⟨k0, k1, k2, k3, k4⟩ := Queue.at5 ha
      have hlt' : (j : Int) < (l.length : Int) := by omega
      have HT := Lib.hid (Kit.take_snoc Queue.z hlt)
      have HN := Lib.hid (show (l.take j).length = j by simp; omega)
      clear hbw ha HL
      generalize l.getD j Queue.z = x at *
      generalize l.take j = L at *
      obtain ⟨xi, xk, xc, xs, xt⟩ := x
      simp only at k0 k1 k2 k3 k4
      have HU := Lib.hid (fun (o : Obj) => (Below.refl wr.heap.size wr).alloc (Nat.le_refl _) o)
      have HG := Lib.hid (fun (o o' : Obj) => show ((wr.alloc o).alloc o').heap[wr.heap.size + 1]? = some o' from by have := heap_alloc_new (wr.alloc o) o'; simpa using this)
      go_wp2_with (at_builtin; refine Kit.push Queue.laidR rfl _ _ rfl w wr (.slice q j d) rfl L j HN.out hown.out HBW.out ((HU.out _).alloc (HU.out _).size _) (wr.heap.size + 1) ⟨xi, xk, xc, xs, xt⟩ rfl (HG.out _ _) (by omega) ?_; intro p4 c4 w4 R4 B4)
      go_roundw
      case rel => exact ⟨j + 1, p4, c4, by omega, by go_num, rfl, by rw [HT.out]; exact R4, B4⟩
      case measure => simp only [intOf]; omega
    · have hlt' : ¬ (j : Int) < (l.length : Int) := by omega
      have e : j = l.length := by omega
      have hw := hown.out
      rw [List.take_of_length_le (by omega)] at hw
      have HQ := Lib.hid hw
      clear hw hown
      go_wp2
      subst e
      refine bodyPost_ret (v := .slice q l.length d) (by simp [results, Tryz.results23, go_sem]) rfl ⟨q, d, rfl, HQ.out, HBW.out⟩
/-- The edge, behind j requests. -/
def askOf (c : Cf) (l : List Av) (j : Nat) : Eg := (l.take j).foldl (fun e a => (Edge.ask c e a.r a.now).1) e0
theorem askOf_succ (c : Cf) (l : List Av) {j : Nat} (h : j < l.length) : askOf c l (j + 1) = (Edge.ask c (askOf c l j) (l.getD j zv).r (l.getD j zv).now).1 := by
  unfold askOf
  rw [List.take_succ_eq_append_getElem h, List.foldl_append]
  simp [List.getD, h]
theorem inv_asks {c : Cf} (hq : 0 ≤ c.qu) {t : Tk} (ht : Few18 t) (l : List Av) (hn : ∀ a ∈ l, AvNum a) : ∀ j, j ≤ l.length → Inv c 0 ⟨t, askOf c l j⟩
  | 0, _ => inv_first hq ht 0
  | j + 1, h => by
    have ih := inv_asks hq ht l hn j (by omega)
    have hm : l.getD j zv ∈ l := by simp [List.getD, show j < l.length by omega]
    rw [askOf_succ c l (by omega)]
    exact inv_ask ih (hn _ hm).1 _
/-- What a visit that is not valid behind it makes. -/
theorem visit_not {c : Cf} {node now : Int} {t : Tk} {e : Eg} (h : Token.valid (visit c node now t e).1.stamps now c.va = false) : visit c node now t e = ((Token.stamped t node now).1, e, []) := by
  unfold visit at h ⊢
  by_cases hv : Token.valid (Token.stamped t node now).1.stamps now c.va = true
  · rw [if_pos hv] at h
    rw [hv] at h
    simp at h
  · rw [if_neg hv]
theorem visit_stamps (c : Cf) (node now : Int) (t : Tk) (e : Eg) : (visit c node now t e).1.stamps.length = t.stamps.length := by
  obtain ⟨-, -, -, h⟩ := stamped_rest t node now
  unfold visit
  split
  · exact h
  · exact h
/-- While requests are asked: the edge, the token, the boxes, among blocks that stay. -/
structure Nv (PW : PwR) (W : World) (R : Nat → Prop) (q : Nat) (c : Cf) (pf : Option Addr) (kf : Nat) (e : Eg) (t : Tk) (ps : Option Addr) (cs : Nat) (pt : Option Addr) (d : Nat) (u : World) : Prop where
  pw : PW R W.heap.size u q c e
  tok : TokIn R u t ps pt
  boxes : Boxes W c pf kf t ps cs pt d u
  r0 : R W.heap.size
  r1 : R (W.heap.size + 1)
  below : Below W.heap.size W u
section
variable {PW : PwR} {W : World} {R : Nat → Prop} {q : Nat} {c : Cf} {pf : Option Addr} {kf : Nat} {e e' : Eg} {t : Tk} {ps : Option Addr} {cs : Nat} {pt : Option Addr} {d : Nat} {u u' : World}
theorem Nv.on (F : FrameR PW) (h : Nv PW W R q c pf kf e t ps cs pt d u) (hb : Below u.heap.size u u') : Nv PW W R q c pf kf e t ps cs pt d u' :=
  ⟨F.below h.pw hb, h.tok.below hb, h.boxes.below hb, h.r0, h.r1, h.below.trans (hb.mono h.below.size)⟩
theorem Nv.own (h : Nv PW W R q c pf kf e t ps cs pt d u) (hm : MovedR PW R W.heap.size u q c e' u') : Nv PW W R q c pf kf e' t ps cs pt d u' := by
  obtain ⟨x0, -, -, -, -, -, -, -, -, y0, -⟩ := h.boxes.cells
  exact ⟨hm.pw, h.tok.moved hm, ⟨(hm.keep _ h.r0 ⟨_, _, _, x0⟩ (lt_of_heap h.boxes.conf)).trans h.boxes.conf, (hm.keep _ h.r1 ⟨_, _, _, y0⟩ (lt_of_heap h.boxes.tok)).trans h.boxes.tok⟩, h.r0, h.r1, h.below.trans hm.below⟩
/-- The program's visit, whether it may be or not: its answer, its token, what the edge is then. -/
theorem nvisit (P : Way18 PW) (h : Nv PW W R q c pf kf e t ps cs pt d u) (hI : Inv c 0 ⟨t, e⟩) {now : Int} (hn : Num now) (hc : CfNum c) (hz : c.zs.length ≤ 60) (hr : RatesB W.heap.size W pf c.zs) :
    Calls Tryz.prog 15 #[tokVal t ps cs pt (d + t.table.rows.length), .pointer (some ⟨q, 0, none⟩), .int .i64 0, .int .i64 now, c.val pf kf] u fun x w' => ∃ T ps' cs' pt' d' p k L G, x = .returned (.tuple #[tokVal T ps' cs' pt' (d' + T.table.rows.length), .slice p L k, .int .i64 G]) ∧ T.stamps.length ≤ 100 ∧ Ints w' ps' T.stamps ∧ Boxes W c pf kf t ps cs pt d w' ∧ Below W.heap.size W w' ∧ (G = 1 ∨ G = 0 ∧ (Token.valid T.stamps now c.va = true ∨ Token.valid T.stamps now c.va = false ∧ T.table = t.table ∧ L = 0 ∧ RowsAt w' pt' t.table.rows ∧ Nv PW W R q c pf kf e t ps cs pt d w' ∧ Off Edge.mine u w')) := by
  have hru := rates_on hr h.below.size h.below
  cases hR : right c t 0 now with
  | true =>
    obtain ⟨h1, -⟩ := right_ok hR
    rcases hI.mode with hk | ⟨h2, -⟩
    · refine (P.visit 0 now t 0 ps cs pt d pf kf h.pw h.below.size hk (by omega) hR (by simp [Num]) hn hc hz h.tok (hr.on h.below)).mono ?_
      rintro x w' ⟨ps', cs', pt', d', y, R', hx, ⟨p, k, rfl, -, -⟩, ht, hs, hp, hmv⟩
      have hN := h.own hmv
      refine ⟨_, ps', cs', pt', d', p, k, _, 0, hx, by rw [visit_stamps]; exact hI.few.stamps, ht.stamps.rest, hN.boxes, hN.below, .inr ⟨rfl, ?_⟩⟩
      cases hv : Token.valid (visit c 0 now t e).1.stamps now c.va with
      | true => exact .inl rfl
      | false =>
        have hvn := visit_not hv
        have h3 := (stamped_rest t 0 now).2.2.1
        refine .inr ⟨rfl, by rw [hvn]; exact h3, by rw [hvn]; rfl, ?_, ?_, hmv.off⟩
        · have := rowsin_rest ht.rows
          rw [hvn] at this
          exact h3 ▸ this
        · rw [hvn] at hN
          exact hN
    · rw [h1] at h2
      simp at h2
  | false =>
    refine (P.visitno 0 now t (some ⟨q, 0, none⟩) ps cs pt d c pf kf u (.inr hR) hI.few hc hz h.tok.stamps.rest (rowsin_rest h.tok.rows) hru).mono ?_
    rintro x w' ⟨ps', cs', pt', d', y, hx, ⟨p, k, rfl, -, -⟩, hk, hb⟩
    exact ⟨t, ps', cs', pt', d', p, k, _, 1, hx, hI.few.stamps, hk.stamps.rest, h.boxes.below hb, h.below.trans (hb.mono h.below.size), .inl rfl⟩
end
end Go.Proofs.YtbgdlokegibkmaaGreat.Visit

namespace Go.Proofs.YtbgdlokegibkmaaGreat.Visit
open Go.RowKit
open _root_.Go.Proofs.YtbgdlokegibkmaaGreat.Frame (Rw Tb Tk noRow Asked cell_on)
open _root_.Go.Proofs.YtbgdlokegibkmaaGreat.Ledger (RowAt RowsAt)
open _root_.Go.Proofs.YtbgdlokegibkmaaGreat.Codec (Ints lt_of_heap own_below)
open _root_.Go.Proofs.YtbgdlokegibkmaaGreat.Edge (Cf Eg An RatesB CfNum Says HasN Lens e0)
open _root_.Go.Proofs.YtbgdlokegibkmaaGreat.Token (tokVal box5f)
open _root_.Go.Proofs.YtbgdlokegibkmaaGreat.Lease (Num)
open _root_.Go.Proofs.YtbgdlokegibkmaaGreat.Kit (Off)
section
variable {PW : PwR} {W : World} {c : Cf} {pf : Option Addr} {kf : Nat} {t : Tk} {ps : Option Addr} {cs : Nat} {pt : Option Addr} {d : Nat} {pa : Option Addr} {n ka : Nat}
set_option maxRecDepth 100000 in
set_option maxHeartbeats 4000000 in
theorem never_no (P : Way18 PW) (ok : Bool) (f : Int) (hof : ok = false ∨ ok = true ∧ f ≠ 0) (HF : ∀ u, Below W.heap.size W u → Calls Tryz.prog 6 #[tokVal t ps cs pt (d + t.table.rows.length), c.val pf kf, .slice pa n ka] u (Asked u ok))
    (HNW : ∀ u, Below W.heap.size W u → Calls Tryz.prog 8 #[c.val pf kf] u fun x w' => ∃ y, x = .returned (.tuple #[.pointer y, .int .i64 f]) ∧ Below u.heap.size u w') :
    Calls Tryz.prog 5 #[c.val pf kf, tokVal t ps cs pt (d + t.table.rows.length), .slice pa n ka] W fun e w' => e = .returned (.bool true) ∧ Below W.heap.size W w' := by
  obtain ⟨hX, hB⟩ := boxes_lay W c pf kf t ps cs pt d
  have HX := Lib.hid hX
  have HB := Lib.hid hB
  have HFF := Lib.hid HF
  have HN := Lib.hid HNW
  have HAA := Lib.hid (fun u => alive_any P u)
  obtain ⟨x0, x1, x2, x3, x4, x5, x6, x7, x8, y0, y1, y2, y3, y4, -⟩ := hX.cells
  clear hX hB HF P HNW
  rcases hof with rfl | ⟨rfl, hf⟩
  case inr => 
    have hnn : (f != 0) = true := by simpa using hf
    clear hf
    simp only [Cf.val, tokVal] at HFF HN ⊢
    go_enter Tryz.func5, Tryz.ntmps5
    go_upto_region 1 with (fail)
    generalize ((W.alloc (.cells #[.int .i64 c.n, .int .i64 c.sk, .int .i64 c.tl, .int .i64 c.va, .int .i64 c.lo, .int .i64 c.he, .int .i64 c.ke, .int .i64 c.qu, .slice pf c.zs.length kf] 24)).alloc (.cells #[.int .i64 t.gen, .int .i64 t.hop, .slice ps t.stamps.length cs, .int .i64 t.table.start, .slice pt t.table.rows.length (d + t.table.rows.length)] 30)) = W0 at *
    go_wp2_with (first
      | (go_at_call 6; (with_reducible refine (HFF.out _ HB.out).mono ?_); rintro x u1 ⟨rfl, hb⟩; have HB1 := Lib.hid (HB.out.trans (hb.mono HB.out.size)); have HX1 := Lib.hid (HX.out.below hb); clear x0 x1 x2 x3 x4 x5 x6 x7 x8 y0 y1 y2 y3 y4; obtain ⟨x0, x1, x2, x3, x4, x5, x6, x7, x8, y0, y1, y2, y3, y4, -⟩ := HX1.out.cells; clear hb HFF)
      | (go_at_call 8; (with_reducible refine (HN.out _ HB1.out).mono ?_); rintro x u2 ⟨py, rfl, hb⟩; have HB2 := Lib.hid (HB1.out.trans (hb.mono HB1.out.size)); clear hb HN)
      | (go_at_call 7; (with_reducible refine (HAA.out _).mono ?_); rintro x u5 ⟨rfl, hb⟩; have HB5 := Lib.hid (HB2.out.trans (hb.mono HB2.out.size)); clear hb))
    go_ret
    exact ⟨rfl, HB5.out⟩
  simp only [Cf.val, tokVal] at HFF HN ⊢
  go_enter Tryz.func5, Tryz.ntmps5
  go_upto_region 1 with (fail)
  generalize ((W.alloc (.cells #[.int .i64 c.n, .int .i64 c.sk, .int .i64 c.tl, .int .i64 c.va, .int .i64 c.lo, .int .i64 c.he, .int .i64 c.ke, .int .i64 c.qu, .slice pf c.zs.length kf] 24)).alloc (.cells #[.int .i64 t.gen, .int .i64 t.hop, .slice ps t.stamps.length cs, .int .i64 t.table.start, .slice pt t.table.rows.length (d + t.table.rows.length)] 30)) = W0 at *
  go_wp2_with (first
    | (go_at_call 6; (with_reducible refine (HFF.out _ HB.out).mono ?_); rintro x u1 ⟨rfl, hb⟩; have HB1 := Lib.hid (HB.out.trans (hb.mono HB.out.size)); have HX1 := Lib.hid (HX.out.below hb); clear x0 x1 x2 x3 x4 x5 x6 x7 x8 y0 y1 y2 y3 y4; obtain ⟨x0, x1, x2, x3, x4, x5, x6, x7, x8, y0, y1, y2, y3, y4, -⟩ := HX1.out.cells; clear hb HFF)
    | (go_at_call 8; (with_reducible refine (HN.out _ HB1.out).mono ?_); rintro x u2 ⟨py, rfl, hb⟩; have HB2 := Lib.hid (HB1.out.trans (hb.mono HB1.out.size)); clear hb HN)
    | (go_at_call 7; (with_reducible refine (HAA.out _).mono ?_); rintro x u5 ⟨rfl, hb⟩; have HB5 := Lib.hid (HB2.out.trans (hb.mono HB2.out.size)); clear hb))
  go_ret
  exact ⟨rfl, HB5.out⟩
end
/-- An act's request and its reading, where what lay ahead stays. -/
theorem six_off {W u : World} {b o : Nat} {a : Av} (h : AvAt W b o a) (hb : Below W.heap.size W u) : u.cell? ⟨b, o + 2, none⟩ = some (.int .i64 a.r.id) ∧ u.cell? ⟨b, o + 3, none⟩ = some (.int .i64 a.r.key) ∧ u.cell? ⟨b, o + 4, none⟩ = some (.int .i64 a.r.cost) ∧ u.cell? ⟨b, o + 5, none⟩ = some (.int .i64 a.r.cls) ∧ u.cell? ⟨b, o + 6, none⟩ = some (.int .i64 a.r.wait) ∧ u.cell? ⟨b, o + 7, none⟩ = some (.int .i64 a.now) :=
  ⟨cell_on h.k2 hb, cell_on h.k3 hb, cell_on h.k4 hb, cell_on h.k5 hb, cell_on h.k6 hb, cell_on h.k7 hb⟩
theorem own_lies11 {B : Nat} {w : World} {q : Option Addr} {n k : Nat} {l : List Lease.Lz} (h : Lease.Own 131 B w (.slice q n k) l) : Lease.Lies w q l := by
  obtain ⟨q', d', hq, hl⟩ := h.lies
  simp only [Value.slice.injEq] at hq
  obtain ⟨rfl, -, -⟩ := hq
  exact hl
theorem own_lies12 {B : Nat} {w : World} {q : Option Addr} {n k : Nat} {l : List Queue.It} (h : Kit.Own Queue.item 113 B w (.slice q n k) l) : Kit.Lies Queue.item w q l := by
  obtain ⟨q', d', hq, hl⟩ := h.lies
  simp only [Value.slice.injEq] at hq
  obtain ⟨rfl, -, -⟩ := hq
  exact hl
theorem nexts {PW : PwR} {W : World} {R : Nat → Prop} {q : Nat} {c : Cf} {pf : Option Addr} {kf : Nat} {e : Eg} {t : Tk} {ps : Option Addr} {cs : Nat} {pt : Option Addr} {d : Nat} (P : Way18 PW) {r : Edge.Rq} {now : Int} (hr : Edge.RqNum r) (hn : Num now) (hg : Edge.Good c e) (hl : Lens e) (u : World) (hu : Nv PW W R q c pf kf e t ps cs pt d u) :
    Calls Tryz.prog 13 #[.pointer (some ⟨q, 0, none⟩), .agg #[.int .i64 r.id, .int .i64 r.key, .int .i64 r.cost, .int .i64 r.cls, .int .i64 r.wait], .int .i64 now] u fun x w' => ∃ p n k, x = .returned (.slice p n k) ∧ Nv PW W R q c pf kf (Edge.ask c e r now).1 t ps cs pt d w' := by
  refine (P.ask hu.pw hu.below.size hg hl r hr now hn).mono ?_
  rintro x w' ⟨y, hx, ⟨p, k, rfl, -, -⟩, hm⟩
  exact ⟨p, _, k, hx, hu.own hm⟩
set_option maxRecDepth 100000 in
set_option maxHeartbeats 8000000 in
theorem never_few {PW : PwR} (P : Way18 PW) (W : World) (c : Cf) (pf : Option Addr) (kf : Nat) (t : Tk) (ps : Option Addr) (cs : Nat) (pt : Option Addr) (d : Nat) (pa : Option Addr) (ka : Nat) (l : List Av) (hl : l.length ≤ 40) (ha : AvsAt W pa l) (hav : ∀ a ∈ l, AvNum a) (ht : Few18 t) (hti : TokIn (fun g => g < W.heap.size) W t ps pt) (hz : c.zs.length ≤ 40) (hr : RatesB W.heap.size W pf c.zs) (hc : CfNum c) (hck : c.check = 0) (hq : 0 ≤ c.qu ∧ c.qu ≤ 16)
    (HF : ∀ u, Below W.heap.size W u → Calls Tryz.prog 6 #[tokVal t ps cs pt (d + t.table.rows.length), c.val pf kf, .slice pa l.length ka] u (Asked u true)) :
    Calls Tryz.prog 5 #[c.val pf kf, tokVal t ps cs pt (d + t.table.rows.length), .slice pa l.length ka] W fun e w' => e = .returned (.bool true) ∧ Below W.heap.size W w' := by
  obtain ⟨hX, hB⟩ := boxes_lay W c pf kf t ps cs pt d
  have HX := Lib.hid hX
  have HB := Lib.hid hB
  have hsz : ((W.alloc (.cells #[.int .i64 c.n, .int .i64 c.sk, .int .i64 c.tl, .int .i64 c.va, .int .i64 c.lo, .int .i64 c.he, .int .i64 c.ke, .int .i64 c.qu, .slice pf c.zs.length kf] 24)).alloc (.cells #[.int .i64 t.gen, .int .i64 t.hop, .slice ps t.stamps.length cs, .int .i64 t.table.start, .slice pt t.table.rows.length (d + t.table.rows.length)] 30)).heap.size = W.heap.size + 2 := by simp
  obtain ⟨x0, x1, x2, x3, x4, x5, x6, x7, x8, y0, y1, y2, y3, y4, -⟩ := hX.cells
  have HP := Lib.hid P
  have HN := Lib.hid (fun u (hu : Below W.heap.size W u) => P.new W.heap.size c pf kf u hu.size (hr.on hu) (by omega) hc hck)
  have HI := Lib.hid (fun j (hj : j ≤ l.length) => inv_asks hq.1 ht l hav j hj)
  have HS := Lib.hid (fun (j : Nat) (hj : j < l.length) => askOf_succ c l hj)
  have HS0 := Lib.hid (show askOf c l 0 = e0 from rfl)
  have HT := Lib.hid hti
  have HAV := Lib.hid hav
  have HA := Lib.hid ha
  have HR := Lib.hid hr
  have HFF := Lib.hid HF
  have HAA := Lib.hid (fun u => alive_any P u)
  generalize hST : askOf c l = ST at *
  clear hST P hr hti hav ha HF hX hB
  simp only [Cf.val, tokVal] at HFF HN ⊢
  go_enter Tryz.func5, Tryz.ntmps5
  go_upto_region 1 with (fail)
  generalize ((W.alloc (.cells #[.int .i64 c.n, .int .i64 c.sk, .int .i64 c.tl, .int .i64 c.va, .int .i64 c.lo, .int .i64 c.he, .int .i64 c.ke, .int .i64 c.qu, .slice pf c.zs.length kf] 24)).alloc (.cells #[.int .i64 t.gen, .int .i64 t.hop, .slice ps t.stamps.length cs, .int .i64 t.table.start, .slice pt t.table.rows.length (d + t.table.rows.length)] 30)) = W0 at *
  go_wp2_with (first
    | (go_at_call 6; (with_reducible refine (HFF.out _ HB.out).mono ?_); rintro x u1 ⟨rfl, hb⟩; have HB1 := Lib.hid (HB.out.trans (hb.mono HB.out.size)); have HX1 := Lib.hid (HX.out.below hb); have hz1 := hb.size; clear x0 x1 x2 x3 x4 x5 x6 x7 x8 y0 y1 y2 y3 y4; obtain ⟨x0, x1, x2, x3, x4, x5, x6, x7, x8, y0, y1, y2, y3, y4, -⟩ := HX1.out.cells; clear hb HFF)
    | (go_at_call 8; (with_reducible refine (HN.out _ HB1.out).mono ?_); rintro x u2 ⟨q, rfl, hp, hb⟩; have HB2 := Lib.hid (HB1.out.trans (hb.mono HB1.out.size)); have HX2 := Lib.hid (HX1.out.below hb); have HP2 := Lib.hid hp; have hz2 := hb.size; clear x0 x1 x2 x3 x4 x5 x6 x7 x8 y0 y1 y2 y3 y4; clear hb hp HN))
  have HH0 := Lib.hid (show Nv PW W (fun g => g < u1.heap.size) q c pf kf (ST 0) t ps cs pt d u2 from by
    rw [HS0.out]
    exact ⟨HP2.out, HT.out.on (fun b hb _ => Nat.lt_of_lt_of_le hb (by omega)) (fun b hb _ _ => HB2.out.block b hb), HX2.out, by show W.heap.size < u1.heap.size; omega, by show W.heap.size + 1 < u1.heap.size; omega, HB2.out⟩)
  clear HP2 HX HX1 HX2 HB HB1 HB2 HT HS0 hz1 hz2 hsz
  generalize (fun g => g < u1.heap.size) = R at *
  go_loopw [10] (fun i wr => ∃ (j : Nat), j ≤ l.length ∧ i = .int .i64 (j : Int) ∧ Hid (Nv PW W R q c pf kf (ST j) t ps cs pt d wr)) (fun i _ => l.length - (intOf i).toNat)
  case atStart => exact ⟨0, by omega, rfl, HH0⟩
  case round =>
    obtain ⟨j, hj, rfl, hH⟩ := hrel
    have hI := HI.out j hj
    by_cases hlt : j < l.length
    · have hlt' : (j : Int) < (l.length : Int) := by omega
      have hst := HS.out j hlt
      obtain ⟨S1, hS1⟩ : ∃ S1, S1 = ST (j + 1) := ⟨_, rfl⟩
      rw [← hS1] at hst
      have HS1 := Lib.hid hS1
      clear hS1
      obtain ⟨bl, ol, rfl, hac⟩ : ∃ b o, pa = some ⟨b, o, none⟩ ∧ AvAt W b (o + j * 8) (l.getD j zv) := by
        rcases HA.out with h0 | ⟨b, o, e1, hc⟩
        · rw [h0] at hlt; simp at hlt
        · exact ⟨b, o, e1, hc j hlt⟩
      have hna := HAV.out (l.getD j zv) (by simp [List.getD, hlt])
      generalize l.getD j zv = a at *
      clear HA HAV HS HH0 HI
      generalize ST j = S at *
      have hlen := hI.lens hq.2 (by omega)
      simp only at hlen
      have HAP := Lib.hid (fun u hu => nexts (kf := kf) (pf := pf) (W := W) (R := R) (q := q) (t := t) (ps := ps) (cs := cs) (pt := pt) (d := d) HP.out hna.1 hna.2 hI.good (show Lens S from ⟨by omega, hlen.2.1, hlen.2.2⟩) u hu)
      have hD := hH.out.on HP.out.fr (Below.refl _ _).drew
      have HD := Lib.hid hD
      have HAC := Lib.hid hac
      have Z := six_off HAC.out HD.out.below
      clear hac hH hD
      go_upto_region 8 with (fail)
      go_region_held3 (fun u => u.cell? ⟨bl, ol + j * 8 + 2, none⟩ = some (.int .i64 a.r.id) ∧ u.cell? ⟨bl, ol + j * 8 + 3, none⟩ = some (.int .i64 a.r.key) ∧ u.cell? ⟨bl, ol + j * 8 + 4, none⟩ = some (.int .i64 a.r.cost) ∧ u.cell? ⟨bl, ol + j * 8 + 5, none⟩ = some (.int .i64 a.r.cls) ∧ u.cell? ⟨bl, ol + j * 8 + 6, none⟩ = some (.int .i64 a.r.wait) ∧ u.cell? ⟨bl, ol + j * 8 + 7, none⟩ = some (.int .i64 a.now)) (first | with_reducible assumption) (first
        | (go_at_call 13; (with_reducible refine (HAP.out _ HD.out).mono ?_); rintro x u8 ⟨pA, nA, kA, rfl, hs8⟩; have HS8 := Lib.hid hs8; have z8 := six_off HAC.out HS8.out.below; clear hs8))
      all_goals (go_wp2_with (fail))
      all_goals (refine ⟨⟨j + 1, by omega, by simp, ?_⟩, by simp only [intOf]; omega⟩)
      all_goals (rw [← HS1.out, hst])
      all_goals exact HS8
    · have hlt' : ¬ (j : Int) < (l.length : Int) := by omega
      obtain rfl : j = l.length := by omega
      have hN := hH.out
      have hlen := hI.lens hq.2 (by omega)
      simp only at hlen
      have HWT := Lib.hid (fun u (hu : Nv PW W R q c pf kf (ST l.length) t ps cs pt d u) => HP.out.waiting hu.pw hI.good ⟨by omega, hlen.2.1, hlen.2.2⟩)
      have HLE := Lib.hid (fun u (hu : Nv PW W R q c pf kf (ST l.length) t ps cs pt d u) => HP.out.leases hu.pw hI.good ⟨by omega, hlen.2.1, hlen.2.2⟩)
      have HVV := Lib.hid (fun u now (hn : Num now) (hu : Nv PW W R q c pf kf (ST l.length) t ps cs pt d u) => nvisit HP.out hu hI hn hc (by omega) HR.out)
      clear HI HS HH0 hH hlt
      generalize ST l.length = E at *
      have O1 := Lib.hid (fun u p k (hu : Lease.Lies u p E.L) => of_own11 (c := k) hu (by omega))
      have O2 := Lib.hid (fun u p k (hu : Kit.Lies Queue.item u p E.Q) => of_own12 (c := k) hu (by omega))
      have S1 := Lib.hid (fun u p k p2 k2 (hu : Lease.Lies u p E.L) (hv : Lease.Lies u p2 E.L) => Lease.rsame_any (c := k) (d := k2) hu hv rfl (by omega))
      have S2 := Lib.hid (fun u p k p2 k2 (hu : Kit.Lies Queue.item u p E.Q) (hv : Kit.Lies Queue.item u p2 E.Q) => Queue.rsame_any (c := k) (d := k2) hu hv (by omega))
      have HVL := Lib.hid (fun (T : Tk) u ps cs p c now span (h1 : T.stamps.length ≤ 100) (h2 : Ints u ps T.stamps) => Token.rvalid_any T ps cs p c now span u (by omega) h2)
      have HTB := Lib.hid (fun u p p' k k' (h1 : RowsAt u p t.table.rows) (h2 : RowsAt u p' t.table.rows) => (Frame.sametable_any t.table t.table p p' k k' u (by have := ht.rows; omega) h1.frame h2.frame (fun r hr => by have := ht.outs r hr; omega)).mono fun x w' hx => show x = .returned (.bool true) ∧ Below u.heap.size u w' from by have := hx; rw [Ledger.same_table] at this; exact this)
      simp only [Cf.val, tokVal] at HVV HVL
      have HN := Lib.hid hN
      obtain ⟨nw, hnw, hz0⟩ : ∃ nw, Num nw ∧ ((l.length = 0 ∧ nw = 1) ∨ 0 < l.length ∧ ∃ b o, pa = some ⟨b, o, none⟩ ∧ wr.cell? ⟨b, o + 7, none⟩ = some (.int .i64 nw)) := by
        by_cases h0 : 0 < l.length
        · rcases HA.out with h1 | ⟨b, o, e1, hc1⟩
          · rw [h1] at h0; simp at h0
          · have h7 := (hc1 0 h0).k7
            rw [Nat.zero_mul, Nat.add_zero] at h7
            exact ⟨_, (HAV.out (l.getD 0 zv) (by simp [List.getD, h0])).2, .inr ⟨h0, b, o, e1, cell_on h7 hN.below⟩⟩
        · exact ⟨1, by simp [Num], .inl ⟨by omega, rfl⟩⟩
      clear HA HAV hN
      have hz0' : (¬ (0 : Int) < (l.length : Int) ∧ nw = 1) ∨ (0 : Int) < (l.length : Int) ∧ ∃ b o, pa = some ⟨b, o, none⟩ ∧ wr.cell? ⟨b, o + 7, none⟩ = some (.int .i64 nw) := by
        rcases hz0 with ⟨h1, h2⟩ | ⟨h1, h2⟩
        · exact .inl ⟨by omega, h2⟩
        · exact .inr ⟨by omega, h2⟩
      clear hz0
      rcases hz0' with ⟨h0, rfl⟩ | ⟨h0, b, o, rfl, k7⟩
      all_goals
        go_upto_region 12 with (fail)
        go_upto_region 14 with (first
          | (go_at_call 22; (with_reducible refine (HLE.out _ HN.out).mono ?_); rintro x v1 ⟨p1, c1, rfl, hp, hb⟩; have P1 := Lib.hid hp; have N1 := Lib.hid (HN.out.on HP.out.fr hb); clear hp hb)
          | (go_at_call 21; (with_reducible refine (O1.out _ _ _ P1.out).mono ?_); rintro x v2 ⟨q2, d2, rfl, ho, hb⟩; have L2 := Lib.hid ho; have N2 := Lib.hid (N1.out.on HP.out.fr hb); clear ho hb)
          | (go_at_call 24; (with_reducible refine (HWT.out _ N2.out).mono ?_); rintro x v3 ⟨p3, c3, rfl, hp, -, hb⟩; have P3 := Lib.hid hp; have N3 := Lib.hid (N2.out.on HP.out.fr hb); have L3 := Lib.hid (L2.out.on hb); clear hp hb)
          | (go_at_call 23; (with_reducible refine (O2.out _ _ _ P3.out).mono ?_); rintro x v4 ⟨q4, d4, rfl, ho, hb⟩; have W4 := Lib.hid ho; have N4 := Lib.hid (N3.out.on HP.out.fr hb); have L4 := Lib.hid (L3.out.on hb); clear ho hb))
        clear P1 P3 N1 N2 N3 L2 L3 HN
        obtain ⟨x0, x1, x2, x3, x4, x5, x6, x7, x8, y0, y1, y2, y3, y4, -⟩ := N4.out.boxes.cells
        go_upto_region 15 with (go_at_call 15; (with_reducible refine (HVV.out _ _ hnw N4.out).mono ?_); rintro x v5 ⟨T, ps5, cs5, pt5, d5, p5, k5, n5, G, rfl, hT, hi5, hx5, hb5, hg5⟩; obtain ⟨g5, h5, s5, tb5⟩ := T; have HI5 := Lib.hid hi5; have HX5 := Lib.hid hx5; have HB5 := Lib.hid hb5; have HG5 := Lib.hid hg5; clear hi5 hx5 hb5 hg5)
        clear x0 x1 x2 x3 x4 x5 x6 x7 x8 y0 y1 y2 y3 y4
        have hla := lay v5 (.cells #[.int .i64 g5, .int .i64 h5, .slice ps5 s5.length cs5, .int .i64 tb5.start, .slice pt5 tb5.rows.length (d5 + tb5.rows.length)] 30)
        have HW := Lib.hid (heap_alloc_new v5 (.cells #[.int .i64 g5, .int .i64 h5, .slice ps5 s5.length cs5, .int .i64 tb5.start, .slice pt5 tb5.rows.length (d5 + tb5.rows.length)] 30))
        have HX6 := Lib.hid (HX5.out.below hla)
        have HI6 := Lib.hid (HI5.out.below hla)
        have HB6 := Lib.hid (HB5.out.trans (hla.mono HB5.out.size))
        obtain ⟨w0, w1, w2, w3, w4, -⟩ := box5f HW.out
        obtain ⟨x0, x1, x2, x3, x4, x5, x6, x7, x8, y0, y1, y2, y3, y4, -⟩ := HX6.out.cells
        have HLA := Lib.hid hla
        clear hla HX5 HI5 HB5
        generalize v5.alloc (.cells #[.int .i64 g5, .int .i64 h5, .slice ps5 s5.length cs5, .int .i64 tb5.start, .slice pt5 tb5.rows.length (d5 + tb5.rows.length)] 30) = v6 at *
        generalize hgu : v5.heap.size = gu at *
        have HVA := Lib.hid (fun now => HVL.out ⟨g5, h5, s5, tb5⟩ v6 ps5 cs5 pt5 (d5 + tb5.rows.length) now c.va hT HI6.out)
        have hTT := HG5.out
        clear HVL HVV HG5
        rcases hTT with rfl | ⟨rfl, hv | ⟨hv, rfl, rfl, hrw, hn5, hoff⟩⟩
        · go_wp2_with (first
            | (go_at_call 25; (with_reducible refine (HVA.out _).mono ?_); rintro x v7 ⟨rfl, hb⟩; have HB7 := Lib.hid (HB6.out.trans (hb.mono HB6.out.size)); clear hb)
            | (go_at_call 7; (with_reducible refine (HAA.out _).mono ?_); rintro x v8 ⟨rfl, hb⟩; have HB8 := Lib.hid (HB7.out.trans (hb.mono HB7.out.size)); clear hb))
          go_ret
          exact ⟨rfl, HB8.out⟩
        · go_wp2_with (first
            | (go_at_call 25; (with_reducible refine (HVA.out _).mono ?_); rw [hv]; rintro x v7 ⟨rfl, hb⟩; have HB7 := Lib.hid (HB6.out.trans (hb.mono HB6.out.size)); clear hb)
            | (go_at_call 7; (with_reducible refine (HAA.out _).mono ?_); rintro x v8 ⟨rfl, hb⟩; have HB8 := Lib.hid (HB7.out.trans (hb.mono HB7.out.size)); clear hb))
          go_ret
          exact ⟨rfl, HB8.out⟩
        · rw [← hgu] at HLA
          have N6 := Lib.hid (hn5.on HP.out.fr HLA.out)
          have L6 := Lib.hid (Lease.Own.on (rows_off L4.out hoff (by simp [Edge.mine])) HLA.out)
          have W6 := Lib.hid (Kit.Own.on (rows_off W4.out hoff (by simp [Edge.mine])) HLA.out)
          have R6 := Lib.hid (hrw.below HLA.out)
          clear hrw hn5 hoff L4 W4 HLA
          clear HB6 HX6 HI6 x0 x1 x2 x3 x4 x5 x6 x7 x8 y0 y1 y2 y3 y4 w0 w1 w2 w3 w4
          obtain ⟨w0, w1, w2, w3, w4, -⟩ := box5f HW.out
          obtain ⟨x0, x1, x2, x3, x4, x5, x6, x7, x8, y0, y1, y2, y3, y4, -⟩ := N6.out.boxes.cells
          go_upto_region 18 with (go_at_call 25; (with_reducible refine (HVA.out _).mono ?_); rw [hv]; rintro x v7 ⟨rfl, hb⟩; have N7 := Lib.hid (N6.out.on HP.out.fr hb); have L7 := Lib.hid (L6.out.on hb); have W7 := Lib.hid (W6.out.on hb); have R7 := Lib.hid (R6.out.below hb); have HW7 := Lib.hid ((hb.block _ (lt_of_heap HW.out)).trans HW.out); clear hb)
          clear N6 L6 W6 R6 HW w0 w1 w2 w3 w4 x0 x1 x2 x3 x4 x5 x6 x7 x8 y0 y1 y2 y3 y4 HVA hv
          obtain ⟨w0, w1, w2, w3, w4, -⟩ := box5f HW7.out
          obtain ⟨x0, x1, x2, x3, x4, x5, x6, x7, x8, y0, y1, y2, y3, y4, -⟩ := N7.out.boxes.cells
          have HTC := Lib.hid (HTB.out v7 _ _ (d5 + t.table.rows.length) (d + t.table.rows.length) R7.out (rowsin_rest N7.out.tok.rows))
          go_upto_region 19 with (go_at_call 26; (with_reducible refine HTC.out.mono ?_); rintro x v8 ⟨rfl, hb⟩; have N8 := Lib.hid (N7.out.on HP.out.fr hb); have L8 := Lib.hid (L7.out.on hb); have W8 := Lib.hid (W7.out.on hb); clear hb)
          clear N7 L7 W7 R7 HW7 w0 w1 w2 w3 w4 x0 x1 x2 x3 x4 x5 x6 x7 x8 y0 y1 y2 y3 y4 HTC HTB
          go_wp2_with (first
            | (go_at_call 22; (with_reducible refine (HLE.out _ N8.out).mono ?_); rintro x v9 ⟨p9, c9, rfl, hp, hb⟩; have P9 := Lib.hid hp; have N9 := Lib.hid (N8.out.on HP.out.fr hb); have L9 := Lib.hid (L8.out.on hb); have W9 := Lib.hid (W8.out.on hb); clear hp hb)
            | (go_at_call 21; (with_reducible refine (O1.out _ _ _ P9.out).mono ?_); rintro x va ⟨qa, da, rfl, ho, hb⟩; have La := Lib.hid ho; have Na := Lib.hid (N9.out.on HP.out.fr hb); have Lb := Lib.hid (L9.out.on hb); have Wa := Lib.hid (W9.out.on hb); clear ho hb)
            | (go_at_call 27; (with_reducible refine (S1.out _ _ _ _ _ (own_lies11 La.out) (own_lies11 Lb.out)).mono ?_); rintro x vb ⟨rfl, hb⟩; have Nb := Lib.hid (Na.out.on HP.out.fr hb); have Wb := Lib.hid (Wa.out.on hb); clear hb)
            | (go_at_call 24; (with_reducible refine (HWT.out _ Nb.out).mono ?_); rintro x vc ⟨pc, cc, rfl, hp, -, hb⟩; have Pc := Lib.hid hp; have Nc := Lib.hid (Nb.out.on HP.out.fr hb); have Wc := Lib.hid (Wb.out.on hb); clear hp hb)
            | (go_at_call 23; (with_reducible refine (O2.out _ _ _ Pc.out).mono ?_); rintro x vd ⟨qd, dd, rfl, ho, hb⟩; have Wd := Lib.hid ho; have Nd := Lib.hid (Nc.out.on HP.out.fr hb); have We := Lib.hid (Wc.out.on hb); clear ho hb)
            | (go_at_call 28; (with_reducible refine (S2.out _ _ _ _ _ (own_lies12 Wd.out) (own_lies12 We.out)).mono ?_); rintro x ve ⟨rfl, hb⟩; have Be := Lib.hid (Nd.out.below.trans (hb.mono Nd.out.below.size)); clear hb)
            | (go_at_call 7; (with_reducible refine (HAA.out _).mono ?_); rintro x vf ⟨rfl, hb⟩; have Bf := Lib.hid (Be.out.trans (hb.mono Be.out.size)); clear hb))
          go_ret
          exact ⟨rfl, Bf.out⟩
/-- Of any configuration, any token, and any acts. -/
theorem never_any {PW : PwR} (P : Way18 PW) (W : World) (c : Cf) (pf : Option Addr) (kf : Nat) (t : Tk) (ps : Option Addr) (cs : Nat) (pt : Option Addr) (d : Nat) (pa : Option Addr) (ka : Nat) (l : List Av) (ha : AvsAt W pa l) (hav : ∀ a ∈ l, AvNum a) (hs : (t.stamps.length : Int) ≤ 9223372036854775807) (hm : (t.table.rows.length : Int) ≤ 9223372036854775807) (hti : TokIn (fun g => g < W.heap.size) W t ps pt) (hr : RatesB W.heap.size W pf c.zs) (hc : CfNum c) :
    Calls Tryz.prog 5 #[c.val pf kf, tokVal t ps cs pt (d + t.table.rows.length), .slice pa l.length ka] W fun e w' => e = .returned (.bool true) ∧ Below W.heap.size W w' := by
  have hrw := rowsin_rest hti.rows
  have HF := fun u (hu : Below W.heap.size W u) => lfits_any t ps pt cs (d + t.table.rows.length) c pf kf pa l.length ka u hs hm (hrw.below hu).frame
  by_cases hk : c.check = 0
  · cases hf : fits18 t c l.length with
    | false =>
      rw [hf] at HF
      refine never_no P false 0 (.inl rfl) HF fun u hu => (P.new W.heap.size c pf kf u hu.size (hr.on hu) (by have := (check_len hk).2; omega) hc hk).mono ?_
      rintro x w' ⟨q, hx, -, hb⟩
      exact ⟨_, hx, hb⟩
    | true =>
      rw [hf] at HF
      obtain ⟨⟨f1, f2, f3⟩, f4, f5⟩ := fits_yes hf
      exact never_few P W c pf kf t ps cs pt d pa ka l f5 ha hav ⟨f1, f2, f3⟩ hti f4 hr hc hk (Edge.check_room hk) HF
  · refine never_no P (fits18 t c l.length) c.check ?_ HF fun u hu => (P.newno c pf kf u (rates_on hr hu.size hu) hc hk).mono ?_
    · cases fits18 t c l.length
      · exact .inl rfl
      · exact .inr ⟨rfl, hk⟩
    · rintro x w' ⟨hx, hb⟩
      exact ⟨_, hx, hb⟩
end Go.Proofs.YtbgdlokegibkmaaGreat.Visit
