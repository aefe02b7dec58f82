/-
  The program's edge in memory, in parts: its block, a wallet, a queue, estimates, each in blocks of its own; what a step of one of these leaves of the others. No conditions beyond those that each names.
  The calls of the program's wallet, queue and estimates, as parts of an edge.
  What the program's edge says: denied, granted, answered; conf.Rate of a configuration whose rates lie. No conditions beyond those that each names.
  What the program's edge asks ahead of an answer: mayBe, waits, objection. Of requests that are any ints.
  The program's serve and Grant, of any edge that is kept well.
  The program's Grant, Close, Drop, Expire, Waiting and Leases, of any edge that is kept well.
-/
import Derived.Deep.RegionHeld3
import Derived.Test.YtbgdlokegibkmaaGreatMmAf
import Derived.Test.YtbgdlokegibkmaaGreatMmAh
import Derived.Test.YtbgdlokegibkmaaGreatMmAj
import Derived.Test.YtbgdlokegibkmaaGreatMmAl
import Derived.Test.YtbgdlokegibkmaaGreatMmAe
namespace Go.Proofs.YtbgdlokegibkmaaGreat.Edge
open Go.RowKit
open _root_.Go.Proofs.YtbgdlokegibkmaaGreat.Codec (lt_of_heap frozen_of heap_set)
open _root_.Go.Proofs.YtbgdlokegibkmaaGreat.Kit (Enc Lies At Kept Laid Off cell_on lt_heap take_snoc below_drewN own_keep)
open _root_.Go.Proofs.YtbgdlokegibkmaaGreat.Lease (Lz)
open _root_.Go.Proofs.YtbgdlokegibkmaaGreat.Queue (It)
open _root_.Go.Proofs.YtbgdlokegibkmaaGreat.Demand (Nt)
/-- Blocks of a type stay. -/
def KeepC (T : TypeId) (w w' : World) : Prop := ∀ (g : Nat) (cs : Array Value) (z : Nat × Nat), w.heap[g]? = some (.cells cs T z) → w'.heap[g]? = some (.cells cs T z)
/-- The map that a cell holds. -/
def holds (w : World) (q b : Nat) : Prop := w.cell? ⟨q, 0, none⟩ = some (.map (some b))
theorem Mw_map {B : Nat} {w : World} {q b : Nat} {l : List Lz} (h : Lease.Pm B w q l) (hb : holds w q b) : ∃ es cl, w.heap[b]? = some (.map es cl) := by
  obtain ⟨m, hc, -, hm⟩ := h.cell
  unfold holds at hb
  rw [hc] at hb
  simp only [Option.some.injEq, Value.map.injEq] at hb
  subst hb
  exact hm.map_at
theorem Md_map {B : Nat} {w : World} {q b : Nat} {l : List Nt} (h : Demand.Pm B w q l) (hb : holds w q b) : ∃ es cl, w.heap[b]? = some (.map es cl) := by
  obtain ⟨m, hc, -, hm⟩ := h.cell
  unfold holds at hb
  rw [hc] at hb
  simp only [Option.some.injEq, Value.map.injEq] at hb
  subst hb
  exact hm.map_at
section
variable {R : Nat → Prop} {B q qw qq qd : Nat} {w w' : World} {y : Value} {c : Cf} {e : Eg} {L : List Lz} {Q : List It} {D : List Nt}
theorem keep_w (h : Lease.Pm B w qw L) {L' : List Lz} (t : LeaseF.Turns B w qw L' w') {T : TypeId} (hT : T ≠ 194) : KeepC T w w' := fun g cs z hg => by
  refine (t.rest g (lt_of_heap hg) ?_ ?_).trans hg
  · rintro rfl
    obtain ⟨_, m, h1, _⟩ := h
    rw [hg] at h1
    simp only [Option.some.injEq, Obj.cells.injEq] at h1
    exact hT h1.2.1
  · intro e
    obtain ⟨es, cl, h1⟩ := Mw_map h e
    rw [hg] at h1
    cases h1
theorem keep_d (h : Demand.Pm B w qd D) {D' : List Nt} (t : DemandF.Turns B w qd D' w') {T : TypeId} (hT : T ≠ 200) : KeepC T w w' := fun g cs z hg => by
  refine (t.rest g (lt_of_heap hg) ?_ ?_).trans hg
  · rintro rfl
    obtain ⟨_, m, h1, _⟩ := h
    rw [hg] at h1
    simp only [Option.some.injEq, Obj.cells.injEq] at h1
    exact hT h1.2.1
  · intro e
    obtain ⟨es, cl, h1⟩ := Md_map h e
    rw [hg] at h1
    cases h1
/-- No block of the queue's. -/
def notq (w : World) (g : Nat) : Prop := g < w.heap.size ∧ ∀ cs z, w.heap[g]? ≠ some (.cells cs 152 z) ∧ w.heap[g]? ≠ some (.cells cs 136 z)
theorem pq_notq {room : Int} {l : List It} (h : Queue.Pq R B w qq room l) : Queue.Pq (fun g => notq w g ∨ R g) B w qq room l := by
  obtain ⟨y, hy⟩ := h
  refine ⟨y, hy.ge, fun e => e.elim (fun e => (e.2 _ _).1 hy.blk) hy.nf, hy.blk, hy.own, fun g hg hn => ?_, fun g hg => hg.elim And.left (hy.fl g)⟩
  rcases hn with hn | hn
  rotate_left
  · exact hy.nfy g hg hn
  rcases hy.own.2 with ⟨rfl, -⟩ | ⟨g', cap, cur, rfl, -, h2, -⟩
  · simp [Value.ownBlock] at hg
  · simp only [Value.ownBlock, Option.some.injEq] at hg
    subst hg
    exact (hn.2 _ _).2 h2
theorem keep_q {room : Int} {l' : List It} (t : Queue.Moved Queue.Pq (fun g => notq w g ∨ R g) B w qq room l' w') {T : TypeId} (h1 : T ≠ 152) (h2 : T ≠ 136) : KeepC T w w' := fun g cs z hg => by
  refine (t.rest g (.inl ⟨lt_of_heap hg, fun cs' z' => ⟨fun e => ?_, fun e => ?_⟩⟩) (lt_of_heap hg)).trans hg
  · rw [hg] at e
    simp only [Option.some.injEq, Obj.cells.injEq] at e
    exact h1 e.2.1
  · rw [hg] at e
    simp only [Option.some.injEq, Obj.cells.injEq] at e
    exact h2 e.2.1
theorem keep_qm {room : Int} {l' : List It} (t : Queue.Moved Queue.Pq (fun g => notq w g ∨ R g) B w qq room l' w') {g : Nat} {es : _} {cl : _} (hg : w.heap[g]? = some (.map es cl)) : w'.heap[g]? = some (.map es cl) :=
  (t.rest g (.inl ⟨lt_of_heap hg, fun cs' z' => ⟨fun e => (by rw [hg] at e; cases e), fun e => (by rw [hg] at e; cases e)⟩⟩) (lt_of_heap hg)).trans hg
/-- A wallet stays where its blocks do. -/
theorem pw_stays (h : Lease.Pm B w qw L) (hc : KeepC 194 w w') (hm : ∀ b es cl, holds w qw b → w.heap[b]? = some (.map es cl) → w'.heap[b]? = some (.map es cl)) : Lease.Pm B w' qw L := by
  have hcell := h.cell
  obtain ⟨h0, m, h1, h2⟩ := h
  refine ⟨h0, m, hc _ _ _ h1, ?_⟩
  rcases h2 with h2 | ⟨b, D, rfl, hB, ⟨es, clock, hb, rest⟩, hi⟩
  · exact .inl h2
  · exact .inr ⟨b, D, rfl, hB, ⟨es, clock, hm b _ _ (by unfold holds; rw [cell_of_row w qw 0 _ _ (0, 0) h1]; rfl) hb, rest⟩, hi⟩
theorem pq_stays {room : Int} {l : List It} (h : Queue.Pq R B w qq room l) (hs : w.heap.size ≤ w'.heap.size) (h1 : KeepC 152 w w') (h2 : KeepC 136 w w') : Queue.Pq R B w' qq room l := by
  obtain ⟨y, hy⟩ := h
  refine ⟨y, hy.ge, hy.nf, h1 _ _ _ hy.blk, ⟨hy.own.1, ?_⟩, hy.nfy, fun g hg => Nat.lt_of_lt_of_le (hy.fl g hg) hs⟩
  rcases hy.own.2 with h0 | ⟨g', cap, cur, rfl, k1, k2, k3⟩
  · exact .inl h0
  · exact .inr ⟨g', cap, cur, rfl, k1, h2 _ _ _ k2, k3⟩
theorem pd_stays (h : Demand.Pm B w qd D) (hc : KeepC 200 w w') (hm : ∀ b es cl, holds w qd b → w.heap[b]? = some (.map es cl) → w'.heap[b]? = some (.map es cl)) : Demand.Pm B w' qd D := by
  obtain ⟨h0, m, h1, h2⟩ := h
  refine ⟨h0, m, hc _ _ _ h1, ?_⟩
  rcases h2 with h2 | ⟨b, D, rfl, hB, ⟨es, clock, hb, rest⟩, hi⟩
  · exact .inl h2
  · exact .inr ⟨b, D, rfl, hB, ⟨es, clock, hm b _ _ (by unfold holds; rw [cell_of_row w qd 0 _ _ (0, 0) h1]; rfl) hb, rest⟩, hi⟩
theorem rt_stays {zs : List (Int × Int)} (h : Kit.Own pair 77 B w y zs) (hc : KeepC 77 w w') : Kit.Own pair 77 B w' y zs := by
  refine ⟨h.1, ?_⟩
  rcases h.2 with h0 | ⟨g', cap, cur, rfl, k1, k2, k3⟩
  · exact .inl h0
  · exact .inr ⟨g', cap, cur, rfl, k1, hc _ _ _ k2, k3⟩
/-- The cells of the edge's block: its wallet, its configuration, with rates of its own (y), its queue, its estimates. -/
def ecells (qw : Nat) (c : Cf) (y : Value) (qq qd : Nat) : Array Value := #[.pointer (some ⟨qw, 0, none⟩), .int .i64 c.n, .int .i64 c.sk, .int .i64 c.tl, .int .i64 c.va, .int .i64 c.lo, .int .i64 c.he, .int .i64 c.ke, .int .i64 c.qu, y, .pointer (some ⟨qq, 0, none⟩), .pointer (some ⟨qd, 0, none⟩)]
theorem hasn_no_map {w : World} {g : Nat} {es : _} {cl : _} (h : HasN w g) (hg : w.heap[g]? = some (.map es cl)) : False := by
  obtain ⟨o, k, x, hc⟩ := h
  simp [World.cell?, hg] at hc
theorem hasn_no_one {w : World} {g : Nat} {m : Option Nat} {T : TypeId} (h : HasN w g) (hg : w.heap[g]? = some (.cells #[.map m] T (0, 0))) : False := by
  obtain ⟨o, k, x, hc⟩ := h
  rw [cell_of_row w g o _ _ (0, 0) hg] at hc
  match o, hc with
  | 0, hc => simp at hc
  | o + 1, hc => simp at hc
/-- The edge's parts, each in blocks of its own; R: blocks that are none of the queue's. -/
structure In (R : Nat → Prop) (B : Nat) (w : World) (q : Nat) (y : Value) (qw qq qd : Nat) (c : Cf) (e : Eg) : Prop where
  ge : B ≤ q
  blk : w.heap[q]? = some (.cells (ecells qw c y qq qd) 88 (0, 0))
  rt : Kit.Own pair 77 B w y c.zs
  wl : Lease.Pm B w qw e.L
  qu : Queue.Pq R B w qq c.qu e.Q
  dm : Demand.Pm B w qd e.D
  apart : ∀ b, holds w qw b → ¬ holds w qd b
theorem In.low (h : In R B w q y qw qq qd c e) (g : Nat) (hg : R g) : g < w.heap.size := by
  obtain ⟨y, hy⟩ := h.qu
  exact hy.fl g hg
theorem In.below (h : In R B w q y qw qq qd c e) (hb : Below w.heap.size w w') : In R B w' q y qw qq qd c e :=
  ⟨h.ge, (hb.block q (lt_of_heap h.blk)).trans h.blk, h.rt.on hb, h.wl.below hb, (by obtain ⟨y, hy⟩ := h.qu; exact ⟨y, hy.below hb⟩), h.dm.below hb, fun b h1 h2 => h.apart b (by unfold holds at h1 ⊢; rwa [hb.cell (p := ⟨qw, 0, none⟩) h.wl.lt] at h1) (by unfold holds at h2 ⊢; rwa [hb.cell (p := ⟨qd, 0, none⟩) h.dm.lt] at h2)⟩
theorem In.kept (h : In R B w q y qw qq qd c e) (hk : Kept [97, 60] w w') : In R B w' q y qw qq qd c e := by
  have k : ∀ {T : TypeId}, T ∉ [97, 60] → KeepC T w w' := fun hT g cs z hg => hk.block g _ _ _ hg hT
  have km : ∀ (b : Nat) es cl, w.heap[b]? = some (.map es cl) → w'.heap[b]? = some (.map es cl) := fun b es cl hb => hk.obj b _ hb (fun _ _ _ e => by cases e)
  have hcw : ∀ b, holds w' qw b → holds w qw b := fun b hb => by
    obtain ⟨_, m, h1, _⟩ := h.wl
    unfold holds at hb ⊢
    rwa [World.cell?_of_block (a := ⟨qw, 0, none⟩) ((k (by decide) _ _ _ h1).trans h1.symm)] at hb
  have hcd : ∀ b, holds w' qd b → holds w qd b := fun b hb => by
    obtain ⟨_, m, h1, _⟩ := h.dm
    unfold holds at hb ⊢
    rwa [World.cell?_of_block (a := ⟨qd, 0, none⟩) ((k (by decide) _ _ _ h1).trans h1.symm)] at hb
  exact ⟨h.ge, k (by decide) _ _ _ h.blk, rt_stays h.rt (k (by decide)), pw_stays h.wl (k (by decide)) (fun b es cl _ hb => km b es cl hb), pq_stays h.qu hk.size (k (by decide)) (k (by decide)), pd_stays h.dm (k (by decide)) (fun b es cl _ hb => km b es cl hb), fun b h1 h2 => h.apart b (hcw b h1) (hcd b h2)⟩
/-- Boxes of what is handed in. -/
abbrev theirs : List TypeId := [135, 42, 118, 45, 30, 24, 44]
/-- What a step of a part leaves. -/
structure Moves (R : Nat → Prop) (B : Nat) (w : World) (q : Nat) (y : Value) (qw qq qd : Nat) (c : Cf) (e' : Eg) (w' : World) : Prop where
  inn : In R B w' q y qw qq qd c e'
  off : Off mine w w'
  below : Below B w w'
  rest : ∀ g cs z, R g → w.heap[g]? = some (.cells cs 136 z) → w'.heap[g]? = some (.cells cs 136 z)
  off2 : Off theirs w w'
  keep : ∀ g, R g → HasN w g → g < w.heap.size → w'.heap[g]? = w.heap[g]?
theorem In.step_w (h : In R B w q y qw qq qd c e) (t : LeaseF.Turns B w qw L w') : Moves R B w q y qw qq qd c ⟨L, e.Q, e.D⟩ w' := by
  have k : ∀ {T : TypeId}, T ≠ 194 → KeepC T w w' := fun hT => keep_w h.wl t hT
  have hd : ∀ b, holds w' qd b → holds w qd b := fun b hb => by
    obtain ⟨_, m, h1, _⟩ := h.dm
    unfold holds at hb ⊢
    rwa [World.cell?_of_block (a := ⟨qd, 0, none⟩) ((k (by decide) _ _ _ h1).trans h1.symm)] at hb
  refine ⟨⟨h.ge, k (by decide) _ _ _ h.blk, rt_stays h.rt (k (by decide)), t.moved.pw, pq_stays h.qu t.moved.off.size (k (by decide)) (k (by decide)), pd_stays h.dm (k (by decide)) (fun b es cl hb hm => ?_), fun b h1 h2 => ?_⟩, ⟨t.moved.off.size, fun g cs T z hg ht => k (by rintro rfl; simp [mine] at ht) g cs z hg⟩, t.moved.below, fun g cs z _ hg => k (by decide) g cs z hg, ⟨t.moved.off.size, fun g cs T z hg ht => k (by rintro rfl; simp [theirs] at ht) g cs z hg⟩, fun g _ hn hl => t.rest g hl (by rintro rfl; obtain ⟨_, m, h1, _⟩ := h.wl; exact hasn_no_one hn h1) (fun e => by obtain ⟨es, cl, h1⟩ := Mw_map h.wl e; exact hasn_no_map hn h1)⟩
  · refine (t.rest b (lt_of_heap hm) ?_ ?_).trans hm
    · rintro rfl
      obtain ⟨_, m, h1, _⟩ := h.wl
      rw [hm] at h1
      cases h1
    · intro e
      exact h.apart b e hb
  · have h3 := hd b h2
    rcases t.fresh b h1 with h4 | h4
    · exact h.apart b h4 h3
    · obtain ⟨es, cl, h5⟩ := Md_map h.dm h3
      have := lt_of_heap h5
      omega
theorem In.step_d (h : In R B w q y qw qq qd c e) (t : DemandF.Turns B w qd D w') : Moves R B w q y qw qq qd c ⟨e.L, e.Q, D⟩ w' := by
  have k : ∀ {T : TypeId}, T ≠ 200 → KeepC T w w' := fun hT => keep_d h.dm t hT
  have hd : ∀ b, holds w' qw b → holds w qw b := fun b hb => by
    obtain ⟨_, m, h1, _⟩ := h.wl
    unfold holds at hb ⊢
    rwa [World.cell?_of_block (a := ⟨qw, 0, none⟩) ((k (by decide) _ _ _ h1).trans h1.symm)] at hb
  refine ⟨⟨h.ge, k (by decide) _ _ _ h.blk, rt_stays h.rt (k (by decide)), pw_stays h.wl (k (by decide)) (fun b es cl hb hm => ?_), pq_stays h.qu t.moved.off.size (k (by decide)) (k (by decide)), t.moved.pw, fun b h1 h2 => ?_⟩, ⟨t.moved.off.size, fun g cs T z hg ht => k (by rintro rfl; simp [mine] at ht) g cs z hg⟩, t.moved.below, fun g cs z _ hg => k (by decide) g cs z hg, ⟨t.moved.off.size, fun g cs T z hg ht => k (by rintro rfl; simp [theirs] at ht) g cs z hg⟩, fun g _ hn hl => t.rest g hl (by rintro rfl; obtain ⟨_, m, h1, _⟩ := h.dm; exact hasn_no_one hn h1) (fun e => by obtain ⟨es, cl, h1⟩ := Md_map h.dm e; exact hasn_no_map hn h1)⟩
  · refine (t.rest b (lt_of_heap hm) ?_ ?_).trans hm
    · rintro rfl
      obtain ⟨_, m, h1, _⟩ := h.dm
      rw [hm] at h1
      cases h1
    · intro e
      exact h.apart b hb e
  · have h3 := hd b h1
    rcases t.fresh b h2 with h4 | h4
    · exact h.apart b h3 h4
    · obtain ⟨es, cl, h5⟩ := Mw_map h.wl h3
      have := lt_of_heap h5
      omega
theorem In.step_q (h : In R B w q y qw qq qd c e) (t : Queue.Moved Queue.Pq (fun g => notq w g ∨ R g) B w qq c.qu Q w') : Moves R B w q y qw qq qd c ⟨e.L, Q, e.D⟩ w' := by
  have k : ∀ {T : TypeId}, T ≠ 152 → T ≠ 136 → KeepC T w w' := fun h1 h2 => keep_q t h1 h2
  have hcw : ∀ b, holds w' qw b → holds w qw b := fun b hb => by
    obtain ⟨_, m, h1, _⟩ := h.wl
    unfold holds at hb ⊢
    rwa [World.cell?_of_block (a := ⟨qw, 0, none⟩) ((k (by decide) (by decide) _ _ _ h1).trans h1.symm)] at hb
  have hcd : ∀ b, holds w' qd b → holds w qd b := fun b hb => by
    obtain ⟨_, m, h1, _⟩ := h.dm
    unfold holds at hb ⊢
    rwa [World.cell?_of_block (a := ⟨qd, 0, none⟩) ((k (by decide) (by decide) _ _ _ h1).trans h1.symm)] at hb
  have hs : w.heap.size ≤ w'.heap.size := t.off.size
  refine ⟨⟨h.ge, k (by decide) (by decide) _ _ _ h.blk, rt_stays h.rt (k (by decide) (by decide)), pw_stays h.wl (k (by decide) (by decide)) (fun b es cl _ hm => keep_qm t hm), ?_, pd_stays h.dm (k (by decide) (by decide)) (fun b es cl _ hm => keep_qm t hm), fun b h1 h2 => h.apart b (hcw b h1) (hcd b h2)⟩, ⟨hs, fun g cs T z hg ht => k (by rintro rfl; simp [mine] at ht) (by rintro rfl; simp [mine] at ht) g cs z hg⟩, t.below, fun g cs z hr hg => (t.rest g (.inr hr) (lt_of_heap hg)).trans hg, ⟨hs, fun g cs T z hg ht => k (by rintro rfl; simp [theirs] at ht) (by rintro rfl; simp [theirs] at ht) g cs z hg⟩, fun g hr _ hl => t.rest g (.inr hr) hl⟩
  obtain ⟨y, hy⟩ := t.pw
  exact ⟨y, hy.sub fun g hg => .inr hg⟩
theorem In.sub {F : Nat → Prop} (h : In R B w q y qw qq qd c e) (hF : ∀ g, F g → R g) : In F B w q y qw qq qd c e :=
  ⟨h.ge, h.blk, h.rt, h.wl, (by obtain ⟨y, hy⟩ := h.qu; exact ⟨y, hy.sub hF⟩), h.dm, h.apart⟩
/-- What is new is none of the queue's. -/
theorem In.grow (h : In R B w q y qw qq qd c e) (hb : Below w.heap.size w w') : In (fun g => R g ∨ w.heap.size ≤ g ∧ g < w'.heap.size) B w' q y qw qq qd c e := by
  have h' := h.below hb
  exact ⟨h'.ge, h'.blk, h'.rt, h'.wl, (by obtain ⟨y, hy⟩ := h.qu; exact ⟨y, hy.grow hb⟩), h'.dm, h'.apart⟩
end
end Go.Proofs.YtbgdlokegibkmaaGreat.Edge

namespace Go.Proofs.YtbgdlokegibkmaaGreat.Edge
open Go.RowKit
open _root_.Go.Proofs.YtbgdlokegibkmaaGreat.Codec (lt_of_heap frozen_of heap_set)
open _root_.Go.Proofs.YtbgdlokegibkmaaGreat.Kit (Enc Lies At Kept Laid Off cell_on lt_heap take_snoc below_drewN own_keep)
open _root_.Go.Proofs.YtbgdlokegibkmaaGreat.Lease (Lz Num)
open _root_.Go.Proofs.YtbgdlokegibkmaaGreat.Queue (It)
open _root_.Go.Proofs.YtbgdlokegibkmaaGreat.Demand (Nt)
section
variable {R : Nat → Prop} {B q qw qq qd : Nat} {w w' u : World} {y : Value} {c : Cf} {e e' e2 : Eg}
theorem Moves.trans (h : Moves R B w q y qw qq qd c e' w') (k : Moves R B w' q y qw qq qd c e2 u) : Moves R B w q y qw qq qd c e2 u := ⟨k.inn, h.off.trans k.off, h.below.trans k.below, fun g cs z hr hg => k.rest g cs z hr (h.rest g cs z hr hg), h.off2.trans k.off2, fun g hr hn hl => (k.keep g hr (hn.on (h.keep g hr hn hl)) (Nat.lt_of_lt_of_le hl h.off.size)).trans (h.keep g hr hn hl)⟩
theorem Moves.same (h : In R B w q y qw qq qd c e) (hB : B ≤ w.heap.size) (hb : Below w.heap.size w w') : Moves R B w q y qw qq qd c e w' := ⟨h.below hb, Off.of_below hb, hb.mono hB, fun g _ _ _ hg => (hb.block g (lt_of_heap hg)).trans hg, Off.of_below hb, fun g _ _ hl => hb.block g hl⟩
theorem Moves.on (h : Moves R B w q y qw qq qd c e' w') (hB : B ≤ w.heap.size) (hb : Below w'.heap.size w' u) : Moves R B w q y qw qq qd c e' u := h.trans (Moves.same h.inn (Nat.le_trans hB h.off.size) hb)
theorem eput (h : In R B w q y qw qq qd c e) (hB : B ≤ w.heap.size) (hg : Lease.Good e.L) (hl : e.L.length ≤ 100) (x : Lz) (hx : Lease.Nums x) :
    Calls Tryz.prog 204 #[.pointer (some ⟨qw, 0, none⟩), Lease.val x] w fun x' w' => x' = .returned (.int .i64 (Lease.put e.L x).2) ∧ Moves R B w q y qw qq qd c ⟨(Lease.put e.L x).1, e.Q, e.D⟩ w' :=
  (LeaseF.pput_any h.wl hB hg hl x hx.1).mono fun _ _ ⟨he, ht⟩ => ⟨he, h.step_w ht⟩
theorem espend (h : In R B w q y qw qq qd c e) (hB : B ≤ w.heap.size) (hg : Lease.Good e.L) (hl : e.L.length ≤ 150) {key cost now : Int} (hk : Num key) :
    Calls Tryz.prog 87 #[.pointer (some ⟨qw, 0, none⟩), .int .i64 key, .int .i64 cost, .int .i64 now] w fun x' w' => x' = .returned (.tuple #[.int .i64 (Lease.spend e.L key cost now).2.1, .bool (Lease.spend e.L key cost now).2.2]) ∧ Moves R B w q y qw qq qd c ⟨(Lease.spend e.L key cost now).1, e.Q, e.D⟩ w' :=
  (LeaseF.pspend_any h.wl hB hg hl hk).mono fun _ _ ⟨he, ht⟩ => ⟨he, h.step_w ht⟩
theorem eclose (h : In R B w q y qw qq qd c e) (hB : B ≤ w.heap.size) (hg : Lease.Good e.L) {key gen : Int} (hk : Num key) :
    Calls Tryz.prog 151 #[.pointer (some ⟨qw, 0, none⟩), .int .i64 key, .int .i64 gen] w fun x' w' => x' = .returned (.int .i64 (Lease.close e.L key gen).2) ∧ Moves R B w q y qw qq qd c ⟨(Lease.close e.L key gen).1, e.Q, e.D⟩ w' :=
  (LeaseF.pclose_any h.wl hB hg hk).mono fun _ _ ⟨he, ht⟩ => ⟨he, h.step_w ht⟩
theorem edrop (h : In R B w q y qw qq qd c e) (hB : B ≤ w.heap.size) (hl : e.L.length ≤ 100) (gen : Int) :
    Calls Tryz.prog 157 #[.pointer (some ⟨qw, 0, none⟩), .int .i64 gen] w fun x' w' => x' = .returned (.int .i64 (Lease.drop e.L gen).2) ∧ Moves R B w q y qw qq qd c ⟨(Lease.drop e.L gen).1, e.Q, e.D⟩ w' :=
  (LeaseF.pdrop_any h.wl hB hl gen).mono fun _ _ ⟨he, ht⟩ => ⟨he, h.step_w ht⟩
theorem enote (h : In R B w q y qw qq qd c e) (hB : B ≤ w.heap.size) (hl : e.D.length ≤ 800) {key spent : Int} (hk : Num key) :
    Calls Tryz.prog 152 #[.pointer (some ⟨qd, 0, none⟩), .int .i64 key, .int .i64 spent] w fun x' w' => x' = .returned (.int .i64 (Demand.of (e.D ++ [⟨key, spent⟩]) key)) ∧ Moves R B w q y qw qq qd c ⟨e.L, e.Q, e.D ++ [⟨key, spent⟩]⟩ w' :=
  (DemandF.pnote_any h.dm hB hl hk).mono fun _ _ ⟨he, ht⟩ => ⟨he, h.step_d ht⟩
theorem eputq (P : Queue.Way12 Queue.Pq) (h : In R B w q y qw qq qd c e) (hB : B ≤ w.heap.size) (hg : Queue.Good c.qu e.Q) (hl : e.Q.length ≤ 16) (x : It) (hx : Queue.Nums x) :
    Calls Tryz.prog 89 #[.pointer (some ⟨qq, 0, none⟩), Queue.val x] w fun x' w' => x' = .returned (.int .i64 (Queue.put c.qu e.Q x).2) ∧ Moves R B w q y qw qq qd c ⟨e.L, (Queue.put c.qu e.Q x).1, e.D⟩ w' :=
  (P.put (pq_notq h.qu) hB hg hl x hx).mono fun _ _ ⟨he, ht⟩ => ⟨he, h.step_q ht⟩
theorem etake (P : Queue.Way12 Queue.Pq) (h : In R B w q y qw qq qd c e) (hB : B ≤ w.heap.size) (hg : Queue.Good c.qu e.Q) (hl : e.Q.length ≤ 16) (id : Int) (hi : Queue.Num id) :
    Calls Tryz.prog 162 #[.pointer (some ⟨qq, 0, none⟩), .int .i64 id] w fun x' w' => x' = .returned (.tuple #[Queue.val (Queue.take e.Q id).2.1, .bool (Queue.take e.Q id).2.2]) ∧ Moves R B w q y qw qq qd c ⟨e.L, (Queue.take e.Q id).1, e.D⟩ w' :=
  (P.take (pq_notq h.qu) hB hg hl id hi).mono fun _ _ ⟨he, ht⟩ => ⟨he, h.step_q ht⟩
end
end Go.Proofs.YtbgdlokegibkmaaGreat.Edge

namespace Go.Proofs.YtbgdlokegibkmaaGreat.Edge
open Go.RowKit
open _root_.Go.Proofs.YtbgdlokegibkmaaGreat.Codec (lt_of_heap frozen_of heap_set)
open _root_.Go.Proofs.YtbgdlokegibkmaaGreat.Kit (Enc Lies At Kept Laid Off cell_on lt_heap take_snoc below_drewN own_keep box5)
open _root_.Go.Proofs.YtbgdlokegibkmaaGreat.Lease (Lz Num)
open _root_.Go.Proofs.YtbgdlokegibkmaaGreat.Queue (It)
open _root_.Go.Proofs.YtbgdlokegibkmaaGreat.Demand (Nt)
theorem says_own {w : World} {B : Nat} {v : Value} {l : List An} (h : Kit.Own ans 60 B w v l) : Says w v l := by
  obtain ⟨p, c, rfl, hl⟩ := h.lies
  refine ⟨p, c, rfl, hl, ?_, ?_⟩
  · rintro a rfl
    rcases h.2 with ⟨e, -⟩ | ⟨g, cap, cur, e, -, k, -⟩
    · simp at e
    · simp only [Value.slice.injEq, Option.some.injEq] at e
      obtain ⟨rfl, -, -⟩ := e
      exact ⟨_, _, k⟩
  · rintro rfl
    rcases h.2 with ⟨e, -⟩ | ⟨g, cap, cur, e, -⟩
    · simp only [Value.slice.injEq] at e
      exact e.2.2
    · simp at e
/-- One answer, just laid. -/
theorem says_one (w : World) (x : An) : Says (w.alloc (.cells (ans.cs x).toArray 60)) (.slice (some ⟨w.heap.size, 0, none⟩) 1 1) [x] :=
  ⟨_, 1, rfl, Kit.lies_one (E := ans) (x := x) (heap_alloc_new w _), fun a e => by cases e; exact ⟨_, _, heap_alloc_new w _⟩, fun e => by cases e⟩
set_option maxRecDepth 100000 in
set_option maxHeartbeats 1000000 in
theorem denied_any (r : Rq) (why : Int) (w : World) :
    Calls Tryz.prog 39 #[rval r, .int .i64 why] w fun e w' => ∃ v, e = .returned v ∧ Says w' v (no r.id why) ∧ Below w.heap.size w w' := by
  obtain ⟨ri, rk, rc, rs, rw'⟩ := r
  unfold rval
  have HB := Lib.hid (lay w (.cells #[.int .i64 ri, .int .i64 rk, .int .i64 rc, .int .i64 rs, .int .i64 rw'] 42))
  have HS := Lib.hid (fun (u : World) (g : Nat) (hg : g = u.heap.size) => show Says (u.alloc (.cells #[.int .i64 ri, .int .i64 0, .int .i64 why] 60)) (.slice (some ⟨g, 0, none⟩) 1 1) [⟨ri, 0, why⟩] from by rw [hg]; exact says_one u ⟨ri, 0, why⟩)
  have HL := Lib.hid (fun (u : World) (o : Obj) => lay u o)
  simp only
  go_enter Tryz.func39, Tryz.ntmps39
  go_wp2
  go_ret
  exact ⟨_, rfl, HS.out _ (w.heap.size + 1) (by simp), HB.out.trans ((HL.out _ _).mono HB.out.size)⟩
set_option maxRecDepth 100000 in
theorem granted_any (id gen : Int) (w : World) :
    Calls Tryz.prog 41 #[.int .i64 id, .int .i64 gen] w fun e w' => e = .returned (aval ⟨id, gen, 0⟩) ∧ Below w.heap.size w w' := by
  unfold aval
  simp only
  go_enter Tryz.func41, Tryz.ntmps41
  go_wp2
  refine bodyPost_ret (v := .agg #[.int .i64 id, .int .i64 gen, .int .i64 0]) (by simp [results, Tryz.results41, go_sem]) rfl ⟨rfl, lay _ _⟩
set_option maxRecDepth 100000 in
set_option maxHeartbeats 4000000 in
theorem answered_any {p : Option Addr} {d : Nat} {l : List It} {w : World} (h : Lies Queue.item w p l) (hl : l.length ≤ 1000) (why : Int) :
    Calls Tryz.prog 35 #[.slice p l.length d, .int .i64 why] w fun e w' => ∃ v, e = .returned v ∧ Says w' v (all l why) ∧ Below w.heap.size w w' := by
  have HL := Lib.hid h
  have HE := Lib.hid (show all l why = all (l.take l.length) why by rw [List.take_length])
  clear h
  go_enter Tryz.func35, Tryz.ntmps35
  go_wp2
  go_loopw [5, 10] (fun y i wr => ∃ (j : Nat) (q : Option Addr) (d : Nat), j ≤ l.length ∧ i = .int .i64 (j : Int) ∧ y = .slice q j d ∧ Hid (Kit.Own ans 60 w.heap.size wr y (all (l.take j) why)) ∧ Below w.heap.size w wr) (fun _ i _ => l.length - (intOf i).toNat)
  case atStart => exact ⟨0, none, 0, by omega, rfl, rfl, Lib.hid (Kit.Own.none _ _ _ _), Below.refl _ _⟩
  case round =>
    obtain ⟨j, q, d, hj, rfl, rfl, hown, hbw⟩ := hrel
    by_cases hlt : j < l.length
    · obtain ⟨b, o, rfl, ha⟩ := Queue.lies_at (HL.out.below hbw) hlt
      obtain ⟨k0, k1, k2, k3, k4⟩ := Queue.at5 ha
      have hlt' : (j : Int) < (l.length : Int) := by omega
      have HT := Lib.hid (all_at why hlt)
      have HN := Lib.hid (show (all (l.take j) why).length = j by rw [all_len, List.length_take]; omega)
      have HBW := Lib.hid hbw
      generalize all (l.take j) why = A0 at *
      generalize l.getD j Queue.z = x at *
      have HX := Lib.hid (fun (o' : Obj) => (lay wr (.cells #[.int .i64 x.id, .int .i64 x.key, .int .i64 x.cost, .int .i64 x.cls, .int .i64 x.til] 136)).alloc (lay wr (.cells #[.int .i64 x.id, .int .i64 x.key, .int .i64 x.cost, .int .i64 x.cls, .int .i64 x.til] 136)).size o')
      have HG := Lib.hid (fun (o o' : Obj) => show ((wr.alloc o).alloc o').heap[wr.heap.size + 1]? = some o' from by have := heap_alloc_new (wr.alloc o) o'; simpa using this)
      obtain ⟨xi, xk, xc, xs, xt⟩ := x
      simp only at k0 k1 k2 k3 k4 HT HX
      clear ha HL HE
      go_wp2_with (at_builtin; refine Kit.push laidA rfl _ _ rfl w wr (.slice q j d) rfl A0 j HN.out hown.out HBW.out (HX.out _) (wr.heap.size + 1) ⟨xi, 0, why⟩ rfl (HG.out _ _) (by omega) ?_; intro p6 c6 w6 R6 B6)
      go_roundw
      case rel => exact ⟨j + 1, p6, c6, by omega, by go_num, rfl, by rw [HT.out]; exact R6, B6⟩
      case measure => simp only [intOf]; omega
    · have hlt' : ¬ (j : Int) < (l.length : Int) := by omega
      obtain rfl : j = l.length := by omega
      have HS := Lib.hid (show Says wr (.slice q l.length d) (all l why) by rw [HE.out]; exact says_own hown.out)
      clear HE hown HL
      go_wp2
      go_ret
      exact ⟨_, rfl, HS.out, hbw⟩
/-- The program's rate of a key. -/
def ra (c : Cf) (key : Int) : Int := if 0 ≤ c.rate key then (c.zs.getD (c.rate key).toNat (0, 0)).1 else 0
def rb (c : Cf) (key : Int) : Int := if 0 ≤ c.rate key then c.b key else 0
theorem prate_any {c : Cf} {w : World} {p : Option Addr} (k : Nat) (h : Lies pair w p c.zs) (key : Int) :
    Calls Tryz.prog 83 #[c.val p k, .int .i64 key] w fun e w' => e = .returned (.tuple #[.agg #[.int .i64 (ra c key), .int .i64 (rb c key)], .bool (decide (0 ≤ c.rate key))]) ∧ Below w.heap.size w w' := by
  obtain ⟨n, sk, tl, va, lo, he, ke, qu, zs⟩ := c
  unfold ra rb Cf.b Cf.val Cf.rate
  simp only at *
  by_cases hk : 0 ≤ key ∧ key ≤ 524287 ∧ key / 65536 < zs.length
  · rw [if_pos hk]
    obtain ⟨j, hj⟩ : ∃ j : Nat, key / 65536 = (j : Int) := ⟨(key / 65536).toNat, by omega⟩
    rw [hj, if_pos (by omega), if_pos (by omega), decide_eq_true (by omega), Int.toNat_natCast]
    obtain ⟨b, o, rfl, ha⟩ := Kit.lies_at h (show j < zs.length by omega)
    exact Conf.rate_some n sk tl va lo he ke qu b o zs.length k j key _ _ w (Conf.within_yes hk.1 hk.2.1) hk.1 hk.2.1 hj (by omega) (ha 0 _ rfl) (ha 1 _ rfl)
  · rw [if_neg hk, if_neg (by decide), if_neg (by decide)]
    refine Conf.rate_none n sk tl va lo he ke qu p zs.length k key w ?_
    by_cases hk2 : 0 ≤ key ∧ key ≤ 524287
    · exact .inr ⟨Conf.within_yes hk2.1 hk2.2, hk2.1, hk2.2, by omega⟩
    · exact .inl (Conf.within_no hk2)
end Go.Proofs.YtbgdlokegibkmaaGreat.Edge

namespace Go.Proofs.YtbgdlokegibkmaaGreat.Edge
open Go.RowKit
open _root_.Go.Proofs.YtbgdlokegibkmaaGreat.Codec (lt_of_heap frozen_of heap_set)
open _root_.Go.Proofs.YtbgdlokegibkmaaGreat.Kit (Enc Lies At Kept Laid Off cell_on lt_heap take_snoc below_drewN own_keep box5)
open _root_.Go.Proofs.YtbgdlokegibkmaaGreat.Lease (Lz Num spend)
open _root_.Go.Proofs.YtbgdlokegibkmaaGreat.Queue (It Gives Ent fnv)
open _root_.Go.Proofs.YtbgdlokegibkmaaGreat.Demand (Nt)
/-- A request that may be, whoever waits. -/
def mb (r : Rq) : Prop := 1 ≤ r.cost ∧ 0 ≤ r.cls ∧ r.cls ≤ 2 ∧ 0 ≤ r.wait ∧ r.wait ≤ 1099511627776 ∧ right r.key
instance (r : Rq) : Decidable (mb r) := by unfold mb; infer_instance
theorem bad_iff (Q : List It) (r : Rq) : bad Q r ↔ ¬ mb r ∨ 0 ≤ Queue.place Q r.id := by
  unfold bad mb
  by_cases h : right r.key
  · simp only [h, not_true_eq_false, and_true, false_or]
    omega
  · simp only [h, not_false_eq_true, and_false, true_or]
    simp
theorem pright_any (key : Int) (w : World) : Calls Tryz.prog 134 #[.int .i64 key] w fun e' w' => e' = .returned (.bool (decide (right key))) ∧ w = w' := by
  have := Conf.right_any key w
  have e : Conf.within key 0 524287 = decide (right key) := by
    by_cases h : right key
    · rw [decide_eq_true h]; exact Conf.within_yes h.1 h.2
    · rw [decide_eq_false h]; exact Conf.within_no h
  rwa [e] at this
set_option maxRecDepth 100000 in
set_option maxHeartbeats 4000000 in
theorem mayBe_any (r : Rq) (w : World) :
    Calls Tryz.prog 84 #[rval r] w fun e w' => e = .returned (.bool (decide (mb r))) ∧ Below w.heap.size w w' := by
  have HR := Lib.hid (fun u => pright_any r.key u)
  have hcase : (¬ 1 ≤ r.cost ∧ decide (mb r) = false) ∨ 1 ≤ r.cost ∧ ((¬ 0 ≤ r.cls ∧ decide (mb r) = false) ∨ 0 ≤ r.cls ∧ ((¬ r.cls ≤ 2 ∧ decide (mb r) = false) ∨ r.cls ≤ 2 ∧ ((¬ 0 ≤ r.wait ∧ decide (mb r) = false) ∨ 0 ≤ r.wait ∧ ((¬ r.wait ≤ 1099511627776 ∧ decide (mb r) = false) ∨ r.wait ≤ 1099511627776 ∧ decide (mb r) = decide (right r.key))))) := by
    unfold mb
    by_cases h1 : 1 ≤ r.cost
    · by_cases h2 : 0 ≤ r.cls
      · by_cases h3 : r.cls ≤ 2
        · by_cases h4 : 0 ≤ r.wait
          · by_cases h5 : r.wait ≤ 1099511627776
            · simp [h1, h2, h3, h4, h5]
            · simp [h1, h2, h3, h4, h5]
          · simp [h1, h2, h3, h4]
        · simp [h1, h2, h3]
      · simp [h1, h2]
    · simp [h1]
  generalize decide (mb r) = R at *
  generalize decide (right r.key) = K at *
  obtain ⟨ri, rk, rc, rs, rw'⟩ := r
  unfold rval
  have HB := Lib.hid (lay w (.cells #[.int .i64 ri, .int .i64 rk, .int .i64 rc, .int .i64 rs, .int .i64 rw'] 42))
  simp only at *
  rcases hcase with ⟨h1, rfl⟩ | ⟨h1, ⟨h2, rfl⟩ | ⟨h2, ⟨h3, rfl⟩ | ⟨h3, ⟨h4, rfl⟩ | ⟨h4, ⟨h5, rfl⟩ | ⟨h5, rfl⟩⟩⟩⟩⟩
  all_goals
    go_enter Tryz.func84, Tryz.ntmps84
    go_wp2_with (go_at_call 134; (with_reducible refine (HR.out _).mono ?_); rintro e1 w1 ⟨rfl, rfl⟩)
    go_ret
    exact ⟨rfl, HB.out⟩
theorem ent_waits : Ent 136 := _root_.Go.Proofs.enters_of Tryz.func136 (by kernel_rfl) rfl
set_option maxRecDepth 100000 in
set_option maxHeartbeats 1000000 in
theorem gives_waits (c : Nat) (id : Int) : Gives c id 136 (Queue.isId id) := by
  intro u x hc
  have hl := World.block_lt_of_cell? _ _ hc
  obtain ⟨xi, xk, xc, xs, xt⟩ := x
  simp only [Queue.val, Queue.isId]
  go_enter Tryz.func136, Tryz.ntmps136
  go_wp2
  go_ret
  exact ⟨rfl, lay _ _⟩
section
variable {R : Nat → Prop} {B q qw qq qd : Nat} {w w' u : World} {y : Value} {c : Cf} {e e' e2 : Eg}
/-- The cells of the edge's block. -/
structure Sees12 (w : World) (q : Nat) (y : Value) (qw qq qd : Nat) (c : Cf) : Prop where
  k0 : w.cell? ⟨q, 0, none⟩ = some (.pointer (some ⟨qw, 0, none⟩))
  k1 : w.cell? ⟨q, 1, none⟩ = some (.int .i64 c.n)
  k2 : w.cell? ⟨q, 2, none⟩ = some (.int .i64 c.sk)
  k3 : w.cell? ⟨q, 3, none⟩ = some (.int .i64 c.tl)
  k4 : w.cell? ⟨q, 4, none⟩ = some (.int .i64 c.va)
  k5 : w.cell? ⟨q, 5, none⟩ = some (.int .i64 c.lo)
  k6 : w.cell? ⟨q, 6, none⟩ = some (.int .i64 c.he)
  k7 : w.cell? ⟨q, 7, none⟩ = some (.int .i64 c.ke)
  k8 : w.cell? ⟨q, 8, none⟩ = some (.int .i64 c.qu)
  k9 : w.cell? ⟨q, 9, none⟩ = some y
  k10 : w.cell? ⟨q, 10, none⟩ = some (.pointer (some ⟨qq, 0, none⟩))
  k11 : w.cell? ⟨q, 11, none⟩ = some (.pointer (some ⟨qd, 0, none⟩))
theorem In.sees (h : In R B w q y qw qq qd c e) : Sees12 w q y qw qq qd c := by
  have hc : ∀ i, w.cell? ⟨q, i, none⟩ = (ecells qw c y qq qd)[i]? := fun i => by rw [cell_of_row w q i _ _ (0, 0) h.blk]
  exact ⟨hc 0, hc 1, hc 2, hc 3, hc 4, hc 5, hc 6, hc 7, hc 8, hc 9, hc 10, hc 11⟩
theorem In.rates (h : In R B w q y qw qq qd c e) : ∃ p k, y = .slice p c.zs.length k ∧ Lies pair w p c.zs := h.rt.lies
set_option maxRecDepth 100000 in
set_option maxHeartbeats 2000000 in
theorem pwaits_any (h : In R B w q y qw qq qd c e) (hl : e.Q.length ≤ 16) (id : Int) :
    Calls Tryz.prog 85 #[.pointer (some ⟨q, 0, none⟩), .int .i64 id] w fun e' w' => e' = .returned (.bool (decide (0 ≤ Queue.place e.Q id))) ∧ Below w.heap.size w w' := by
  have hb := lay w (.cells #[.int .i64 id] 3)
  have k10 := (h.below hb).sees.k10
  have HA := Lib.hid (Queue.pall_any (h.below hb).qu hl)
  have hid : (w.alloc (.cells #[.int .i64 id] 3)).cell? ⟨w.heap.size, 0, none⟩ = some (.int .i64 id) := cell_of_row _ w.heap.size 0 _ _ (0, 0) (heap_alloc_new w (.cells #[.int .i64 id] 3))
  have HID := Lib.hid (fun (u : World) (hu : Below (w.alloc (.cells #[.int .i64 id] 3)).heap.size (w.alloc (.cells #[.int .i64 id] 3)) u) => cell_on hid hu)
  have HB := Lib.hid hb
  have HC := Lib.hid (fun (u : World) (p : Option Addr) (d : Nat) (hp : Lies Queue.item u p e.Q) (hc : u.cell? ⟨w.heap.size, 0, none⟩ = some (.int .i64 id)) => Queue.contains_any ent_waits (gives_waits w.heap.size id) (d := d) hp (by omega) hc)
  rw [show Queue.place e.Q id = Ledger.spot (Queue.isId id) e.Q from rfl]
  generalize Ledger.spot (Queue.isId id) e.Q = R at *
  clear h hb hid
  go_enter Tryz.func85, Tryz.ntmps85
  go_wp2_with (first
    | (go_at_call 36; (with_reducible refine HA.out.mono ?_); rintro e1 w1 ⟨y1, rfl, ho, hb⟩; obtain ⟨p1, d1, rfl, hl1⟩ := Kit.Own.lies ho; have HL1 := Lib.hid hl1; have HB1 := Lib.hid hb; clear ho hb hl1 HA)
    | (go_at_call 135; (with_reducible refine (HC.out _ _ _ HL1.out (HID.out _ HB1.out)).mono ?_); rintro e1 w2 ⟨rfl, hb⟩; have HB2 := Lib.hid (HB.out.trans ((HB1.out.trans (hb.mono HB1.out.size)).mono HB.out.size)); clear hb HC))
  go_ret
  exact ⟨rfl, HB2.out⟩
end
end Go.Proofs.YtbgdlokegibkmaaGreat.Edge

namespace Go.Proofs.YtbgdlokegibkmaaGreat.Edge
open Go.RowKit
open _root_.Go.Proofs.YtbgdlokegibkmaaGreat.Codec (lt_of_heap frozen_of heap_set)
open _root_.Go.Proofs.YtbgdlokegibkmaaGreat.Kit (Enc Lies At Kept Laid Off cell_on lt_heap take_snoc below_drewN own_keep box5)
open _root_.Go.Proofs.YtbgdlokegibkmaaGreat.Lease (Lz Num spend)
open _root_.Go.Proofs.YtbgdlokegibkmaaGreat.Queue (It take)
open _root_.Go.Proofs.YtbgdlokegibkmaaGreat.Demand (Nt)
/-- What is left of a key, when its first ones are served. -/
theorem served {c : Cf} (key now : Int) : ∀ (m t : List It) (e : Eg), Good c e → Queue.of e.Q key = m ++ t → (serves key now m e).2.length = m.length → Queue.of (serves key now m e).1.Q key = t
  | [], t, e, _, h, _ => by simpa [serves] using h
  | x :: m, t, e, hg, h, hl => by
    obtain ⟨-, -, h1, h2, -, -, -⟩ := Queue.turn_one hg.q (show Queue.of e.Q key = x :: (m ++ t) from h)
    simp only [serves] at hl ⊢
    split at hl
    · rename_i hs
      rw [if_pos hs]
      refine served key now m t _ (good_take (good_spend hg key x.cost now) x.id) ?_ (by simpa using hl)
      show Queue.of (take e.Q x.id).1 key = m ++ t
      rw [h1]
      exact h2
    · simp at hl
section
variable {R : Nat → Prop} {B q qw qq qd : Nat} {w w' u u' : World} {y : Value} {c : Cf} {e e' e2 : Eg}
/-- Rows of answers that are newer than the first world turn. -/
theorem Moves.push (m : Moves R B w q y qw qq qd c e' u) (hB : B ≤ w.heap.size) (k : Kept [60] u u') (b : Below w.heap.size u u') : Moves R B w q y qw qq qd c e' u' :=
  ⟨m.inn.kept ⟨k.size, fun g o e ht => k.obj g o e fun cs t z e2 h => ht cs t z e2 (by simp at h; simp [h])⟩,
    ⟨Nat.le_trans m.off.size k.size, fun g cs t z e ht => (b.block g (lt_of_heap e)).trans (m.off.block g cs t z e ht)⟩, m.below.trans (b.mono hB),
    fun g cs z hr hg => k.block g _ _ _ (m.rest g cs z hr hg) (by decide), ⟨Nat.le_trans m.off2.size k.size, fun g cs t z e ht => k.block g _ _ _ (m.off2.block g cs t z e ht) (by rintro h; simp only [List.mem_singleton] at h; subst h; simp [theirs] at ht)⟩, fun g hr hn hl => (b.block g hl).trans (m.keep g hr hn hl)⟩
def slen : Value → Nat
  | .slice _ n _ => n
  | _ => 0
/-- A box of an item's stays. -/
theorem Moves.box (m : Moves R B w q y qw qq qd c e' w') {g : Nat} (hr : R g) {x : It} (hg : w.heap[g]? = some (.cells #[.int .i64 x.id, .int .i64 x.key, .int .i64 x.cost, .int .i64 x.cls, .int .i64 x.til] 136 (0, 0))) :
    w'.heap[g]? = some (.cells #[.int .i64 x.id, .int .i64 x.key, .int .i64 x.cost, .int .i64 x.cls, .int .i64 x.til] 136 (0, 0)) := m.rest g _ _ hr hg
theorem Moves.sub {F : Nat → Prop} (h : Moves R B w q y qw qq qd c e' w') (hF : ∀ g, F g → R g) : Moves F B w q y qw qq qd c e' w' := ⟨h.inn.sub hF, h.off, h.below, fun g cs z hr hg => h.rest g cs z (hF g hr) hg, h.off2, fun g hr => h.keep g (hF g hr)⟩
/-- Behind a new box, which is none of the queue's. -/
theorem box_in (h : In R B w q y qw qq qd c e) (x : It) : In (fun k => k = w.heap.size ∨ R k) B (w.alloc (.cells #[.int .i64 x.id, .int .i64 x.key, .int .i64 x.cost, .int .i64 x.cls, .int .i64 x.til] 136)) q y qw qq qd c e :=
  (h.grow (lay w _)).sub fun g hg => hg.elim (fun e => .inr (by subst e; simp)) .inl
set_option maxRecDepth 100000 in
set_option maxHeartbeats 8000000 in
theorem pserve_any (P : Queue.Way12 Queue.Pq) (h : In R B w q y qw qq qd c e) (hB : B ≤ w.heap.size) (hg : Good c e) (hf : e.L.length ≤ 150 ∧ e.Q.length ≤ 16) {key now : Int} (hk : Num key) :
    Calls Tryz.prog 205 #[.pointer (some ⟨q, 0, none⟩), .int .i64 key, .int .i64 now] w fun e' w' => ∃ v, e' = .returned v ∧ Says w' v (serve e key now).2 ∧ Moves R B w q y qw qq qd c (serve e key now).1 w' := by
  have HBB := Lib.hid hB
  have HV := Lib.hid h
  have hlen := Queue.of_len e.Q key
  have hlq := hf.2
  have SV := Lib.hid (show serve e key now = serves key now (Queue.of e.Q key) e from rfl)
  have OF := Lib.hid (fun (j : Nat) (hj : (serves key now ((Queue.of e.Q key).take j) e).2.length = ((Queue.of e.Q key).take j).length) => served key now ((Queue.of e.Q key).take j) ((Queue.of e.Q key).drop j) e hg (List.take_append_drop j _).symm hj)
  have HQ0 := Lib.hid (fun x (hx : x ∈ Queue.of e.Q key) => (hg.q.each x (Queue.mem_of hx).1).2)
  generalize serve e key now = RV at *
  generalize Queue.of e.Q key = l at *
  have S0 := Lib.hid (show serves key now (l.take 0) e = (e, []) from rfl)
  have SS := Lib.hid (fun (j : Nat) (hj : j < l.length) => show serves key now (l.take (j + 1)) e = _ from by rw [take_snoc Queue.z hj, serves_snoc])
  have ST := Lib.hid (fun (j : Nat) (hj : j < l.length) (hs : (serves key now (l.take (j + 1)) e).2.length < (l.take (j + 1)).length) => show serves key now l e = serves key now (l.take (j + 1)) e from by
    have := serves_stop key now (l.take (j + 1)) (l.drop (j + 1)) e hs
    rwa [List.take_append_drop] at this)
  have SL := Lib.hid (show serves key now l e = serves key now (l.take l.length) e by rw [List.take_length])
  have SG := Lib.hid (fun j => good_serves key now (l.take j) hg)
  have SF := Lib.hid (fun j => len_serves key now (l.take j) e)
  have HD := Lib.hid (fun j (hj : j ≤ l.length) => Queue.head_drop l hj)
  have HF := Lib.hid hf
  have HQN := Lib.hid HQ0.out
  generalize hsv : (fun j => serves key now (l.take j) e) = SE
  have hsv' : ∀ j, serves key now (l.take j) e = SE j := fun j => by rw [← hsv]
  simp only [hsv'] at S0 SS ST SL SG SF OF
  clear h hg hf hB hsv hsv'
  go_enter Tryz.func205, Tryz.ntmps205
  go_wp2
  go_loopw [7] (fun o wr => ∃ (j : Nat) (p : Option Addr) (d : Nat), j ≤ l.length ∧ o = .slice p j d ∧ Hid (Kit.Own ans 60 w.heap.size wr o (SE j).2) ∧ Hid ((SE j).2.length = j) ∧ Hid (Moves R B w q y qw qq qd c (SE j).1 wr)) (fun o _ => l.length - slen o)
  case atStart => exact ⟨0, none, 0, by omega, rfl, by rw [S0.out]; exact Lib.hid (Kit.Own.none _ _ _ _), by rw [S0.out]; exact Lib.hid rfl, by rw [S0.out]; exact Lib.hid (Moves.same HV.out HBB.out (Below.refl _ _))⟩
  case round =>
    obtain ⟨j, p, d, hj, rfl, hown, hn, hst⟩ := hrel
    have hgd := SG.out j
    obtain ⟨f1, f2, f3⟩ := SF.out j
    have hfl : (SE j).1.L.length ≤ 150 := by have := HF.out.1; omega
    have hfq : (SE j).1.Q.length ≤ 16 := by have := HF.out.2; omega
    have k10 := hst.out.inn.sees.k10
    have hBwr := Lib.hid (Nat.le_trans HBB.out hst.out.off.size)
    have c1 := P.first hst.out.inn.qu hgd.q hfq key hk
    rw [OF.out j (by rw [hn.out, List.length_take]; omega), HD.out j hj] at c1
    have HI1 := Lib.hid (fun u (hu : Below wr.heap.size wr u) => hst.out.on HBB.out hu)
    have HIB := Lib.hid (fun u (x : It) (hu : Below wr.heap.size wr u) => box_in (hst.out.on HBB.out hu).inn x)
    have hgd' := Lib.hid hgd
    have hfl' := Lib.hid hfl
    have HTK := Lib.hid (fun v (g : Nat) (L : List Lz) (id : Int) (hi : Queue.Num id) (hv : In (fun k => k = g ∨ R k) B v q y qw qq qd c ⟨L, (SE j).1.Q, (SE j).1.D⟩) (hb : B ≤ v.heap.size) => etake P hv hb hgd.q hfq id hi)
    have HNM := Lib.hid (fun hjl : j < l.length => (HQN.out _ (List.getElem_mem hjl)).1)
    by_cases hlt : j < l.length
    · have HID := Lib.hid (show Queue.Num (l.getD j Queue.z).id by have := HNM.out hlt; simpa [List.getD, hlt] using this)
      have HSS := Lib.hid (SS.out j hlt)
      have HST := Lib.hid (ST.out j hlt)
      rw [if_pos (by rw [hn.out, List.length_take]; omega)] at HSS
      rw [decide_eq_true hlt] at c1
      have HLT := Lib.hid (show (l.take (j + 1)).length = j + 1 by simp; omega)
      clear SS ST SG SF hfq f1 f2 f3 HF S0 SL HD OF HNM HQN P
      generalize l.getD j Queue.z = x at *
      have HIBx := Lib.hid (fun u => HIB.out u x)
      have HBX := Lib.hid (fun u : World => heap_alloc_new u (.cells #[.int .i64 x.id, .int .i64 x.key, .int .i64 x.cost, .int .i64 x.cls, .int .i64 x.til] 136))
      have HMB := Lib.hid (fun u (e' : Eg) (w' : World) (m : Moves (fun k => k = u.heap.size ∨ R k) B (u.alloc (.cells #[.int .i64 x.id, .int .i64 x.key, .int .i64 x.cost, .int .i64 x.cls, .int .i64 x.til] 136)) q y qw qq qd c e' w') => box5 (m.box (x := x) (.inl rfl) (HBX.out u)))
      clear HIB
      obtain ⟨xi, xk, xc, xs, xt⟩ := x
      simp only [Queue.val] at *
      have hsn := fun h => spend_no (L := (SE j).1.L) (k := key) (x := xc) (now := now) h
      generalize hse : SE j = S at *
      obtain ⟨⟨L, Q, D⟩, told⟩ := S
      simp only at *
      generalize hsp : spend L key xc now = SP at *
      obtain ⟨L', gen, ok⟩ := SP
      simp only at *
      go_wp2_with (first
        | (go_at_call 86; (with_reducible refine c1.mono ?_); rintro e1 w1 ⟨rfl, hb⟩; have HB1 := Lib.hid hb; clear hb c1))
      have HI2 := Lib.hid (HIBx.out _ HB1.out)
      have HM2 := Lib.hid (HI1.out _ (HB1.out.trans ((lay w1 (.cells #[.int .i64 xi, .int .i64 xk, .int .i64 xc, .int .i64 xs, .int .i64 xt] 136)).mono HB1.out.size)))
      have HK2 := Lib.hid (HBX.out w1)
      have HZ2 := Lib.hid (Nat.le_trans hBwr.out (Nat.le_trans HB1.out.size (lay w1 (.cells #[.int .i64 xi, .int .i64 xk, .int .i64 xc, .int .i64 xs, .int .i64 xt] 136)).size))
      have HO2 := Lib.hid (hown.out.on (HB1.out.trans ((lay w1 (.cells #[.int .i64 xi, .int .i64 xk, .int .i64 xc, .int .i64 xs, .int .i64 xt] 136)).mono HB1.out.size)))
      clear HB1 HIBx HBX HMB HI1 k10 hst hown
      generalize w1.heap.size = g at *
      generalize w1.alloc (.cells #[.int .i64 xi, .int .i64 xk, .int .i64 xc, .int .i64 xs, .int .i64 xt] 136) = w2 at *
      have HI2D := Lib.hid (HI2.out.below (Below.refl _ w2).drew)
      have HSP2 := espend HI2D.out (Nat.le_trans HZ2.out (Below.refl w2.heap.size w2).drew.size) hgd'.out.l hfl'.out (cost := xc) (now := now) hk
      have hM2D := Lib.hid (HM2.out.on HBB.out (Below.refl _ w2).drew)
      have hO2D := Lib.hid (HO2.out.on (Below.refl _ w2).drew)
      have s0 := HI2.out.sees.k0
      have s2 := (box5 HK2.out).2.2.1
      simp only [hsp] at HSP2
      have HTKx := Lib.hid (fun v (L : List Lz) hv hb => HTK.out v g L xi HID.out hv hb)
      clear HTK
      cases ok
      · have HR := Lib.hid (show RV = (⟨L, Q, D⟩, told) by
          have e1 := HSS.out
          rw [if_neg (by simp)] at e1
          rw [SV.out, HST.out (by rw [e1, HLT.out]; simp only; have := hn.out; omega), e1])
        obtain rfl := hsn rfl
        clear HSS HST SV hsn hse HTKx
        go_wp2
        go_region_held3 (fun u => u.cell? ⟨q, 0, none⟩ = some (.pointer (some ⟨qw, 0, none⟩)) ∧ u.cell? ⟨g, 2, none⟩ = some (.int .i64 xc)) (first | assumption | exact ⟨s0, s2⟩) (first
          | (go_at_call 87; (with_reducible refine HSP2.mono ?_); rintro e1 w3 ⟨rfl, h3⟩; have H3 := Lib.hid h3; have y3 : _ ∧ _ := ⟨h3.inn.sees.k0, (box5 (h3.box (x := ⟨xi, xk, xc, xs, xt⟩) (.inl rfl) HK2.out)).2.2.1⟩; clear h3 HSP2))
        go_wp2
        refine bodyPost_ret (v := .slice p j d) (by simp [results, Tryz.results205, go_sem]) rfl ?_
        refine ⟨_, rfl, ?_, ?_⟩
        · rw [HR.out]
          have := says_own (Kit.Own.off hO2D.out H3.out.off (by simp [mine]))
          exact this
        · rw [HR.out]
          exact hM2D.out.trans (H3.out.sub fun _ h => .inr h)
      · have HE := Lib.hid (show SE (j + 1) = (⟨L', (take Q xi).1, D⟩, told ++ [⟨xi, gen, 0⟩]) by have e1 := HSS.out; rwa [if_pos (by simp)] at e1)
        clear HSS HST SV hsn hse HLT
        go_wp2
        go_region_held3 (fun u => u.cell? ⟨q, 0, none⟩ = some (.pointer (some ⟨qw, 0, none⟩)) ∧ u.cell? ⟨g, 2, none⟩ = some (.int .i64 xc)) (first | assumption | exact ⟨s0, s2⟩) (first
          | (go_at_call 87; (with_reducible refine HSP2.mono ?_); rintro e1 w3 ⟨rfl, h3⟩; have H3 := Lib.hid h3; have y3 : _ ∧ _ := ⟨h3.inn.sees.k0, (box5 (h3.box (x := ⟨xi, xk, xc, xs, xt⟩) (.inl rfl) HK2.out)).2.2.1⟩; clear h3 HSP2))
        clear y3 s0 s2
        have HK3 := Lib.hid (H3.out.box (x := ⟨xi, xk, xc, xs, xt⟩) (.inl rfl) HK2.out)
        have s10 := H3.out.inn.sees.k10
        have s1 := (box5 HK3.out).1
        have hB3 := Lib.hid (Nat.le_trans HZ2.out (Nat.le_trans (Below.refl w2.heap.size w2).drew.size H3.out.off.size))
        have HI3D := Lib.hid (H3.out.inn.below (Below.refl _ w3).drew)
        have c3 := HTKx.out _ L' HI3D.out (Nat.le_trans hB3.out (Below.refl w3.heap.size w3).drew.size)
        have hM3D := Lib.hid ((hM2D.out.trans (H3.out.sub fun _ h => .inr h)).on HBB.out (Below.refl _ w3).drew)
        have hO3D := Lib.hid ((Kit.Own.off hO2D.out H3.out.off (by simp [mine])).on (Below.refl _ w3).drew)
        clear HTKx HI2D HI2 HM2 HO2 hM2D hO2D
        go_wp2
        go_region_held3 (fun u => u.cell? ⟨q, 10, none⟩ = some (.pointer (some ⟨qq, 0, none⟩)) ∧ u.cell? ⟨g, 0, none⟩ = some (.int .i64 xi)) (first | assumption | exact ⟨s10, s1⟩) (first
          | (go_at_call 162; (with_reducible refine c3.mono ?_); rintro e1 w4 ⟨rfl, h4⟩; have H4 := Lib.hid h4; have y4 : _ ∧ _ := ⟨h4.inn.sees.k10, (box5 (h4.box (x := ⟨xi, xk, xc, xs, xt⟩) (.inl rfl) HK3.out)).1⟩; clear h4 c3))
        clear s10 s1
        obtain ⟨-, s1⟩ := y4
        have hM4 := Lib.hid (hM3D.out.trans (H4.out.sub fun _ h => .inr h))
        have hO4 := Lib.hid (Kit.Own.off hO3D.out H4.out.off (by simp [mine]))
        clear HI3D hM3D hO3D H3 H4 HK3 HK2
        have c5 := granted_any xi gen w4
        simp only [aval] at c5
        go_wp2_with (first
          | (go_at_call 41; (with_reducible refine c5.mono ?_); rintro e1 w5 ⟨rfl, hb⟩; have hM5 := Lib.hid (hM4.out.on HBB.out hb); have hO5 := Lib.hid (hO4.out.on hb); clear hb c5)
          | (at_builtin; refine push_at laidA rfl _ _ rfl w.heap.size w5 (.slice p j d) rfl told j hn.out hO5.out hM5.out.off.size (lay _ _) w5.heap.size ⟨xi, gen, 0⟩ rfl (heap_alloc_new _ _) (by omega) ?_; intro p6 c6 w6 R6 K6 B6))
        go_roundw
        case rel => exact ⟨j + 1, p6, c6, by omega, rfl, by rw [HE.out]; exact R6, by rw [HE.out]; exact Lib.hid (by simp [hn.out]), by rw [HE.out]; exact Lib.hid ((hM5.out.on HBB.out (lay w5 _)).push HBB.out K6 B6)⟩
        case measure => simp only [slen]; omega
    · obtain rfl : j = l.length := by omega
      have HR := Lib.hid (show RV = SE l.length by rw [SV.out, SL.out])
      rw [decide_eq_false hlt] at c1
      have HT := Lib.hid (says_own hown.out)
      clear SS ST SG SF hfl hfq f1 f2 f3 hgd HF S0 SL HD OF HNM HQN HTK HIB hgd' hfl' P
      generalize l.getD l.length Queue.z = x at *
      obtain ⟨xi, xk, xc, xs, xt⟩ := x
      simp only [Queue.val] at *
      go_wp2_with (first
        | (go_at_call 86; (with_reducible refine c1.mono ?_); rintro e1 w1 ⟨rfl, hb⟩; have HB1 := Lib.hid hb; clear hb c1))
      refine bodyPost_ret (v := .slice p l.length d) (by simp [results, Tryz.results205, go_sem]) rfl ?_
      have hbx := HB1.out.trans ((lay w1 (.cells #[.int .i64 xi, .int .i64 xk, .int .i64 xc, .int .i64 xs, .int .i64 xt] 136)).mono HB1.out.size)
      exact ⟨_, rfl, by rw [HR.out]; exact HT.out.below hbx, by rw [HR.out]; exact hst.out.on HBB.out hbx⟩
end
end Go.Proofs.YtbgdlokegibkmaaGreat.Edge

namespace Go.Proofs.YtbgdlokegibkmaaGreat.Edge
open Go.RowKit
open _root_.Go.Proofs.YtbgdlokegibkmaaGreat.Codec (lt_of_heap frozen_of heap_set)
open _root_.Go.Proofs.YtbgdlokegibkmaaGreat.Kit (Enc Lies At Kept Laid Off cell_on lt_heap take_snoc below_drewN own_keep box5)
open _root_.Go.Proofs.YtbgdlokegibkmaaGreat.Lease (Lz Num spend)
open _root_.Go.Proofs.YtbgdlokegibkmaaGreat.Queue (It take)
open _root_.Go.Proofs.YtbgdlokegibkmaaGreat.Demand (Nt)
section
variable {R : Nat → Prop} {B q qw qq qd : Nat} {w w' u u' : World} {y : Value} {c : Cf} {e e' e2 : Eg}
set_option maxRecDepth 100000 in
set_option maxHeartbeats 4000000 in
theorem pgrant_any (P : Queue.Way12 Queue.Pq) (h : In R B w q y qw qq qd c e) (hB : B ≤ w.heap.size) (hg : Good c e) (hf : Lens e) (x : Lz) (hx : Lease.Nums x) (now : Int) :
    Calls Tryz.prog 164 #[.pointer (some ⟨q, 0, none⟩), Lease.val x, .int .i64 now] w fun e' w' => ∃ v, e' = .returned v ∧ Says w' v (grant e x now).2 ∧ Moves R B w q y qw qq qd c (grant e x now).1 w' := by
  have hbx := lay w (.cells #[.int .i64 x.key, .int .i64 x.gen, .int .i64 x.amount, .int .i64 x.spent, .int .i64 x.til] 135)
  have HM1 := Lib.hid (Moves.same h hB hbx)
  have HM1D := Lib.hid (Moves.same h hB (hbx.trans ((Below.refl _ _).drew.mono hbx.size)))
  have s0 := HM1.out.inn.sees.k0
  have c1 := eput HM1D.out.inn (Nat.le_trans hB hbx.size) hg.l hf.1 x hx
  have c2 := fun u (hs : In R B u q y qw qq qd c ⟨(Lease.put e.L x).1, e.Q, e.D⟩) (hb : B ≤ u.heap.size) => pserve_any P hs hb (good_put hg hx) ⟨by have := Lease.len_put e.L x; have := hf.1; simp only; omega, hf.2.1⟩ (now := now) hx.1
  have hG : grant e x now = if (Lease.put e.L x).2 = 0 then serve ⟨(Lease.put e.L x).1, e.Q, e.D⟩ x.key now else (e, []) := rfl
  have hno : (Lease.put e.L x).2 ≠ 0 → (Lease.put e.L x).1 = e.L := by
    unfold Lease.put
    split
    · intro _; rfl
    · split
      · intro _; rfl
      · intro h0; exact absurd rfl h0
  have HB := Lib.hid (Nat.le_trans hB hbx.size)
  have HK := Lib.hid (heap_alloc_new w (.cells #[.int .i64 x.key, .int .i64 x.gen, .int .i64 x.amount, .int .i64 x.spent, .int .i64 x.til] 135))
  have HBW := Lib.hid hB
  generalize grant e x now = RV at *
  generalize Lease.put e.L x = PU at *
  obtain ⟨L', f⟩ := PU
  obtain ⟨xk, xg, xa, xs, xt⟩ := x
  simp only [Lease.val] at *
  obtain ⟨b0, b1, b2, b3, b4⟩ := box5 HK.out
  clear h hg hf hx P hbx HM1
  by_cases hf : f = 0
  · subst hf
    rw [if_pos rfl] at hG
    subst hG
    clear hno
    go_enter Tryz.func164, Tryz.ntmps164
    go_wp2
    generalize w.alloc (.cells #[.int .i64 xk, .int .i64 xg, .int .i64 xa, .int .i64 xs, .int .i64 xt] 135) = w0 at *
    generalize w.heap.size = g at *
    go_region_held3 (fun u => u.cell? ⟨q, 0, none⟩ = some (.pointer (some ⟨qw, 0, none⟩)) ∧ u.cell? ⟨g, 0, none⟩ = some (.int .i64 xk) ∧ u.cell? ⟨g, 1, none⟩ = some (.int .i64 xg) ∧ u.cell? ⟨g, 2, none⟩ = some (.int .i64 xa) ∧ u.cell? ⟨g, 3, none⟩ = some (.int .i64 xs) ∧ u.cell? ⟨g, 4, none⟩ = some (.int .i64 xt)) (first | assumption | exact ⟨s0, b0, b1, b2, b3, b4⟩) (first
      | (go_at_call 204; (with_reducible refine c1.mono ?_); rintro e1 w1 ⟨rfl, h1⟩; have H1 := Lib.hid h1; have y1 : _ ∧ _ := ⟨h1.inn.sees.k0, box5 (h1.off2.block g _ _ _ HK.out (by simp [theirs]))⟩; clear h1 c1))
    clear s0 b0 b1 b2 b3 b4
    obtain ⟨-, b0, -⟩ := y1
    have hb1 := Lib.hid (Nat.le_trans HB.out (Nat.le_trans (Below.refl w0.heap.size w0).drew.size H1.out.off.size))
    go_wp2_with (go_at_call 205; (with_reducible refine (c2 _ H1.out.inn hb1.out).mono ?_); rintro e1 w2 ⟨v, rfl, ht, h2⟩; have H2 := Lib.hid h2; have HT := Lib.hid ht; clear h2 ht c2)
    go_ret
    exact ⟨v, rfl, HT.out, HM1D.out.trans (H1.out.trans H2.out)⟩
  · rw [if_neg hf] at hG
    subst hG
    obtain rfl := hno hf
    have hf2 : (f != 0) = true := by simp [hf]
    clear hno c2
    go_enter Tryz.func164, Tryz.ntmps164
    go_wp2
    generalize w.alloc (.cells #[.int .i64 xk, .int .i64 xg, .int .i64 xa, .int .i64 xs, .int .i64 xt] 135) = w0 at *
    generalize w.heap.size = g at *
    go_region_held3 (fun u => u.cell? ⟨q, 0, none⟩ = some (.pointer (some ⟨qw, 0, none⟩)) ∧ u.cell? ⟨g, 0, none⟩ = some (.int .i64 xk) ∧ u.cell? ⟨g, 1, none⟩ = some (.int .i64 xg) ∧ u.cell? ⟨g, 2, none⟩ = some (.int .i64 xa) ∧ u.cell? ⟨g, 3, none⟩ = some (.int .i64 xs) ∧ u.cell? ⟨g, 4, none⟩ = some (.int .i64 xt)) (first | assumption | exact ⟨s0, b0, b1, b2, b3, b4⟩) (first
      | (go_at_call 204; (with_reducible refine c1.mono ?_); rintro e1 w1 ⟨rfl, h1⟩; have H1 := Lib.hid h1; have y1 : _ ∧ _ := ⟨h1.inn.sees.k0, box5 (h1.off2.block g _ _ _ HK.out (by simp [theirs]))⟩; clear h1 c1))
    clear s0 b0 b1 b2 b3 b4
    go_wp2
    go_ret
    exact ⟨_, rfl, says_none _, HM1D.out.trans H1.out⟩
set_option maxRecDepth 100000 in
set_option maxHeartbeats 4000000 in
theorem pclose_any (h : In R B w q y qw qq qd c e) (hB : B ≤ w.heap.size) (hg : Good c e) (hf : Lens e) {key gen : Int} (hk : Num key) :
    Calls Tryz.prog 104 #[.pointer (some ⟨q, 0, none⟩), .int .i64 key, .int .i64 gen] w fun e' w' => e' = .returned (.int .i64 (close e key gen).2) ∧ Moves R B w q y qw qq qd c (close e key gen).1 w' := by
  have c1 := eclose h hB hg.l (gen := gen) hk
  have c2 := fun u (hs : In R B u q y qw qq qd c ⟨(Lease.close e.L key gen).1, e.Q, e.D⟩) (hb : B ≤ u.heap.size) => enote hs hb (by have := hf.2.2; simp only; omega) (spent := (Lease.close e.L key gen).2) hk
  have hG : close e key gen = (⟨(Lease.close e.L key gen).1, e.Q, if 0 ≤ (Lease.close e.L key gen).2 then e.D ++ [⟨key, (Lease.close e.L key gen).2⟩] else e.D⟩, (Lease.close e.L key gen).2) := rfl
  have HB := Lib.hid hB
  have s0 := h.sees.k0
  generalize close e key gen = RR at *
  generalize Lease.close e.L key gen = P at *
  obtain ⟨L', n⟩ := P
  simp only at *
  clear h hf hg
  by_cases hn : 0 ≤ n
  · rw [if_pos hn] at hG
    subst hG
    generalize Demand.of (e.D ++ [⟨key, n⟩]) key = dv at *
    go_enter Tryz.func104, Tryz.ntmps104
    go_wp2_with (first
      | (go_at_call 151; (with_reducible refine c1.mono ?_); rintro e1 w1 ⟨rfl, h1⟩; have H1 := Lib.hid h1; have s11 := h1.inn.sees.k11; clear h1 c1)
      | (go_at_call 152; (with_reducible refine (c2 _ H1.out.inn (Nat.le_trans HB.out H1.out.off.size)).mono ?_); rintro e1 w2 ⟨rfl, h2⟩; have H2 := Lib.hid h2; clear h2 c2))
    go_ret
    exact ⟨rfl, H1.out.trans H2.out⟩
  · rw [if_neg hn] at hG
    subst hG
    clear c2
    go_enter Tryz.func104, Tryz.ntmps104
    go_wp2_with (go_at_call 151; (with_reducible refine c1.mono ?_); rintro e1 w1 ⟨rfl, h1⟩; have H1 := Lib.hid h1; clear h1 c1)
    go_ret
    exact ⟨rfl, H1.out⟩
set_option maxRecDepth 100000 in
set_option maxHeartbeats 1000000 in
theorem pdrop_any (h : In R B w q y qw qq qd c e) (hB : B ≤ w.heap.size) (hf : Lens e) (gen : Int) :
    Calls Tryz.prog 106 #[.pointer (some ⟨q, 0, none⟩), .int .i64 gen] w fun e' w' => e' = .returned (.tuple #[]) ∧ Moves R B w q y qw qq qd c (drop e gen) w' := by
  have c1 := edrop h hB hf.1 gen
  have s0 := h.sees.k0
  rw [show drop e gen = ⟨(Lease.drop e.L gen).1, e.Q, e.D⟩ from rfl]
  generalize Lease.drop e.L gen = P at *
  obtain ⟨L', n⟩ := P
  simp only at *
  clear h
  go_enter Tryz.func106, Tryz.ntmps106
  go_wp2_with (go_at_call 157; (with_reducible refine c1.mono ?_); rintro e1 w1 ⟨rfl, h1⟩; have H1 := Lib.hid h1; clear h1 c1)
  go_end0
  exact ⟨rfl, H1.out⟩
set_option maxRecDepth 100000 in
set_option maxHeartbeats 1000000 in
theorem pwaiting_any (h : In R B w q y qw qq qd c e) (hf : Lens e) :
    Calls Tryz.prog 24 #[.pointer (some ⟨q, 0, none⟩)] w fun x w' => ∃ p k, x = .returned (.slice p e.Q.length k) ∧ Lies Queue.item w' p e.Q ∧ Typed w' p 136 ∧ Below w.heap.size w w' := by
  have c1 := Queue.pall_any h.qu hf.2.1
  have s10 := h.sees.k10
  clear h hf
  go_enter Tryz.func24, Tryz.ntmps24
  go_wp2_with (go_at_call 36; (with_reducible refine c1.mono ?_); rintro e1 w1 ⟨v, rfl, ho, hb⟩; have HO := Lib.hid ho; have HB1 := Lib.hid hb; clear ho hb c1)
  go_ret
  obtain ⟨p, k, rfl, hl⟩ := HO.out.lies
  refine ⟨p, k, rfl, hl, ?_, HB1.out⟩
  rintro a rfl
  rcases HO.out.2 with ⟨e, -⟩ | ⟨g, cap, cur, e, -, k, -⟩
  · simp at e
  · simp only [Value.slice.injEq, Option.some.injEq] at e
    obtain ⟨rfl, -, -⟩ := e
    exact ⟨_, _, k⟩
end
end Go.Proofs.YtbgdlokegibkmaaGreat.Edge
