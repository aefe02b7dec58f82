/-
  The program's objection, spendAtOnce, wait and Ask, of any edge that is kept well.
  The program's spendAtOnce, wait and Ask, of any edge that is kept well.
  The program's Ask, of any edge that is kept well.
-/
import Derived.Deep.DeepCutAuto
import Derived.Test.YtlbpeeelgpjciaaGreatMgAw
import Derived.Test.YtlbpeeelgpjciaaGreatMgAs
namespace Go.Proofs.YtlbpeeelgpjciaaGreat.Edge
open Go.RowKit
open _root_.Go.Proofs.YtlbpeeelgpjciaaGreat.Codec (lt_of_heap frozen_of heap_set below_new)
open _root_.Go.Proofs.YtlbpeeelgpjciaaGreat.Kit (Enc Lies At Kept Laid Off cell_on lt_heap take_snoc below_drewN own_keep box5)
open _root_.Go.Proofs.YtlbpeeelgpjciaaGreat.Lease (Lz Num spend)
open _root_.Go.Proofs.YtlbpeeelgpjciaaGreat.Queue (It take)
open _root_.Go.Proofs.YtlbpeeelgpjciaaGreat.Demand (Nt)

/-- Why a request is denied, whatever there is to spend. -/
def obj (c : Cf) (e : Eg) (r : Rq) (now : Int) : Int :=
  if bad e.Q r then 7 else if now < 0 ∨ 4611686018427387904 ≤ now then 1 else if c.rate r.key < 0 then 6 else if c.b r.key < r.cost then 5 else 0
theorem obj_cases (c : Cf) (e : Eg) (r : Rq) (now : Int) :
    (¬ mb r ∧ obj c e r now = 7) ∨ mb r ∧ ((0 ≤ Queue.place e.Q r.id ∧ obj c e r now = 7) ∨ ¬ 0 ≤ Queue.place e.Q r.id ∧ ((now < 0 ∧ obj c e r now = 1) ∨ ¬ now < 0 ∧ ((4611686018427387904 ≤ now ∧ obj c e r now = 1) ∨ ¬ 4611686018427387904 ≤ now ∧ ((c.rate r.key < 0 ∧ obj c e r now = 6) ∨ ¬ c.rate r.key < 0 ∧ ((rb c r.key < r.cost ∧ obj c e r now = 5) ∨ ¬ rb c r.key < r.cost ∧ obj c e r now = 0))))) := by
  unfold obj rb
  by_cases h1 : mb r
  · refine .inr ⟨h1, ?_⟩
    by_cases h2 : 0 ≤ Queue.place e.Q r.id
    · exact .inl ⟨h2, if_pos ((bad_iff _ _).2 (.inr h2))⟩
    · refine .inr ⟨h2, ?_⟩
      rw [if_neg (fun h => ((bad_iff _ _).1 h).elim (fun h => h h1) h2)]
      by_cases h3 : now < 0
      · exact .inl ⟨h3, if_pos (.inl h3)⟩
      · refine .inr ⟨h3, ?_⟩
        by_cases h4 : 4611686018427387904 ≤ now
        · exact .inl ⟨h4, if_pos (.inr h4)⟩
        · refine .inr ⟨h4, ?_⟩
          rw [if_neg (by omega)]
          by_cases h5 : c.rate r.key < 0
          · exact .inl ⟨h5, if_pos h5⟩
          · refine .inr ⟨h5, ?_⟩
            rw [if_neg h5, if_pos (by omega)]
            by_cases h6 : c.b r.key < r.cost
            · exact .inl ⟨h6, if_pos h6⟩
            · exact .inr ⟨h6, if_neg h6⟩
  · exact .inl ⟨h1, if_pos ((bad_iff _ _).2 (.inl h1))⟩
section
variable {R : Nat → Prop} {B q qw qq qd : Nat} {w w' u u' : World} {y : Value} {c : Cf} {e e' e2 : Eg}
/-- What an Ask reads: the request's box, the edge's cells. -/
structure Reads (w : World) (q g : Nat) (y : Value) (qw qq qd : Nat) (c : Cf) (r : Rq) : Prop where
  r0 : w.cell? ⟨g, 0, none⟩ = some (.int .i64 r.id)
  r1 : w.cell? ⟨g, 1, none⟩ = some (.int .i64 r.key)
  r2 : w.cell? ⟨g, 2, none⟩ = some (.int .i64 r.cost)
  r3 : w.cell? ⟨g, 3, none⟩ = some (.int .i64 r.cls)
  r4 : w.cell? ⟨g, 4, none⟩ = some (.int .i64 r.wait)
  s : Sees12 w q y qw qq qd c
theorem Sees12.on (h : Sees12 w q y qw qq qd c) (hb : Below w.heap.size w w') : Sees12 w' q y qw qq qd c :=
  ⟨cell_on h.k0 hb, cell_on h.k1 hb, cell_on h.k2 hb, cell_on h.k3 hb, cell_on h.k4 hb, cell_on h.k5 hb, cell_on h.k6 hb, cell_on h.k7 hb, cell_on h.k8 hb, cell_on h.k9 hb, cell_on h.k10 hb, cell_on h.k11 hb⟩
theorem Reads.on {g : Nat} {r : Rq} (h : Reads w q g y qw qq qd c r) (hb : Below w.heap.size w w') : Reads w' q g y qw qq qd c r :=
  ⟨cell_on h.r0 hb, cell_on h.r1 hb, cell_on h.r2 hb, cell_on h.r3 hb, cell_on h.r4 hb, h.s.on hb⟩
theorem reads_new (h : In R B w q y qw qq qd c e) (r : Rq) : Reads (w.alloc (.cells #[.int .i64 r.id, .int .i64 r.key, .int .i64 r.cost, .int .i64 r.cls, .int .i64 r.wait] 38)) q w.heap.size y qw qq qd c r := by
  obtain ⟨b0, b1, b2, b3, b4⟩ := box5 (heap_alloc_new w (.cells #[.int .i64 r.id, .int .i64 r.key, .int .i64 r.cost, .int .i64 r.cls, .int .i64 r.wait] 38))
  exact ⟨b0, b1, b2, b3, b4, (h.below (lay w _)).sees⟩
theorem box_two {X w3 : World} {a b : Value} {T : TypeId} (hb : Below (X.alloc (.cells #[a, b] T)).drew.heap.size (X.alloc (.cells #[a, b] T)).drew w3) : w3.cell? ⟨X.heap.size, 0, none⟩ = some a ∧ w3.cell? ⟨X.heap.size, 1, none⟩ = some b ∧ w3.frozen? ⟨X.heap.size, 0, none⟩ = false ∧ w3.frozen? ⟨X.heap.size, 1, none⟩ = false ∧ w3.heap[X.heap.size]? = some (.cells #[a, b] T (0, 0)) := by
  have k : w3.heap[X.heap.size]? = some (.cells #[a, b] T (0, 0)) := (hb.block X.heap.size (by show X.heap.size < (X.alloc (.cells #[a, b] T)).heap.size; simp)).trans (heap_alloc_new X (.cells #[a, b] T))
  exact ⟨by rw [cell_of_row w3 _ 0 _ _ (0, 0) k]; rfl, by rw [cell_of_row w3 _ 1 _ _ (0, 0) k]; rfl, frozen_of k, frozen_of k, k⟩
/-- A box of two, behind a region. -/
def Box2 (w0 wx : World) (a : Value) (x y : Int) : Prop := ∃ g, a = .pointer (some ⟨g, 0, none⟩) ∧ wx.cell? ⟨g, 0, none⟩ = some (.int .i64 x) ∧ wx.cell? ⟨g, 1, none⟩ = some (.int .i64 y) ∧ Below w0.heap.size w0 wx
theorem box2_new {S : Prop} {w0 w3 : World} {x y : Int} {T : TypeId} (h : Below w0.heap.size w0 w3 ∧ S) : Box2 w0 (w3.alloc (.cells #[.int .i64 x, .int .i64 y] T)) (.pointer (some ⟨w3.heap.size, 0, none⟩)) x y := by
  have k := heap_alloc_new w3 (.cells #[.int .i64 x, .int .i64 y] T)
  exact ⟨_, rfl, by rw [cell_of_row _ _ 0 _ _ (0, 0) k]; rfl, by rw [cell_of_row _ _ 1 _ _ (0, 0) k]; rfl, h.1.alloc h.1.size _⟩
theorem box2_set {S : Prop} {w0 w3 : World} {a b : Value} {x y : Int} {T : TypeId} {g : Nat} (k : w3.heap[g]? = some (.cells #[a, b] T (0, 0))) (h : Below w0.heap.size w0 w3 ∧ S) (hg : w0.heap.size ≤ g) : Box2 w0 ((w3.setCell ⟨g, 0, none⟩ (.int .i64 x)).setCell ⟨g, 1, none⟩ (.int .i64 y)) (.pointer (some ⟨g, 0, none⟩)) x y := by
  have k2 := heap_set g 1 _ (.int .i64 y) (heap_set g 0 _ (.int .i64 x) k)
  exact ⟨_, rfl, by rw [cell_of_row _ _ 0 _ _ (0, 0) k2]; rfl, by rw [cell_of_row _ _ 1 _ _ (0, 0) k2]; rfl, (h.1.setCell (p := ⟨g, 0, none⟩) hg _).setCell (p := ⟨g, 1, none⟩) hg _⟩
theorem s_next {S : Prop} {w0 X : World} (h : Below w0.heap.size w0 X ∧ S) (hb : Below X.heap.size X w') : Below w0.heap.size w0 w' := h.1.trans (hb.mono h.1.size)
theorem s_set {S : Prop} {w0 X : World} {g : Nat} {a b : Value} (h : Below w0.heap.size w0 X ∧ S) (hg : w0.heap.size ≤ g) : Below w0.heap.size w0 ((X.setCell ⟨g, 0, none⟩ a).setCell ⟨g, 1, none⟩ b) := (h.1.setCell (p := ⟨g, 0, none⟩) hg _).setCell (p := ⟨g, 1, none⟩) hg _
theorem s_low {S : Prop} {w0 X : World} (h : Below w0.heap.size w0 X ∧ S) (hb : Below w.heap.size w w0) : Below w.heap.size w X := hb.trans (h.1.mono hb.size)
theorem s_alloc {S : Prop} {w0 X : World} (h : Below w0.heap.size w0 X ∧ S) (o : Obj) : Below w0.heap.size w0 (X.alloc o) := h.1.alloc h.1.size _
set_option maxRecDepth 100000 in
set_option maxHeartbeats 16000000 in
theorem objection_any (h : In R B w q y qw qq qd c e) (hf : Lens e) (r : Rq) (now : Int) :
    Calls Tryz.prog 42 #[.pointer (some ⟨q, 0, none⟩), rval r, .int .i64 now] w fun x w' => x = .returned (.int .i64 (obj c e r now)) ∧ Below w.heap.size w w' := by
  have hcase := obj_cases c e r now
  have hx := reads_new h r
  have HB0 := Lib.hid (lay w (.cells #[.int .i64 r.id, .int .i64 r.key, .int .i64 r.cost, .int .i64 r.cls, .int .i64 r.wait] 38))
  obtain ⟨p, k, rfl, hl⟩ := h.rates
  have HX := Lib.hid (fun u (hu : Below (w.alloc (.cells #[.int .i64 r.id, .int .i64 r.key, .int .i64 r.cost, .int .i64 r.cls, .int .i64 r.wait] 38)).heap.size (w.alloc (.cells #[.int .i64 r.id, .int .i64 r.key, .int .i64 r.cost, .int .i64 r.cls, .int .i64 r.wait] 38)) u) => hx.on hu)
  have HK := Lib.hid (fun u (hu : Below w.heap.size w u) => prate_any k (hl.below hu) r.key)
  have HM := Lib.hid (fun u => mayBe_any r u)
  have HW := Lib.hid (fun u (hu : Below w.heap.size w u) => pwaits_any (h.below hu) hf.2.1 r.id)
  generalize obj c e r now = O at *
  generalize Queue.place e.Q r.id = pl at *
  generalize ra c r.key = vra at *
  generalize rb c r.key = vrb at *
  generalize c.rate r.key = kk at *
  have hkk : decide (0 ≤ kk) = !decide (kk < 0) := by
    by_cases h0 : kk < 0
    · simp [h0, show ¬ 0 ≤ kk by omega]
    · simp [h0, show 0 ≤ kk by omega]
  rw [hkk] at HK
  clear hkk
  generalize hmm : decide (mb r) = mm at *
  have hmb : mb r ↔ mm = true := by rw [← hmm]; simp
  simp only [hmb] at hcase
  obtain ⟨ri, rkey, rc, rs, rw'⟩ := r
  simp only [rval, Cf.val] at *
  obtain ⟨r0, r1, r2, r3, r4, s⟩ := hx
  obtain ⟨k0, k1, k2, k3, k4, k5, k6, k7, k8, k9, k10, k11⟩ := s
  simp only at *
  clear h hl hmm hmb k0 k10 k11 r0 r2 r3 r4
  go_enter Tryz.func42, Tryz.ntmps42
  go_wp2
  generalize w.alloc (.cells #[.int .i64 ri, .int .i64 rkey, .int .i64 rc, .int .i64 rs, .int .i64 rw'] 38) = w0 at *
  have HS := Lib.hid (fun u (hu : Below w0.heap.size w0 u) => show Below w0.heap.size w0 u ∧ u.cell? ⟨q, 1, none⟩ = some (.int .i64 c.n) ∧ u.cell? ⟨q, 2, none⟩ = some (.int .i64 c.sk) ∧ u.cell? ⟨q, 3, none⟩ = some (.int .i64 c.tl) ∧ u.cell? ⟨q, 4, none⟩ = some (.int .i64 c.va) ∧ u.cell? ⟨q, 5, none⟩ = some (.int .i64 c.lo) ∧ u.cell? ⟨q, 6, none⟩ = some (.int .i64 c.he) ∧ u.cell? ⟨q, 7, none⟩ = some (.int .i64 c.ke) ∧ u.cell? ⟨q, 8, none⟩ = some (.int .i64 c.qu) ∧ u.cell? ⟨q, 9, none⟩ = some (.slice p c.zs.length k) ∧ u.cell? ⟨w.heap.size, 1, none⟩ = some (.int .i64 rkey) from
    ⟨hu, (HX.out u hu).s.k1, (HX.out u hu).s.k2, (HX.out u hu).s.k3, (HX.out u hu).s.k4, (HX.out u hu).s.k5, (HX.out u hu).s.k6, (HX.out u hu).s.k7, (HX.out u hu).s.k8, (HX.out u hu).s.k9, (HX.out u hu).r1⟩)
  have y0 := HS.out _ (Below.refl w0.heap.size w0).drew
  clear k1 k2 k3 k4 k5 k6 k7 k8 k9 r1
  go_cut [7, 8] (fun a b wx => b = .bool (!decide (kk < 0)) ∧ Box2 w0 wx a vra vrb)
  case first =>
    go_region_held3 (fun u => Below w0.heap.size w0 u ∧ u.cell? ⟨q, 1, none⟩ = some (.int .i64 c.n) ∧ u.cell? ⟨q, 2, none⟩ = some (.int .i64 c.sk) ∧ u.cell? ⟨q, 3, none⟩ = some (.int .i64 c.tl) ∧ u.cell? ⟨q, 4, none⟩ = some (.int .i64 c.va) ∧ u.cell? ⟨q, 5, none⟩ = some (.int .i64 c.lo) ∧ u.cell? ⟨q, 6, none⟩ = some (.int .i64 c.he) ∧ u.cell? ⟨q, 7, none⟩ = some (.int .i64 c.ke) ∧ u.cell? ⟨q, 8, none⟩ = some (.int .i64 c.qu) ∧ u.cell? ⟨q, 9, none⟩ = some (.slice p c.zs.length k) ∧ u.cell? ⟨w.heap.size, 1, none⟩ = some (.int .i64 rkey)) (first | assumption | exact HS.out _ (s_alloc (by assumption) _) | exact HS.out _ (s_set (by assumption) (Nat.le_refl _))) (first
      | (go_at_call 96; (with_reducible refine (HK.out _ (s_low (by assumption) HB0.out)).mono ?_); rintro e1 w3 ⟨rfl, hb⟩; have y3 := HS.out _ (s_next (by assumption) hb); (try (have zz := box_two hb; obtain ⟨z0, z1, z2, z3, zk⟩ := zz))))
    all_goals (go_wp2_with fail; go_meet; first | exact ⟨rfl, box2_new (by assumption)⟩ | exact ⟨rfl, box2_set zk (by assumption) (Nat.le_refl _)⟩)
  case rest =>
    obtain ⟨rfl, gr, rfl, -, hy, hbc⟩ := hcut
    have HY := Lib.hid (fun u (hu : Below wc.heap.size wc u) => cell_on hy hu)
    have HXC := Lib.hid (fun u (hu : Below wc.heap.size wc u) => HX.out u (hbc.trans (hu.mono hbc.size)))
    have HBC := Lib.hid (HB0.out.trans (hbc.mono HB0.out.size))
    obtain ⟨r0, r1, r2, r3, r4, -⟩ := HXC.out _ (Below.refl _ _)
    simp only at r0 r1 r2 r3 r4
    clear HK HS HX hbc
    rcases hcase with ⟨h1, rfl⟩ | ⟨rfl, ⟨h2, rfl⟩ | ⟨h2, ⟨h3, rfl⟩ | ⟨h3, ⟨h4, rfl⟩ | ⟨h4, ⟨h5, rfl⟩ | ⟨h5, ⟨h6, rfl⟩ | ⟨h6, rfl⟩⟩⟩⟩⟩⟩
    · obtain rfl : mm = false := by simpa using h1
      go_wp2_with (go_at_call 97; (with_reducible refine (HM.out _).mono ?_); rintro e1 w4 ⟨rfl, hb⟩; have HB4 := Lib.hid hb; clear hb)
      go_ret
      exact ⟨rfl, HBC.out.trans (HB4.out.mono HBC.out.size)⟩
    all_goals
      go_wp2_with (first
        | (go_at_call 97; (with_reducible refine (HM.out _).mono ?_); rintro e1 w4 ⟨rfl, hb⟩; have HB4 := Lib.hid hb; have t0 := cell_on r0 hb; clear hb)
        | (go_at_call 98; (with_reducible refine (HW.out _ (HBC.out.trans (HB4.out.mono HBC.out.size))).mono ?_); rintro e1 w5 ⟨rfl, hb⟩; have HB5 := Lib.hid (HB4.out.trans (hb.mono HB4.out.size)); have t2 := cell_on r2 HB5.out; have ty := HY.out _ HB5.out; clear hb))
      go_ret
      exact ⟨rfl, HBC.out.trans (HB5.out.mono HBC.out.size)⟩
end
end Go.Proofs.YtlbpeeelgpjciaaGreat.Edge

namespace Go.Proofs.YtlbpeeelgpjciaaGreat.Edge
open Go.RowKit
open _root_.Go.Proofs.YtlbpeeelgpjciaaGreat.Codec (lt_of_heap frozen_of heap_set below_new)
open _root_.Go.Proofs.YtlbpeeelgpjciaaGreat.Kit (Enc Lies At Kept Laid Off cell_on lt_heap take_snoc below_drewN own_keep box5)
open _root_.Go.Proofs.YtlbpeeelgpjciaaGreat.Lease (Lz Num spend)
open _root_.Go.Proofs.YtlbpeeelgpjciaaGreat.Queue (It take)
open _root_.Go.Proofs.YtlbpeeelgpjciaaGreat.Demand (Nt)

/-- What is spent at once. -/
def sa (e : Eg) (r : Rq) (now : Int) : List Lz × Int × Bool := if Queue.of e.Q r.key = [] then spend e.L r.key r.cost now else (e.L, 0, false)
theorem head_some (l : List It) : (l = [] ∧ (Queue.head l).2 = false) ∨ (l ≠ [] ∧ (Queue.head l).2 = true) := by
  cases l with
  | nil => exact .inl ⟨rfl, rfl⟩
  | cons x l => exact .inr ⟨List.cons_ne_nil _ _, rfl⟩
section
variable {R : Nat → Prop} {B q qw qq qd : Nat} {w w' u u' : World} {y : Value} {c : Cf} {e e' e2 : Eg}
theorem box_five {X w3 : World} {a b c d e : Value} {T : TypeId} (hb : Below (X.alloc (.cells #[a, b, c, d, e] T)).drew.heap.size (X.alloc (.cells #[a, b, c, d, e] T)).drew w3) :
    (w3.cell? ⟨X.heap.size, 0, none⟩ = some a ∧ w3.cell? ⟨X.heap.size, 1, none⟩ = some b ∧ w3.cell? ⟨X.heap.size, 2, none⟩ = some c ∧ w3.cell? ⟨X.heap.size, 3, none⟩ = some d ∧ w3.cell? ⟨X.heap.size, 4, none⟩ = some e) ∧
    (w3.frozen? ⟨X.heap.size, 0, none⟩ = false ∧ w3.frozen? ⟨X.heap.size, 1, none⟩ = false ∧ w3.frozen? ⟨X.heap.size, 2, none⟩ = false ∧ w3.frozen? ⟨X.heap.size, 3, none⟩ = false ∧ w3.frozen? ⟨X.heap.size, 4, none⟩ = false) := by
  have k : w3.heap[X.heap.size]? = some (.cells #[a, b, c, d, e] T (0, 0)) := (hb.block X.heap.size (by show X.heap.size < (X.alloc (.cells #[a, b, c, d, e] T)).heap.size; simp)).trans (heap_alloc_new X (.cells #[a, b, c, d, e] T))
  exact ⟨box5 k, Kit.frozen5 k⟩
theorem s_set5 {S : Prop} {w0 X : World} {g : Nat} {a b c d e : Value} (h : Below w0.heap.size w0 X ∧ S) (hg : w0.heap.size ≤ g) : Below w0.heap.size w0 (((((X.setCell ⟨g, 0, none⟩ a).setCell ⟨g, 1, none⟩ b).setCell ⟨g, 2, none⟩ c).setCell ⟨g, 3, none⟩ d).setCell ⟨g, 4, none⟩ e) :=
  ((((h.1.setCell (p := ⟨g, 0, none⟩) hg _).setCell (p := ⟨g, 1, none⟩) hg _).setCell (p := ⟨g, 2, none⟩) hg _).setCell (p := ⟨g, 3, none⟩) hg _).setCell (p := ⟨g, 4, none⟩) hg _
set_option maxRecDepth 100000 in
set_option maxHeartbeats 16000000 in
theorem spendAtOnce_any (P : Queue.Way12 Queue.Pq) (h : In R B w q y qw qq qd c e) (hB : B ≤ w.heap.size) (hg : Good c e) (hf : Lens e) (r : Rq) (hr : RqNum r) (now : Int) :
    Calls Tryz.prog 44 #[.pointer (some ⟨q, 0, none⟩), rval r, .int .i64 now] w fun x w' => x = .returned (.tuple #[.int .i64 (sa e r now).2.1, .bool (sa e r now).2.2]) ∧ Moves R B w q y qw qq qd c ⟨(sa e r now).1, e.Q, e.D⟩ w' := by
  have HB0 := Lib.hid (lay w (.cells #[.int .i64 r.id, .int .i64 r.key, .int .i64 r.cost, .int .i64 r.cls, .int .i64 r.wait] 38))
  have hx := reads_new h r
  have HX := Lib.hid (fun u (hu : Below (w.alloc (.cells #[.int .i64 r.id, .int .i64 r.key, .int .i64 r.cost, .int .i64 r.cls, .int .i64 r.wait] 38)).heap.size (w.alloc (.cells #[.int .i64 r.id, .int .i64 r.key, .int .i64 r.cost, .int .i64 r.cls, .int .i64 r.wait] 38)) u) => hx.on hu)
  have HK := Lib.hid (fun u (hu : Below (w.alloc (.cells #[.int .i64 r.id, .int .i64 r.key, .int .i64 r.cost, .int .i64 r.cls, .int .i64 r.wait] 38)).heap.size (w.alloc (.cells #[.int .i64 r.id, .int .i64 r.key, .int .i64 r.cost, .int .i64 r.cls, .int .i64 r.wait] 38)) u) => (hu.block w.heap.size (by simp)).trans (heap_alloc_new w (.cells #[.int .i64 r.id, .int .i64 r.key, .int .i64 r.cost, .int .i64 r.cls, .int .i64 r.wait] 38)))
  have HF := Lib.hid (fun u (hu : Below w.heap.size w u) => P.first (h.below hu).qu hg.q hf.2.1 r.key hr.2.1)
  have HS := Lib.hid (fun u (hu : Below w.heap.size w u) => espend (h.below hu) (Nat.le_trans hB hu.size) hg.l (by have := hf.1; omega) (cost := r.cost) (now := now) hr.2.1)
  have HM := Lib.hid (fun u (hu : Below w.heap.size w u) => Moves.same h hB hu)
  have HBB := Lib.hid hB
  have hh := head_some (Queue.of e.Q r.key)
  have hsa : sa e r now = if Queue.of e.Q r.key = [] then spend e.L r.key r.cost now else (e.L, 0, false) := rfl
  generalize sa e r now = S at *
  generalize Queue.head (Queue.of e.Q r.key) = hd at *
  generalize Queue.of e.Q r.key = OF at *
  generalize spend e.L r.key r.cost now = SP at *
  obtain ⟨L', gen, so⟩ := SP
  obtain ⟨⟨zi, zk, zc, zs, zt⟩, ok⟩ := hd
  obtain ⟨ri, rkey, rc, rs, rw'⟩ := r
  simp only [rval, Queue.val] at *
  obtain ⟨r0, r1, r2, r3, r4, s⟩ := hx
  have s10 := s.k10
  simp only at *
  clear h hg hf hB s r0 r3 r4 P
  go_enter Tryz.func44, Tryz.ntmps44
  go_wp2
  generalize w.alloc (.cells #[.int .i64 ri, .int .i64 rkey, .int .i64 rc, .int .i64 rs, .int .i64 rw'] 38) = w0 at *
  have HY := Lib.hid (fun u (hu : Below w0.heap.size w0 u) => show Below w0.heap.size w0 u ∧ u.cell? ⟨q, 10, none⟩ = some (.pointer (some ⟨qq, 0, none⟩)) ∧ u.cell? ⟨w.heap.size, 1, none⟩ = some (.int .i64 rkey) from
    ⟨hu, (HX.out u hu).s.k10, (HX.out u hu).r1⟩)
  have y0 := HY.out _ (Below.refl w0.heap.size w0).drew
  clear s10 r1 r2
  go_cut [9] (fun a wx => a = .bool ok ∧ Below w0.heap.size w0 wx)
  case first =>
    go_region_held3 (fun u => Below w0.heap.size w0 u ∧ u.cell? ⟨q, 10, none⟩ = some (.pointer (some ⟨qq, 0, none⟩)) ∧ u.cell? ⟨w.heap.size, 1, none⟩ = some (.int .i64 rkey)) (first | with_reducible assumption | ((with_reducible refine HY.out _ ?_); first | with_reducible exact s_set5 (by with_reducible assumption) (Nat.le_refl _) | with_reducible exact s_alloc (by with_reducible assumption) _ | exact s_alloc (by with_reducible assumption) _)) (first
      | (go_at_call 99; (with_reducible refine (HF.out _ (s_low (by with_reducible assumption) HB0.out)).mono ?_); rintro e1 w3 ⟨rfl, hb⟩; have y3 := HY.out _ (s_next (by with_reducible assumption) hb); (try (have zz := box_five hb; obtain ⟨⟨z0, z1, z2, z3, z4⟩, ⟨x0, x1, x2, x3, x4⟩⟩ := zz))))
    all_goals (go_wp2_with fail; go_meet; (refine ⟨rfl, ?_⟩; first | with_reducible exact s_alloc (by with_reducible assumption) _ | with_reducible exact s_set5 (by with_reducible assumption) (Nat.le_refl _)))
  case rest =>
    obtain ⟨rfl, hbc⟩ := hcut
    have HBC := Lib.hid (HB0.out.trans (hbc.mono HB0.out.size))
    have hs0 := (HX.out _ hbc).s.k0
    obtain ⟨r0, r1, r2, r3, r4, -⟩ := HX.out _ hbc
    simp only at r0 r1 r2 r3 r4
    have HKC := Lib.hid (HK.out _ hbc)
    clear HF HY HX HK hbc r0 r3 r4
    rcases hh with ⟨rfl, rfl⟩ | ⟨hne, rfl⟩
    · rw [if_pos rfl] at hsa
      subst hsa
      have HBCD := Lib.hid (HBC.out.trans ((Below.refl wc.heap.size wc).drew.mono HBC.out.size))
      have c1 := HS.out _ HBCD.out
      have HMD := Lib.hid (HM.out _ HBCD.out)
      clear HS HM
      go_wp2
      go_region_held3 (fun u => u.cell? ⟨q, 0, none⟩ = some (.pointer (some ⟨qw, 0, none⟩)) ∧ u.cell? ⟨w.heap.size, 1, none⟩ = some (.int .i64 rkey) ∧ u.cell? ⟨w.heap.size, 2, none⟩ = some (.int .i64 rc)) (first | assumption | exact ⟨hs0, r1, r2⟩) (first
        | (go_at_call 100; (with_reducible refine c1.mono ?_); rintro e1 w3 ⟨rfl, h3⟩; have H3 := Lib.hid h3; have y3 : _ ∧ _ ∧ _ := ⟨h3.inn.sees.k0, (box5 (h3.off2.block _ _ _ _ HKC.out (by simp [theirs]))).2.1, (box5 (h3.off2.block _ _ _ _ HKC.out (by simp [theirs]))).2.2.1⟩; clear h3 c1))
      go_wp2
      refine bodyPost_ret (v := .tuple #[.int .i64 gen, .bool so]) (by simp [results, Tryz.results44, go_sem]) rfl ⟨rfl, HMD.out.trans H3.out⟩
    · rw [if_neg hne] at hsa
      subst hsa
      go_wp2
      refine bodyPost_ret (v := .tuple #[.int .i64 0, .bool false]) (by simp [results, Tryz.results44, go_sem]) rfl ⟨rfl, HM.out _ HBC.out⟩
/-- Two numbers in a row. -/
def TwoAt (u : World) (b : Nat) (x z : Int) : Prop := u.cell? ⟨b, 0, none⟩ = some (.int .i64 x) ∧ u.cell? ⟨b, 1, none⟩ = some (.int .i64 z)
theorem two_a {X : World} {b : Nat} {x z : Int} {T : TypeId} (hb : b = X.heap.size) : TwoAt (X.alloc (.cells #[.int .i64 x, .int .i64 z] T)).drew b x z := by
  subst hb
  have k : (X.alloc (.cells #[.int .i64 x, .int .i64 z] T)).drew.heap[X.heap.size]? = some (.cells #[.int .i64 x, .int .i64 z] T (0, 0)) := heap_alloc_new X (.cells #[.int .i64 x, .int .i64 z] T)
  exact ⟨by rw [cell_of_row _ _ 0 _ _ (0, 0) k]; rfl, by rw [cell_of_row _ _ 1 _ _ (0, 0) k]; rfl⟩
theorem two_b {X : World} {b : Nat} {x z : Int} {T : TypeId} {o : Obj} (hb : b = X.heap.size) : TwoAt ((X.alloc (.cells #[.int .i64 x, .int .i64 z] T)).alloc o).drew b x z := by
  obtain ⟨h0, h1⟩ := two_a (X := X) (x := x) (z := z) (T := T) hb
  have hb2 : Below (X.alloc (.cells #[.int .i64 x, .int .i64 z] T)).drew.heap.size (X.alloc (.cells #[.int .i64 x, .int .i64 z] T)).drew ((X.alloc (.cells #[.int .i64 x, .int .i64 z] T)).alloc o).drew := lay (X.alloc (.cells #[.int .i64 x, .int .i64 z] T)).drew o
  exact ⟨cell_on h0 hb2, cell_on h1 hb2⟩
theorem add_two {u : World} {b : Nat} {x z : Int} (h : TwoAt u b x z) : Calls Tryz.prog 101 #[.slice (some ⟨b, 0, none⟩) 2 2] u fun e w' => e = .returned (.int .i64 (Sat.add [x, z])) ∧ u = w' :=
  _root_.Go.Proofs.YtlbpeeelgpjciaaGreat.Sat.add_any [x, z] b 2 u (by simp) fun k hk => by
    match k, hk with
    | 0, _ => exact h.1
    | 1, _ => exact h.2
theorem bel1 (w0 : World) (o : Obj) : Below w0.heap.size w0 (w0.alloc o).drew := (lay w0 o).drew
theorem bel2 (w0 : World) (o o' : Obj) : Below w0.heap.size w0 ((w0.alloc o).alloc o').drew := ((lay w0 o).trans ((lay (w0.alloc o) o').mono (lay w0 o).size)).drew
/-- A box of an item's, behind a region. -/
def Box5 (w0 wx : World) (a : Value) (x : It) : Prop := ∃ g, a = .pointer (some ⟨g, 0, none⟩) ∧ wx.heap[g]? = some (.cells #[.int .i64 x.id, .int .i64 x.key, .int .i64 x.cost, .int .i64 x.cls, .int .i64 x.til] 77 (0, 0)) ∧ w0.heap.size ≤ g ∧ Below w0.heap.size w0 wx
theorem box5_aa (w0 : World) (o : Obj) (x : It) : Box5 w0 ((w0.alloc o).alloc (.cells #[.int .i64 x.id, .int .i64 x.key, .int .i64 x.cost, .int .i64 x.cls, .int .i64 x.til] 77)).drew (.pointer (some ⟨w0.heap.size + 1, 0, none⟩)) x := by
  have k : ((w0.alloc o).alloc (.cells #[.int .i64 x.id, .int .i64 x.key, .int .i64 x.cost, .int .i64 x.cls, .int .i64 x.til] 77)).drew.heap[(w0.alloc o).heap.size]? = some (.cells #[.int .i64 x.id, .int .i64 x.key, .int .i64 x.cost, .int .i64 x.cls, .int .i64 x.til] 77 (0, 0)) := heap_alloc_new (w0.alloc o) _
  rw [show (w0.alloc o).heap.size = w0.heap.size + 1 by simp] at k
  exact ⟨_, rfl, k, by omega, bel2 _ _ _⟩
theorem box5_a (w0 : World) (o : Obj) (x : It) : Box5 w0 ((w0.alloc (.cells #[.int .i64 x.id, .int .i64 x.key, .int .i64 x.cost, .int .i64 x.cls, .int .i64 x.til] 77)).alloc o).drew (.pointer (some ⟨w0.heap.size, 0, none⟩)) x := by
  have k : ((w0.alloc (.cells #[.int .i64 x.id, .int .i64 x.key, .int .i64 x.cost, .int .i64 x.cls, .int .i64 x.til] 77)).alloc o).drew.heap[w0.heap.size]? = some (.cells #[.int .i64 x.id, .int .i64 x.key, .int .i64 x.cost, .int .i64 x.cls, .int .i64 x.til] 77 (0, 0)) :=
    ((lay (w0.alloc (.cells #[.int .i64 x.id, .int .i64 x.key, .int .i64 x.cost, .int .i64 x.cls, .int .i64 x.til] 77)) o).block w0.heap.size (by simp)).trans (heap_alloc_new w0 _)
  exact ⟨_, rfl, k, Nat.le_refl _, bel2 _ _ _⟩
set_option maxRecDepth 100000 in
set_option maxHeartbeats 16000000 in
theorem pwait_any (P : Queue.Way12 Queue.Pq) (h : In R B w q y qw qq qd c e) (hB : B ≤ w.heap.size) (hg : Good c e) (hf : Lens e) (r : Rq) (hr : RqNum r) (now : Int) :
    Calls Tryz.prog 46 #[.pointer (some ⟨q, 0, none⟩), rval r, .int .i64 now] w fun x w' => ∃ v, x = .returned v ∧ Says w' v (wait c e r now).2 ∧ Moves R B w q y qw qq qd c (wait c e r now).1 w' := by
  have HB0 := Lib.hid (lay w (.cells #[.int .i64 r.id, .int .i64 r.key, .int .i64 r.cost, .int .i64 r.cls, .int .i64 r.wait] 38))
  have hx := reads_new h r
  have HX := Lib.hid (fun u (hu : Below (w.alloc (.cells #[.int .i64 r.id, .int .i64 r.key, .int .i64 r.cost, .int .i64 r.cls, .int .i64 r.wait] 38)).heap.size (w.alloc (.cells #[.int .i64 r.id, .int .i64 r.key, .int .i64 r.cost, .int .i64 r.cls, .int .i64 r.wait] 38)) u) => hx.on hu)
  have hwait := wait_cases c e r now
  have HKQ := Lib.hid (fun u (hu : Below (w.alloc (.cells #[.int .i64 r.id, .int .i64 r.key, .int .i64 r.cost, .int .i64 r.cls, .int .i64 r.wait] 38)).heap.size (w.alloc (.cells #[.int .i64 r.id, .int .i64 r.key, .int .i64 r.cost, .int .i64 r.cls, .int .i64 r.wait] 38)) u) => show u.heap[w.heap.size]? = some (.cells #[.int .i64 r.id, .int .i64 r.key, .int .i64 r.cost, .int .i64 r.cls, .int .i64 r.wait] 38 (0, 0)) from (hu.block w.heap.size (by simp)).trans (heap_alloc_new w _))
  have HX2 := Lib.hid (fun (u : World) (hu : u.heap[w.heap.size]? = some (.cells #[.int .i64 r.id, .int .i64 r.key, .int .i64 r.cost, .int .i64 r.cls, .int .i64 r.wait] 38 (0, 0))) => box5 hu)
  have HPU := Lib.hid (fun (R' : Nat → Prop) u (hu : In R' B u q y qw qq qd c e) (hb : B ≤ u.heap.size) => eputq P hu hb hg.q hf.2.1 (item r now) (nums_item hr now))
  have HM := Lib.hid (fun u (hu : Below w.heap.size w u) => Moves.same h hB hu)
  have HD1 := Lib.hid (fun u => denied_any r 1 u)
  have HD2 := Lib.hid (fun u => denied_any r 2 u)
  have HAD := Lib.hid (fun u b (hb : TwoAt u b now r.wait) => add_two hb)
  have HBB := Lib.hid hB
  simp only [item, Queue.val] at HPU hwait
  generalize wait c e r now = WT at *
  generalize no r.id 1 = A1 at *
  generalize no r.id 2 = A2 at *
  generalize Sat.add [now, r.wait] = til at *
  generalize Queue.put c.qu e.Q ⟨r.id, r.key, r.cost, r.cls, til⟩ = PU at *
  obtain ⟨ri, rkey, rc, rs, rw'⟩ := r
  obtain ⟨PQ, pf⟩ := PU
  simp only [rval] at *
  obtain ⟨r0, r1, r2, r3, r4, s⟩ := hx
  have s10 := s.k10
  simp only at *
  clear h hg hf hB s P
  rcases hwait with ⟨g1, rfl⟩ | ⟨g1, g2, rfl⟩ | ⟨g1, g2, g4, rfl⟩
  · subst g1
    go_enter Tryz.func46, Tryz.ntmps46
    go_wp2_with (go_at_call 43; (with_reducible refine (HD1.out _).mono ?_); rintro e1 w3 ⟨v, rfl, ht, hb⟩; have HT := Lib.hid ht; have HB3 := Lib.hid hb; clear ht hb)
    go_ret
    exact ⟨v, rfl, HT.out, HM.out _ (HB0.out.trans (HB3.out.mono HB0.out.size))⟩
  · have g5 : (rw' == 0) = false := by simpa using g1
    subst g2
    clear g1
    have HI0 := Lib.hid (HM.out _ HB0.out)
    go_enter Tryz.func46, Tryz.ntmps46
    go_wp2
    generalize w.alloc (.cells #[.int .i64 ri, .int .i64 rkey, .int .i64 rc, .int .i64 rs, .int .i64 rw'] 38) = w0 at *
    have HY := Lib.hid (fun u (hu : Below w0.heap.size w0 u) => show Below w0.heap.size w0 u ∧ u.cell? ⟨w.heap.size, 0, none⟩ = some (.int .i64 ri) ∧ u.cell? ⟨w.heap.size, 1, none⟩ = some (.int .i64 rkey) ∧ u.cell? ⟨w.heap.size, 2, none⟩ = some (.int .i64 rc) ∧ u.cell? ⟨w.heap.size, 3, none⟩ = some (.int .i64 rs) ∧ u.cell? ⟨w.heap.size, 4, none⟩ = some (.int .i64 rw') from
      ⟨hu, (HX.out u hu).r0, (HX.out u hu).r1, (HX.out u hu).r2, (HX.out u hu).r3, (HX.out u hu).r4⟩)
    have y0 := HY.out _ (Below.refl w0.heap.size w0).drew
    clear s10 r0 r1 r2 r3 r4
    go_cut [7] (fun a wx => Box5 w0 wx a ⟨ri, rkey, rc, rs, til⟩)
    case first =>
      go_region_held3 (fun u => Below w0.heap.size w0 u ∧ u.cell? ⟨w.heap.size, 0, none⟩ = some (.int .i64 ri) ∧ u.cell? ⟨w.heap.size, 1, none⟩ = some (.int .i64 rkey) ∧ u.cell? ⟨w.heap.size, 2, none⟩ = some (.int .i64 rc) ∧ u.cell? ⟨w.heap.size, 3, none⟩ = some (.int .i64 rs) ∧ u.cell? ⟨w.heap.size, 4, none⟩ = some (.int .i64 rw')) (first | with_reducible assumption | ((with_reducible refine HY.out _ ?_); first | with_reducible exact bel1 _ _ | with_reducible exact bel2 _ _ _)) (first
        | (go_at_call 101; (with_reducible refine (HAD.out _ _ (by first | exact two_a rfl | exact two_a (by simp) | exact two_b rfl | exact two_b (by simp))).mono ?_); rintro e1 w3 ⟨rfl, rfl⟩))
      all_goals (go_wp2_with fail; go_meet; first | with_reducible exact box5_aa _ _ ⟨ri, rkey, rc, rs, til⟩ | with_reducible exact box5_a _ _ ⟨ri, rkey, rc, rs, til⟩)
    case rest =>
      obtain ⟨g, rfl, hk, hg0, hbc⟩ := hcut
      have s10 := (HX.out _ hbc).s.k10
      have HM1 := Lib.hid (HI0.out.on HBB.out (hbc.trans ((Below.refl wc.heap.size wc).drew.mono hbc.size)))
      have HI1 := Lib.hid ((HI0.out.inn.grow hbc).below (Below.refl wc.heap.size wc).drew)
      have c1 := HPU.out _ _ HI1.out (Nat.le_trans HBB.out HM1.out.off.size)
      have HK := Lib.hid hk
      have HRG := Lib.hid (show R g ∨ w0.heap.size ≤ g ∧ g < wc.heap.size from .inr ⟨hg0, lt_of_heap hk⟩)
      obtain ⟨b0, b1, b2, b3, b4⟩ := box5 hk
      clear HX HY hbc HPU hk
      go_wp2
      go_region_held3 (fun u => u.cell? ⟨q, 10, none⟩ = some (.pointer (some ⟨qq, 0, none⟩)) ∧ u.cell? ⟨g, 0, none⟩ = some (.int .i64 ri) ∧ u.cell? ⟨g, 1, none⟩ = some (.int .i64 rkey) ∧ u.cell? ⟨g, 2, none⟩ = some (.int .i64 rc) ∧ u.cell? ⟨g, 3, none⟩ = some (.int .i64 rs) ∧ u.cell? ⟨g, 4, none⟩ = some (.int .i64 til)) (first | with_reducible assumption | exact ⟨s10, b0, b1, b2, b3, b4⟩) (first
        | (go_at_call 102; (with_reducible refine c1.mono ?_); rintro e1 w3 ⟨rfl, h3⟩; have H3 := Lib.hid h3; have y3 : _ ∧ _ := ⟨h3.inn.sees.k10, box5 (h3.box (x := ⟨ri, rkey, rc, rs, til⟩) HRG.out HK.out)⟩; clear h3 c1))
      go_wp2
      go_ret
      exact ⟨_, rfl, says_none _, HM1.out.trans (H3.out.sub fun g hg => .inl hg)⟩
  · have g5 : (rw' == 0) = false := by simpa using g1
    have g6 : (pf != 0) = true := by simpa using g2
    subst g4
    clear g1 g2
    have HI0 := Lib.hid (HM.out _ HB0.out)
    go_enter Tryz.func46, Tryz.ntmps46
    go_wp2
    generalize w.alloc (.cells #[.int .i64 ri, .int .i64 rkey, .int .i64 rc, .int .i64 rs, .int .i64 rw'] 38) = w0 at *
    have HY := Lib.hid (fun u (hu : Below w0.heap.size w0 u) => show Below w0.heap.size w0 u ∧ u.cell? ⟨w.heap.size, 0, none⟩ = some (.int .i64 ri) ∧ u.cell? ⟨w.heap.size, 1, none⟩ = some (.int .i64 rkey) ∧ u.cell? ⟨w.heap.size, 2, none⟩ = some (.int .i64 rc) ∧ u.cell? ⟨w.heap.size, 3, none⟩ = some (.int .i64 rs) ∧ u.cell? ⟨w.heap.size, 4, none⟩ = some (.int .i64 rw') from
      ⟨hu, (HX.out u hu).r0, (HX.out u hu).r1, (HX.out u hu).r2, (HX.out u hu).r3, (HX.out u hu).r4⟩)
    have y0 := HY.out _ (Below.refl w0.heap.size w0).drew
    clear s10 r0 r1 r2 r3 r4
    go_cut [7] (fun a wx => Box5 w0 wx a ⟨ri, rkey, rc, rs, til⟩)
    case first =>
      go_region_held3 (fun u => Below w0.heap.size w0 u ∧ u.cell? ⟨w.heap.size, 0, none⟩ = some (.int .i64 ri) ∧ u.cell? ⟨w.heap.size, 1, none⟩ = some (.int .i64 rkey) ∧ u.cell? ⟨w.heap.size, 2, none⟩ = some (.int .i64 rc) ∧ u.cell? ⟨w.heap.size, 3, none⟩ = some (.int .i64 rs) ∧ u.cell? ⟨w.heap.size, 4, none⟩ = some (.int .i64 rw')) (first | with_reducible assumption | ((with_reducible refine HY.out _ ?_); first | with_reducible exact bel1 _ _ | with_reducible exact bel2 _ _ _)) (first
        | (go_at_call 101; (with_reducible refine (HAD.out _ _ (by first | exact two_a rfl | exact two_a (by simp) | exact two_b rfl | exact two_b (by simp))).mono ?_); rintro e1 w3 ⟨rfl, rfl⟩))
      all_goals (go_wp2_with fail; go_meet; first | with_reducible exact box5_aa _ _ ⟨ri, rkey, rc, rs, til⟩ | with_reducible exact box5_a _ _ ⟨ri, rkey, rc, rs, til⟩)
    case rest =>
      obtain ⟨g, rfl, hk, hg0, hbc⟩ := hcut
      have s10 := (HX.out _ hbc).s.k10
      have HKR := Lib.hid (HKQ.out _ hbc)
      have HM1 := Lib.hid (HI0.out.on HBB.out (hbc.trans ((Below.refl wc.heap.size wc).drew.mono hbc.size)))
      have HI1 := Lib.hid ((HI0.out.inn.grow hbc).below (Below.refl wc.heap.size wc).drew)
      have c1 := HPU.out _ _ HI1.out (Nat.le_trans HBB.out HM1.out.off.size)
      have HK := Lib.hid hk
      have HRG := Lib.hid (show R g ∨ w0.heap.size ≤ g ∧ g < wc.heap.size from .inr ⟨hg0, lt_of_heap hk⟩)
      obtain ⟨b0, b1, b2, b3, b4⟩ := box5 hk
      clear HX HY hbc HPU hk
      go_wp2
      go_region_held3 (fun u => u.cell? ⟨q, 10, none⟩ = some (.pointer (some ⟨qq, 0, none⟩)) ∧ u.cell? ⟨g, 0, none⟩ = some (.int .i64 ri) ∧ u.cell? ⟨g, 1, none⟩ = some (.int .i64 rkey) ∧ u.cell? ⟨g, 2, none⟩ = some (.int .i64 rc) ∧ u.cell? ⟨g, 3, none⟩ = some (.int .i64 rs) ∧ u.cell? ⟨g, 4, none⟩ = some (.int .i64 til)) (first | with_reducible assumption | exact ⟨s10, b0, b1, b2, b3, b4⟩) (first
        | (go_at_call 102; (with_reducible refine c1.mono ?_); rintro e1 w3 ⟨rfl, h3⟩; have H3 := Lib.hid h3; have y3 : _ ∧ _ := ⟨h3.inn.sees.k10, box5 (h3.box (x := ⟨ri, rkey, rc, rs, til⟩) HRG.out HK.out)⟩; clear h3 c1))
      have t2 := (HX2.out _ (H3.out.off2.block _ _ _ _ HKR.out (by simp [theirs])))
      obtain ⟨t0, t1, t2, t3, t4⟩ := t2
      go_wp2_with (go_at_call 43; (with_reducible refine (HD2.out _).mono ?_); rintro e1 w4 ⟨v, rfl, ht, hb⟩; have HT := Lib.hid ht; have HB4 := Lib.hid hb; clear ht hb)
      go_ret
      exact ⟨v, rfl, HT.out, (HM1.out.trans (H3.out.sub fun g hg => .inl hg)).on HBB.out HB4.out⟩
end
end Go.Proofs.YtlbpeeelgpjciaaGreat.Edge

namespace Go.Proofs.YtlbpeeelgpjciaaGreat.Edge
open Go.RowKit
open _root_.Go.Proofs.YtlbpeeelgpjciaaGreat.Codec (lt_of_heap frozen_of heap_set below_new)
open _root_.Go.Proofs.YtlbpeeelgpjciaaGreat.Kit (Enc Lies At Kept Laid Off cell_on lt_heap take_snoc below_drewN own_keep box5)
open _root_.Go.Proofs.YtlbpeeelgpjciaaGreat.Lease (Lz Num spend)
open _root_.Go.Proofs.YtlbpeeelgpjciaaGreat.Queue (It take)
open _root_.Go.Proofs.YtlbpeeelgpjciaaGreat.Demand (Nt)

theorem ask_obj (c : Cf) (e : Eg) (r : Rq) (now : Int) : (obj c e r now ≠ 0 ∧ ask c e r now = (e, no r.id (obj c e r now))) ∨ (obj c e r now = 0 ∧
    (((sa e r now).2.2 = true ∧ ask c e r now = (⟨(sa e r now).1, e.Q, e.D⟩, [⟨r.id, (sa e r now).2.1, 0⟩])) ∨ ((sa e r now).2.2 = false ∧ (sa e r now).1 = e.L ∧ ask c e r now = wait c e r now))) := by
  unfold obj ask sa
  by_cases h1 : bad e.Q r
  · rw [if_pos h1, if_pos h1]
    exact .inl ⟨by decide, rfl⟩
  · rw [if_neg h1, if_neg h1]
    by_cases h2 : now < 0 ∨ 4611686018427387904 ≤ now
    · rw [if_pos h2, if_pos h2]
      exact .inl ⟨by decide, rfl⟩
    · rw [if_neg h2, if_neg h2]
      by_cases h3 : c.rate r.key < 0
      · rw [if_pos h3, if_pos h3]
        exact .inl ⟨by decide, rfl⟩
      · rw [if_neg h3, if_neg h3]
        by_cases h4 : c.b r.key < r.cost
        · rw [if_pos h4, if_pos h4]
          exact .inl ⟨by decide, rfl⟩
        · rw [if_neg h4, if_neg h4]
          refine .inr ⟨rfl, ?_⟩
          by_cases h5 : Queue.of e.Q r.key = []
          · rw [if_pos h5]
            by_cases h6 : (spend e.L r.key r.cost now).2.2 = true
            · exact .inl ⟨h6, by rw [if_pos ⟨h5, h6⟩]⟩
            · have h6' : (spend e.L r.key r.cost now).2.2 = false := by simpa using h6
              exact .inr ⟨h6', spend_no h6', by rw [if_neg (fun hh => h6 hh.2)]⟩
          · rw [if_neg h5]
            exact .inr ⟨rfl, rfl, by rw [if_neg (fun hh => h5 hh.1)]⟩
section
variable {R : Nat → Prop} {B q qw qq qd : Nat} {w w' u u' : World} {y : Value} {c : Cf} {e e' e2 : Eg}
set_option maxRecDepth 100000 in
set_option maxHeartbeats 16000000 in
theorem pask_any (P : Queue.Way12 Queue.Pq) (h : In R B w q y qw qq qd c e) (hB : B ≤ w.heap.size) (hg : Good c e) (hf : Lens e) (r : Rq) (hr : RqNum r) (now : Int) :
    Calls Tryz.prog 19 #[.pointer (some ⟨q, 0, none⟩), rval r, .int .i64 now] w fun x w' => ∃ v, x = .returned v ∧ Says w' v (ask c e r now).2 ∧ Moves R B w q y qw qq qd c (ask c e r now).1 w' := by
  have hbx := lay w (.cells #[.int .i64 r.id, .int .i64 r.key, .int .i64 r.cost, .int .i64 r.cls, .int .i64 r.wait] 38)
  have HK := Lib.hid (heap_alloc_new w (.cells #[.int .i64 r.id, .int .i64 r.key, .int .i64 r.cost, .int .i64 r.cls, .int .i64 r.wait] 38))
  have HM0 := Lib.hid (Moves.same h hB hbx)
  have c1 := objection_any HM0.out.inn hf r now
  have HSA := Lib.hid (fun u (hu : In R B u q y qw qq qd c e) (hb : B ≤ u.heap.size) => spendAtOnce_any P hu hb hg hf r hr now)
  have HWT := Lib.hid (fun u (hu : In R B u q y qw qq qd c e) (hb : B ≤ u.heap.size) => pwait_any P hu hb hg hf r hr now)
  have HDN := Lib.hid (fun u => denied_any r (obj c e r now) u)
  have HGR := Lib.hid (fun u => granted_any r.id (sa e r now).2.1 u)
  have HBX := Lib.hid (fun (u : World) (hu : u.heap[w.heap.size]? = some (.cells #[.int .i64 r.id, .int .i64 r.key, .int .i64 r.cost, .int .i64 r.cls, .int .i64 r.wait] 38 (0, 0))) => box5 hu)
  have hcase := ask_obj c e r now
  have HBB := Lib.hid hB
  have HS1 := Lib.hid (fun (u : World) (g : Nat) (hg : g = u.heap.size) => show Says (u.alloc (.cells #[.int .i64 r.id, .int .i64 (sa e r now).2.1, .int .i64 0] 79)) (.slice (some ⟨g, 0, none⟩) 1 1) [⟨r.id, (sa e r now).2.1, 0⟩] from by rw [hg]; exact says_one u ⟨r.id, (sa e r now).2.1, 0⟩)
  generalize ask c e r now = AS at *
  generalize wait c e r now = WT at *
  generalize no r.id (obj c e r now) = AN at *
  generalize obj c e r now = O at *
  generalize sa e r now = SA at *
  obtain ⟨L', gen, ok⟩ := SA
  obtain ⟨ri, rkey, rc, rs, rw'⟩ := r
  simp only [rval, aval] at *
  obtain ⟨r0, r1, r2, r3, r4⟩ := HBX.out _ HK.out
  clear h hg hf hB hbx P hr
  rcases hcase with ⟨h1, rfl⟩ | ⟨rfl, ⟨rfl, rfl⟩ | ⟨rfl, rfl, rfl⟩⟩
  · have h1' : (O != 0) = true := by simpa using h1
    go_enter Tryz.func19, Tryz.ntmps19
    go_wp2_with (first
      | (go_at_call 42; (with_reducible refine c1.mono ?_); rintro e1 w1 ⟨rfl, hb⟩; have HM1 := Lib.hid (HM0.out.on HBB.out hb); obtain ⟨t0, t1, t2, t3, t4⟩ := HBX.out _ ((hb.block _ (lt_heap HK.out)).trans HK.out); clear hb c1 r0 r1 r2 r3 r4)
      | (go_at_call 43; (with_reducible refine (HDN.out _).mono ?_); rintro e1 w4 ⟨v, rfl, ht, hb⟩; have HT := Lib.hid ht; have HB4 := Lib.hid hb; clear ht hb))
    go_ret
    exact ⟨v, rfl, HT.out, HM1.out.on HBB.out HB4.out⟩
  · go_enter Tryz.func19, Tryz.ntmps19
    go_wp2_with (first
      | (go_at_call 42; (with_reducible refine c1.mono ?_); rintro e1 w1 ⟨rfl, hb⟩; have HM1 := Lib.hid (HM0.out.on HBB.out hb); have HK1 := Lib.hid ((hb.block _ (lt_heap HK.out)).trans HK.out); obtain ⟨t0, t1, t2, t3, t4⟩ := HBX.out _ HK1.out; clear hb c1 r0 r1 r2 r3 r4)
      | (go_at_call 44; (with_reducible refine (HSA.out _ HM1.out.inn (Nat.le_trans HBB.out HM1.out.off.size)).mono ?_); rintro e1 w2 ⟨rfl, h2⟩; have HM2 := Lib.hid (HM1.out.trans h2); obtain ⟨x0, x1, x2, x3, x4⟩ := HBX.out _ (h2.off2.block _ _ _ _ HK1.out (by simp [theirs])); clear h2 HSA)
      | (go_at_call 45; (with_reducible refine (HGR.out _).mono ?_); rintro e1 w3 ⟨rfl, hb⟩; have HM3 := Lib.hid (HM2.out.on HBB.out hb); clear hb))
    go_ret
    exact ⟨_, rfl, HS1.out _ _ rfl, HM3.out.on HBB.out (lay _ _)⟩
  · go_enter Tryz.func19, Tryz.ntmps19
    go_wp2_with (first
      | (go_at_call 42; (with_reducible refine c1.mono ?_); rintro e1 w1 ⟨rfl, hb⟩; have HM1 := Lib.hid (HM0.out.on HBB.out hb); have HK1 := Lib.hid ((hb.block _ (lt_heap HK.out)).trans HK.out); obtain ⟨t0, t1, t2, t3, t4⟩ := HBX.out _ HK1.out; clear hb c1 r0 r1 r2 r3 r4)
      | (go_at_call 44; (with_reducible refine (HSA.out _ HM1.out.inn (Nat.le_trans HBB.out HM1.out.off.size)).mono ?_); rintro e1 w2 ⟨rfl, h2⟩; have HM2 := Lib.hid (HM1.out.trans h2); obtain ⟨x0, x1, x2, x3, x4⟩ := HBX.out _ (h2.off2.block _ _ _ _ HK1.out (by simp [theirs])); clear h2 HSA)
      | (go_at_call 46; (with_reducible refine (HWT.out _ HM2.out.inn (Nat.le_trans HBB.out HM2.out.off.size)).mono ?_); rintro e1 w3 ⟨v, rfl, ht, h3⟩; have HM3 := Lib.hid (HM2.out.trans h3); have HT := Lib.hid ht; clear ht h3))
    go_ret
    exact ⟨v, rfl, HT.out, HM3.out⟩
end
end Go.Proofs.YtlbpeeelgpjciaaGreat.Edge
