/-
  The program's election in memory: its block, and what a step leaves; plain: what each of the program's calls makes (its bits are asked only while it stands), and that this tells what the document's makes; a majority by counts.
-/
import Derived.Test.YthehbphpchmdiaaElectWay
import Derived.Test.YthehbphpchmdiaaRingCount
namespace Go.Proofs.Ythehbphpchmdiaa.Elect
open Go.RowKit
open _root_.Go.Proofs.Ythehbphpchmdiaa.Codec (lt_of_heap frozen_of heap_set below_new)
open _root_.Go.Proofs.Ythehbphpchmdiaa.Kit (cell_on lt_heap below_drewN)
open _root_.Go.Proofs.Ythehbphpchmdiaa.Ring (has put okRing all meet count maj only)

/-- The program's election, its block. -/
def Pb (w : World) (q : Nat) (e : El) : Prop := w.heap[q]? = some (.cells #[.int .i64 e.n, .int .i64 e.node, .int .i64 e.promised, .int .i64 e.round, .int .i64 e.ballot, .int .u64 e.bits] 61 (0, 0))
/-- A step of it: its block alone, and new ones. -/
structure PStep (w : World) (q : Nat) (e : El) (w' : World) : Prop where
  pb : Pb w' q e
  only : ∀ g, g ≠ q → g < w.heap.size → w'.heap[g]? = w.heap[g]?
  below : Below q w w'
section
variable {w w' u : World} {q : Nat} {e e' : El}
theorem Pb.lt (h : Pb w q e) : q < w.heap.size := lt_of_heap h
theorem Pb.below (h : Pb w q e) (hb : Below w.heap.size w w') : Pb w' q e := (hb.block q h.lt).trans h
theorem Pb.cell (h : Pb w q e) : w.cell? ⟨q, 0, none⟩ = some (.int .i64 e.n) ∧ w.cell? ⟨q, 1, none⟩ = some (.int .i64 e.node) ∧ w.cell? ⟨q, 2, none⟩ = some (.int .i64 e.promised) ∧ w.cell? ⟨q, 3, none⟩ = some (.int .i64 e.round) ∧ w.cell? ⟨q, 4, none⟩ = some (.int .i64 e.ballot) ∧ w.cell? ⟨q, 5, none⟩ = some (.int .u64 e.bits) ∧ ∀ o, w.frozen? ⟨q, o, none⟩ = false :=
  ⟨by rw [cell_of_row w q 0 _ _ (0, 0) h]; rfl, by rw [cell_of_row w q 1 _ _ (0, 0) h]; rfl, by rw [cell_of_row w q 2 _ _ (0, 0) h]; rfl, by rw [cell_of_row w q 3 _ _ (0, 0) h]; rfl, by rw [cell_of_row w q 4 _ _ (0, 0) h]; rfl, by rw [cell_of_row w q 5 _ _ (0, 0) h]; rfl, fun o => frozen_of h⟩
theorem PStep.same (h : Pb w q e) (hb : Below w.heap.size w w') : PStep w q e w' := ⟨h.below hb, fun g _ hg => hb.block g hg, hb.mono (Nat.le_of_lt h.lt)⟩
theorem PStep.trans (h : PStep w q e w') (k : PStep w' q e' u) : PStep w q e' u := ⟨k.pb, fun g hn hg => (k.only g hn (Nat.lt_of_lt_of_le hg h.below.size)).trans (h.only g hn hg), h.below.trans k.below⟩
theorem PStep.on (h : PStep w q e w') (hb : Below w'.heap.size w' u) : PStep w q e u := h.trans (PStep.same h.pb hb)
/-- A cell of it is written. -/
theorem PStep.set (h : PStep w q e w') {o : Nat} {x : Value} {cs : Array Value} (hc : (#[.int .i64 e.n, .int .i64 e.node, .int .i64 e.promised, .int .i64 e.round, .int .i64 e.ballot, .int .u64 e.bits] : Array Value).set! o x = cs) {e' : El} (he : cs = #[.int .i64 e'.n, .int .i64 e'.node, .int .i64 e'.promised, .int .i64 e'.round, .int .i64 e'.ballot, .int .u64 e'.bits]) : PStep w q e' (w'.setCell ⟨q, o, none⟩ x) := by
  refine ⟨?_, fun g hn hg => (Below.heap_setCell _ _ _ _ hn).trans (h.only g hn hg), h.below.setCell (p := ⟨q, o, none⟩) (Nat.le_refl _) _⟩
  unfold Pb
  rw [heap_set q o _ _ h.pb, ← he, ← hc]
  simp
/-- A box of its own is written. -/
theorem PStep.box (h : PStep w q e w') (hv : q < w.heap.size) {r o : Nat} (hr : w.heap.size ≤ r) (x : Value) : PStep w q e (w'.setCell ⟨r, o, none⟩ x) :=
  ⟨(Below.heap_setCell _ _ _ _ (by show q ≠ r; omega)).trans h.pb, fun g hn hg => (Below.heap_setCell _ _ _ _ (by show g ≠ r; omega)).trans (h.only g hn hg), h.below.setCell (p := ⟨r, o, none⟩) (by show q ≤ r; omega) x⟩
end
/-- What a program's step makes. -/
def bitsOf (e : El) (b : Int) : El := ⟨e.n, e.node, e.promised, e.round, e.ballot, b⟩
def ppromise (e : El) (b : Int) : El := ⟨e.n, e.node, b, e.round, 0, put 0 e.node⟩
def pwon (e : El) : Bool := decide (e.ballot ≠ 0) && majority e
def pwin (e : El) : El := if pwon e = true then ⟨e.n, e.node, e.promised, e.round, 0, e.bits⟩ else e
def praise (e : El) (gen : Int) : El × Bool := if gen ≤ e.promised ∨ in40 gen = false then (e, false) else (ppromise e gen, true)
def pstand (e : El) : El × Rs × Int :=
  if (Conf.next e.n e.promised e.node).2 = 0 then (pwin (stands e (Conf.next e.n e.promised e.node).1), ⟨!pwon (stands e (Conf.next e.n e.promised e.node).1), (Conf.next e.n e.promised e.node).1, put 0 e.node, pwon (stands e (Conf.next e.n e.promised e.node).1)⟩, 0)
  else (e, noRs, (Conf.next e.n e.promised e.node).2)
def ptake (e : El) (gen x : Int) : El × Rs :=
  if gen < 1 then (e, noRs)
  else if (praise e gen).2 = true then (pwin (adds (ppromise e gen) x), ⟨true, gen, orB (put 0 e.node) x, pwon (adds (ppromise e gen) x)⟩)
  else if gen = e.ballot then (pwin (adds e x), ⟨false, gen, orB e.bits x, pwon (adds e x)⟩)
  else (e, noRs)
/-- The program's election and the document's. -/
structure Sim (p e : El) : Prop where
  n : p.n = e.n
  node : p.node = e.node
  promised : p.promised = e.promised
  round : p.round = e.round
  ballot : p.ballot = e.ballot
  set : Set64 p.bits
  bits : e.ballot ≠ 0 → p.bits = e.bits
  own : e.ballot = 0 ∨ e.ballot = e.promised
theorem orB_put (x i : Int) (_ : Set64 x) : orB (put 0 i) x = put x i := by
  unfold orB put
  rw [Int.toNat_natCast, show (0 : Int).toNat = 0 from rfl, Nat.zero_or, Nat.or_comm]
theorem pwon_zero {e : El} (h : e.ballot = 0) : pwon e = false := by simp [pwon, h]
theorem pwin_zero {e : El} (h : e.ballot = 0) : pwin e = e := by simp [pwin, pwon_zero h]
theorem pwon_some {e : El} (h : e.ballot ≠ 0) : pwon e = majority e := by simp [pwon, h]
theorem pwin_some {e : El} (h : e.ballot ≠ 0) : pwin e = wins e := by simp [pwin, wins, pwon_some h]
theorem Sim.start (n node promised round : Int) : Sim (start n node promised round) (start n node promised round) :=
  ⟨rfl, rfl, rfl, rfl, rfl, by show (0 : Int) ≤ 0 ∧ (0 : Int) < _; omega, fun h => absurd rfl h, .inl rfl⟩
theorem Sim.raise {p e : El} (h : Sim p e) (gen : Int) : Sim (praise p gen).1 (Elect.raise e gen).1 ∧ (praise p gen).2 = (Elect.raise e gen).2 := by
  unfold praise Elect.raise
  rw [h.promised]
  by_cases hc : gen ≤ e.promised ∨ in40 gen = false
  · rw [if_pos hc, if_pos hc]
    exact ⟨h, rfl⟩
  · rw [if_neg hc, if_neg hc]
    exact ⟨⟨h.n, h.node, rfl, h.round, rfl, put0 _, fun h => absurd rfl h, .inl rfl⟩, rfl⟩
theorem Sim.wins {p e : El} (h : Sim p e) (hp : e.ballot ≠ 0) : Sim (pwin p) (Elect.wins e) ∧ pwon p = majority e := by
  have hm : pwon p = majority e := by
    rw [pwon_some (by rw [h.ballot]; exact hp)]
    unfold majority
    rw [h.n, h.bits hp]
  refine ⟨?_, hm⟩
  unfold pwin Elect.wins
  rw [hm]
  split
  · exact ⟨h.n, h.node, h.promised, h.round, rfl, h.set, fun h => absurd rfl h, .inl rfl⟩
  · exact h
theorem Sim.stand {p e : El} (h : Sim p e) : Sim (pstand p).1 (Elect.stand e).1 ∧ (pstand p).2 = (Elect.stand e).2 := by
  unfold pstand Elect.stand
  rw [h.n, h.promised, h.node]
  by_cases hc : (Conf.next e.n e.promised e.node).2 = 0
  · rw [if_pos hc, if_pos hc]
    obtain ⟨-, -, -, hb, -, hn⟩ := next_bounds hc
    have hs : Sim (stands p (Conf.next e.n e.promised e.node).1) (stands e (Conf.next e.n e.promised e.node).1) := by
      refine ⟨h.n, h.node, rfl, ?_, rfl, put0 _, fun _ => ?_, .inr rfl⟩
      · show _ / p.n = _ / e.n
        rw [h.n]
      · show put 0 p.node = put 0 e.node
        rw [h.node]
    obtain ⟨k1, k2⟩ := hs.wins (by show (Conf.next e.n e.promised e.node).1 ≠ 0; omega)
    exact ⟨k1, by rw [k2]⟩
  · rw [if_neg hc, if_neg hc]
    exact ⟨h, rfl⟩
theorem Sim.take {p e : El} (h : Sim p e) (he : Good e) (gen : Int) {x : Int} (hx : Set64 x) : Sim (ptake p gen x).1 (Elect.take e gen x).1 ∧ (ptake p gen x).2 = (Elect.take e gen x).2 := by
  unfold ptake Elect.take
  by_cases h1 : gen < 1
  · rw [if_pos h1, if_pos (.inl h1)]
    exact ⟨h, rfl⟩
  rw [if_neg h1]
  have hr : (praise p gen).2 = decide (e.promised < gen ∧ gen ≤ 1099511627776) := by
    unfold praise
    rw [h.promised]
    split
    · rename_i hc
      simp only [in40] at hc
      simp at hc ⊢
      omega
    · rename_i hc
      simp only [in40] at hc
      simp at hc ⊢
      omega
  rw [hr]
  by_cases h2 : e.promised < gen ∧ gen ≤ 1099511627776
  · rw [decide_eq_true h2, if_pos rfl, if_neg (by omega), if_pos h2.1]
    have hz : (adds (ppromise p gen) x).ballot = 0 := rfl
    rw [pwin_zero hz, pwon_zero hz, orB_put _ _ hx, h.node]
    exact ⟨⟨h.n, h.node, rfl, h.round, rfl, orS (put0 _) hx, fun h => absurd rfl h, .inl rfl⟩, rfl⟩
  rw [decide_eq_false h2, if_neg (by simp), h.ballot]
  by_cases h3 : gen = e.ballot
  · have ho := h.own
    have hp := he.promised
    rw [if_pos h3, if_neg (by omega), if_neg (by omega), if_neg (by omega)]
    have hs : Sim (adds p x) (adds e x) := by
      refine ⟨h.n, h.node, h.promised, h.round, h.ballot, orS h.set hx, fun hb => ?_, h.own⟩
      show orB p.bits x = orB e.bits x
      rw [h.bits hb]
    obtain ⟨k1, k2⟩ := hs.wins (by show e.ballot ≠ 0; omega)
    exact ⟨k1, by rw [k2, h.bits (by omega)]⟩
  · rw [if_neg h3]
    have hp := he.promised
    split
    · exact ⟨h, rfl⟩
    · rw [if_neg (by omega), if_pos (by omega)]
      exact ⟨h, rfl⟩
/-- A majority, by counts. -/
theorem range_and (p : Nat → Bool) (m : Nat) : ∀ k, (List.range k).countP (fun i => p i && decide (i < m)) = (List.range (min k m)).countP p
  | 0 => by simp
  | k + 1 => by
    rw [List.range_succ, List.countP_append, range_and p m k]
    by_cases h : k < m
    · rw [show min (k + 1) m = min k m + 1 by omega, List.range_succ, List.countP_append, show min k m = k by omega]
      simp [List.countP_cons, h]
    · rw [show min (k + 1) m = min k m by omega]
      simp [h]
theorem cnt_countP (x : Int) : ∀ k, k ≤ 64 → cnt x k = (List.range k).countP (fun i => x.toNat.testBit i)
  | 0, _ => by simp [cnt]
  | k + 1, h => by
    unfold cnt
    rw [cnt_countP x k (by omega), List.range_succ, List.countP_append, Ring.has_nat x k (by omega)]
    simp [List.countP_cons]
theorem count_meet {n x : Int} (hn : 1 ≤ n ∧ n ≤ 64) : count (meet x (all n)) = (cnt x n.toNat : Int) := by
  unfold count
  have e : (List.range 64).countP (fun i => (meet x (all n)).toNat.testBit i) = (List.range 64).countP (fun i => x.toNat.testBit i && decide (i < n.toNat)) := by
    refine List.countP_congr fun i hi => ?_
    have hi' : i < 64 := List.mem_range.1 hi
    rw [← Ring.has_nat _ i hi', Ring.has_meet, Ring.has_all, Ring.has_nat x i hi']
    have : okRing n = true := by simp [okRing]; omega
    rw [this]
    have e2 : (decide ((i : Int) < n)) = decide (i < n.toNat) := by rw [decide_eq_decide]; omega
    simp [e2]
  rw [e, range_and, show min 64 n.toNat = n.toNat by omega, cnt_countP x n.toNat (by omega)]
theorem maj_count {e : El} (hn : 1 ≤ e.n ∧ e.n ≤ 64) : decide (count (meet e.bits (all e.n)) < maj e.n) = !majority e := by
  rw [count_meet hn]
  unfold majority maj
  rw [if_neg (by omega), Bool.eq_iff_iff]
  simp
  omega
/-- The program's election. -/
def Pe (F : Nat → Prop) (B : Nat) (w : World) (q : Nat) (e : El) : Prop := (B ≤ q ∧ ¬ F q) ∧ Good e ∧ ∃ p, Sim p e ∧ Pb w q p
section
variable {F G : Nat → Prop} {w w' u : World} {B q : Nat} {e e' p p' : El}
theorem Pe.turned (h : Pe F B w q e) (hs : Spare F w w') (hG : ∀ g, G g → F g ∨ w.heap.size ≤ g) : Pe G B w' q e := by
  obtain ⟨⟨h0, h1⟩, h2, p, h3, h4⟩ := h
  have l := lt_of_heap h4
  refine ⟨⟨h0, fun k => ?_⟩, h2, p, h3, (hs.same q h1 l).trans h4⟩
  rcases hG _ k with k | k
  · exact h1 k
  · omega
/-- The program's step is a move. -/
theorem Pe.moved (h : Pe F B w q e) (hs : PStep w q p' w') (hm : Sim p' e') (hg : Good e') : Moved Pe F B w q e' w' := by
  obtain ⟨⟨h0, h1⟩, h2, p, h3, h4⟩ := h
  refine ⟨⟨⟨h0, h1⟩, hg, p', hm, hs.pb⟩, fun q' e2 hn k => ?_, hs.below.mono h0, ⟨hs.below.size, fun g hF hl => hs.only g (by rintro rfl; exact h1 hF) hl⟩⟩
  obtain ⟨k0, k1, p2, k2, k3⟩ := k
  exact ⟨k0, k1, p2, k2, (hs.only q' hn (lt_of_heap k3)).trans k3⟩
end
end Go.Proofs.Ythehbphpchmdiaa.Elect
