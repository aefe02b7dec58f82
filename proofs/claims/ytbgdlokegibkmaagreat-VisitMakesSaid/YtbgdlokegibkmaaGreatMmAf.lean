/-
  The document's serve and Grant of an edge.
  What an act leaves of an edge that is kept well; how many leases, items, notes there are then. Plain functions, no program.
  The document's Grant, Close, Drop, Expire, Refuse of an edge.
  The document's Refuse and Crash of an edge.
  The document's Ask of an edge.
  The document's Ask of an edge, of requests that may be.
  The document's Wants of an edge.
  The document's New of an edge; its Ask, whatever is asked; Same, of two lists of answers that are one.
  What is asked of the program's edge, whatever its blocks are: a predicate on memory, and what each call tells and leaves (Way14).
  What lies anywhere stays where the document's edge turns: numbers, leases, rows (the edge's cells that turn hold none of these).
  annonalaw18's Fits, of any token, configuration and acts.
-/
import Derived.Deep.QuietTactic
import Derived.BigQuiet
import Derived.Deep.RegionHeld3
import Derived.Lib.MinMax
import Derived.Laws.StructEq
import Derived.Test.YtbgdlokegibkmaaGreatMmAe
import Derived.Test.YtbgdlokegibkmaaGreatMmAa
import Derived.Test.YtbgdlokegibkmaaGreatMmAb
import Derived.Test.YtbgdlokegibkmaaGreatMmAc
import Derived.Test.YtbgdlokegibkmaaGreatMmAd
namespace Go.Proofs.YtbgdlokegibkmaaGreat.Edge
open Go.RowKit
open _root_.Go.Proofs.YtbgdlokegibkmaaGreat.Codec (lt_of_heap frozen_of heap_set)
open _root_.Go.Proofs.YtbgdlokegibkmaaGreat.Kit (Enc Lies At Kept Laid Off cell_on lt_heap take_snoc below_drewN)
open _root_.Go.Proofs.YtbgdlokegibkmaaGreat.Lease (Lz spend)
open _root_.Go.Proofs.YtbgdlokegibkmaaGreat.Queue (It take)
open _root_.Go.Proofs.YtbgdlokegibkmaaGreat.Demand (Nt)
theorem good_spend {c : Cf} {e : Eg} (h : Good c e) (k x now : Int) : Good c ⟨(spend e.L k x now).1, e.Q, e.D⟩ := ⟨Lease.good_spend h.l k x now, h.q, h.until'⟩
theorem take_sub (Q : List It) (id : Int) : ∀ x ∈ (take Q id).1, x ∈ Q := by
  unfold take
  split
  · exact fun x hx => hx
  · exact fun x hx => (List.eraseIdx_sublist _ _).subset hx
theorem good_take {c : Cf} {e : Eg} (h : Good c e) (id : Int) : Good c ⟨e.L, (take e.Q id).1, e.D⟩ := ⟨h.l, Queue.good_take h.q id, fun x hx => h.until' x (take_sub _ _ x hx)⟩
theorem good_serves {c : Cf} (key now : Int) : ∀ (l : List It) {e : Eg}, Good c e → Good c (serves key now l e).1
  | [], _, h => h
  | x :: l, e, h => by
    simp only [serves]
    split
    · exact good_serves key now l (good_take (good_spend h key x.cost now) x.id)
    · exact h
theorem len_serves (key now : Int) : ∀ (l : List It) (e : Eg), (serves key now l e).1.L.length = e.L.length ∧ (serves key now l e).1.Q.length ≤ e.Q.length ∧ (serves key now l e).1.D = e.D
  | [], e => ⟨rfl, Nat.le_refl _, rfl⟩
  | x :: l, e => by
    simp only [serves]
    split
    · obtain ⟨h1, h2, h3⟩ := len_serves key now l ⟨(spend e.L key x.cost now).1, (take e.Q x.id).1, e.D⟩
      refine ⟨h1.trans (Lease.len_spend _ _ _ _), Nat.le_trans h2 ?_, h3⟩
      show (take e.Q x.id).1.length ≤ e.Q.length
      unfold take
      split
      · exact Nat.le_refl _
      · exact (List.eraseIdx_sublist _ _).length_le
    · exact ⟨rfl, Nat.le_refl _, rfl⟩
theorem spend_no {L : List Lz} {k x now : Int} (h : (spend L k x now).2.2 = false) : (spend L k x now).1 = L := by
  unfold spend at h ⊢
  split
  · rfl
  · rename_i hn
    rw [if_neg hn] at h
    cases h
end Go.Proofs.YtbgdlokegibkmaaGreat.Edge

namespace Go.Proofs.YtbgdlokegibkmaaGreat.Edge
open _root_.Go.Proofs.YtbgdlokegibkmaaGreat.Lease (Lz spend Num)
open _root_.Go.Proofs.YtbgdlokegibkmaaGreat.Queue (It take)
open _root_.Go.Proofs.YtbgdlokegibkmaaGreat.Demand (Nt)
open _root_.Go.Proofs.YtbgdlokegibkmaaGreat.Kit (take_snoc)
def RqNum (r : Rq) : Prop := Num r.id ∧ Num r.key ∧ Num r.cost ∧ Num r.cls ∧ Num r.wait
def zr : Rq := ⟨0, 0, 0, 0, 0⟩
theorem num_add (l : List Int) : Num (Sat.add l) := by
  have := Sat.add_lo l
  have := Sat.add_hi l
  unfold Num; omega
theorem nums_item {r : Rq} (h : RqNum r) (now : Int) : Queue.Nums (item r now) := ⟨h.1, h.2.1, h.2.2.1, h.2.2.2.1, num_add _⟩
theorem mem_put {room : Int} {l : List It} {x y : It} (h : y ∈ (Queue.put room l x).1) : y ∈ l ∨ y = x := by
  unfold Queue.put at h
  split at h
  · exact .inl h
  · split at h
    · exact .inl h
    · split at h
      · exact .inl h
      · simpa using h
theorem good_wait {c : Cf} {e : Eg} (h : Good c e) {r : Rq} (hr : RqNum r) (now : Int) : Good c (wait c e r now).1 := by
  unfold wait
  split
  · exact h
  · split
    · exact ⟨h.l, Queue.good_put h.q (nums_item hr now), fun x hx => (mem_put hx).elim (h.until' x) (fun e => by rw [e]; exact Sat.add_hi _)⟩
    · exact h
theorem good_ask {c : Cf} {e : Eg} (h : Good c e) {r : Rq} (hr : RqNum r) (now : Int) : Good c (ask c e r now).1 := by
  unfold ask
  split
  · exact h
  · split
    · exact h
    · split
      · exact h
      · split
        · exact h
        · split
          · exact good_spend h _ _ _
          · exact good_wait h hr now
theorem good_sub {c : Cf} {e : Eg} (h : Good c e) {Q : List It} (s : List.Sublist Q e.Q) : Good c ⟨e.L, Q, e.D⟩ := ⟨h.l, Queue.good_sub h.q s, fun x hx => h.until' x (s.subset hx)⟩
theorem take_sublist (Q : List It) (id : Int) : List.Sublist (take Q id).1 Q := by
  unfold take
  split
  · exact List.Sublist.refl _
  · exact List.eraseIdx_sublist _ _
theorem without_sublist : ∀ (l Q : List It), List.Sublist (without Q l) Q
  | [], _ => List.Sublist.refl _
  | x :: l, Q => (without_sublist l _).trans (take_sublist Q x.id)
theorem good_e0 {c : Cf} (h : 0 ≤ c.qu) : Good c e0 := ⟨Lease.good_nil, Queue.good_nil h, fun x hx => by cases hx⟩
theorem good_grant {c : Cf} {e : Eg} (h : Good c e) {x : Lz} (hx : Lease.Nums x) (now : Int) : Good c (grant e x now).1 := by
  unfold grant
  split
  · exact good_serves _ _ _ ⟨Lease.good_put h.l hx, h.q, h.until'⟩
  · exact h
theorem ask_few (c : Cf) (e : Eg) (r : Rq) (now : Int) : (ask c e r now).1.L.length = e.L.length ∧ (ask c e r now).1.D = e.D := by
  unfold ask wait
  split
  · exact ⟨rfl, rfl⟩
  · split
    · exact ⟨rfl, rfl⟩
    · split
      · exact ⟨rfl, rfl⟩
      · split
        · exact ⟨rfl, rfl⟩
        · split
          · exact ⟨Lease.len_spend _ _ _ _, rfl⟩
          · split
            · exact ⟨rfl, rfl⟩
            · split
              · exact ⟨rfl, rfl⟩
              · exact ⟨rfl, rfl⟩
/-- The edge behind the first j acts. -/
def st (c : Cf) (l : List Ac) (j : Nat) : Eg := (l.take j).foldl (fun s a => (actOf c s a).1) e0
theorem check_room {c : Cf} (h : c.check = 0) : 0 ≤ c.qu ∧ c.qu ≤ 16 := by
  unfold Cf.check Conf.check at h
  split at h
  · exact absurd h (by decide)
  · split at h
    · exact absurd h (by decide)
    · split at h
      · exact absurd h (by decide)
      · rename_i hr
        simp only [Conf.rooms, Conf.within, Bool.not_eq_false, Bool.and_eq_true, decide_eq_true_eq] at hr
        exact hr.2
end Go.Proofs.YtbgdlokegibkmaaGreat.Edge

namespace Go.Proofs.YtbgdlokegibkmaaGreat.Edge
open Go.RowKit
open _root_.Go.Proofs.YtbgdlokegibkmaaGreat.Codec (lt_of_heap frozen_of heap_set)
open _root_.Go.Proofs.YtbgdlokegibkmaaGreat.Kit (Enc Lies At Kept Laid Off cell_on lt_heap take_snoc below_drewN)
open _root_.Go.Proofs.YtbgdlokegibkmaaGreat.Lease (Lz spend)
open _root_.Go.Proofs.YtbgdlokegibkmaaGreat.Queue (It take)
open _root_.Go.Proofs.YtbgdlokegibkmaaGreat.Demand (Nt)
theorem good_put {c : Cf} {e : Eg} (h : Good c e) {x : Lz} (hx : Lease.Nums x) : Good c ⟨(Lease.put e.L x).1, e.Q, e.D⟩ := ⟨Lease.good_put h.l hx, h.q, h.until'⟩
end Go.Proofs.YtbgdlokegibkmaaGreat.Edge

namespace Go.Proofs.YtbgdlokegibkmaaGreat.Edge
open Go.RowKit
open _root_.Go.Proofs.YtbgdlokegibkmaaGreat.Codec (lt_of_heap frozen_of heap_set)
open _root_.Go.Proofs.YtbgdlokegibkmaaGreat.Kit (Enc Lies At Kept Laid Off cell_on lt_heap take_snoc below_drewN)
open _root_.Go.Proofs.YtbgdlokegibkmaaGreat.Lease (Lz spend)
open _root_.Go.Proofs.YtbgdlokegibkmaaGreat.Queue (It take)
open _root_.Go.Proofs.YtbgdlokegibkmaaGreat.Demand (Nt)
theorem without_at {Q l : List It} {j : Nat} (h : j < l.length) : without Q (l.take (j + 1)) = (take (without Q (l.take j)) (l.getD j Queue.z).id).1 := by
  unfold without
  rw [take_snoc Queue.z h, List.foldl_append]
  rfl
theorem without_len (Q : List It) : ∀ l : List It, (without Q l).length ≤ Q.length := by
  intro l
  induction l generalizing Q with
  | nil => exact Nat.le_refl _
  | cons x l ih =>
    refine Nat.le_trans (ih (take Q x.id).1) ?_
    unfold take
    split
    · exact Nat.le_refl _
    · exact (List.eraseIdx_sublist _ _).length_le
end Go.Proofs.YtbgdlokegibkmaaGreat.Edge

namespace Go.Proofs.YtbgdlokegibkmaaGreat.Edge
open Go.RowKit
open _root_.Go.Proofs.YtbgdlokegibkmaaGreat.Codec (lt_of_heap frozen_of heap_set)
open _root_.Go.Proofs.YtbgdlokegibkmaaGreat.Kit (Enc Lies At Kept Laid Off cell_on lt_heap take_snoc below_drewN box5)
open _root_.Go.Proofs.YtbgdlokegibkmaaGreat.Lease (Lz spend)
open _root_.Go.Proofs.YtbgdlokegibkmaaGreat.Queue (It take)
open _root_.Go.Proofs.YtbgdlokegibkmaaGreat.Demand (Nt)
def rval (r : Rq) : Value := .agg #[.int .i64 r.id, .int .i64 r.key, .int .i64 r.cost, .int .i64 r.cls, .int .i64 r.wait]
def Cf.val (c : Cf) (p : Option Addr) (k : Nat) : Value := .agg #[.int .i64 c.n, .int .i64 c.sk, .int .i64 c.tl, .int .i64 c.va, .int .i64 c.lo, .int .i64 c.he, .int .i64 c.ke, .int .i64 c.qu, .slice p c.zs.length k]
end Go.Proofs.YtbgdlokegibkmaaGreat.Edge

namespace Go.Proofs.YtbgdlokegibkmaaGreat.Edge
open Go.RowKit
open _root_.Go.Proofs.YtbgdlokegibkmaaGreat.Codec (lt_of_heap frozen_of heap_set)
open _root_.Go.Proofs.YtbgdlokegibkmaaGreat.Kit (Enc Lies At Kept Laid Off cell_on lt_heap take_snoc below_drewN box5)
open _root_.Go.Proofs.YtbgdlokegibkmaaGreat.Lease (Lz spend)
open _root_.Go.Proofs.YtbgdlokegibkmaaGreat.Queue (It take)
open _root_.Go.Proofs.YtbgdlokegibkmaaGreat.Demand (Nt)
theorem wait_cases (c : Cf) (e : Eg) (r : Rq) (now : Int) : (r.wait = 0 ∧ wait c e r now = (e, no r.id 1)) ∨ (r.wait ≠ 0 ∧ (Queue.put c.qu e.Q (item r now)).2 = 0 ∧ wait c e r now = (⟨e.L, (Queue.put c.qu e.Q (item r now)).1, e.D⟩, [])) ∨
    (r.wait ≠ 0 ∧ (Queue.put c.qu e.Q (item r now)).2 ≠ 0 ∧ (Queue.put c.qu e.Q (item r now)).1 = e.Q ∧ wait c e r now = (e, no r.id 2)) := by
  unfold wait
  by_cases h : r.wait = 0
  · exact .inl ⟨h, by rw [if_pos h]⟩
  · by_cases hp : (Queue.put c.qu e.Q (item r now)).2 = 0
    · exact .inr (.inl ⟨h, hp, by rw [if_neg h, if_pos hp]⟩)
    · refine .inr (.inr ⟨h, hp, ?_, by rw [if_neg h, if_neg hp]⟩)
      unfold Queue.put at hp ⊢
      split
      · rfl
      · split
        · rfl
        · split
          · rfl
          · rename_i h1 h2 h3
            rw [if_neg h1, if_neg h2, if_neg h3] at hp
            exact absurd rfl hp
end Go.Proofs.YtbgdlokegibkmaaGreat.Edge

namespace Go.Proofs.YtbgdlokegibkmaaGreat.Edge
open Go.RowKit
open _root_.Go.Proofs.YtbgdlokegibkmaaGreat.Codec (lt_of_heap frozen_of heap_set)
open _root_.Go.Proofs.YtbgdlokegibkmaaGreat.Kit (Enc Lies At Kept Laid Off cell_on lt_heap take_snoc below_drewN ints)
/-- Keys, and amounts. -/
def pair : Enc (Int × Int) := ⟨2, fun x => [.int .i64 x.1, .int .i64 x.2], (0, 0), by decide, fun _ => rfl, fun x u hu => by simp at hu; rcases hu with rfl | rfl <;> rfl⟩
/-- What is wanted of the first ones. -/
def wantsOf (c : Cf) (e : Eg) (l : List Int) : List (Int × Int) := (l.map fun k => (k, amount c e k)).filter fun p => decide (0 < p.2)
theorem wants_at {c : Cf} {e : Eg} {l : List Int} {j : Nat} (h : j < l.length) : wantsOf c e (l.take (j + 1)) = if 0 < amount c e (l.getD j 0) then wantsOf c e (l.take j) ++ [(l.getD j 0, amount c e (l.getD j 0))] else wantsOf c e (l.take j) := by
  unfold wantsOf
  rw [take_snoc 0 h, List.map_append, List.filter_append]
  simp only [List.map_cons, List.map_nil, List.filter_cons, List.filter_nil, decide_eq_true_eq]
  split <;> simp
theorem wants_len (c : Cf) (e : Eg) (l : List Int) : (wantsOf c e l).length ≤ l.length := by
  unfold wantsOf
  exact Nat.le_trans (List.length_filter_le _ _) (by simp)
theorem merge_len : ∀ (a b : List Int), (merge a b).length ≤ a.length + b.length
  | [], b => by simp [merge]
  | a :: l, [] => by simp [merge]
  | a :: l, b :: m => by
    have h1 := merge_len l (b :: m)
    have h2 := merge_len l m
    have h3 := merge_len (a :: l) m
    rw [merge]
    simp only [List.length_cons] at *
    split
    · simp only [List.length_cons]; omega
    · split
      · simp only [List.length_cons]; omega
      · simp only [List.length_cons]; omega
theorem ints_at {w : World} {p : Option Addr} {l : List Int} (h : Lies ints w p l) {j : Nat} (hj : j < l.length) : ∃ b o, p = some ⟨b, o, none⟩ ∧ w.cell? ⟨b, o + j, none⟩ = some (.int .i64 (l.getD j 0)) := by
  obtain ⟨b, o, e, ha⟩ := Kit.lies_at h hj
  refine ⟨b, o, e, ?_⟩
  have := ha 0 _ rfl
  rwa [show ints.n = 1 from rfl, Nat.mul_one] at this
end Go.Proofs.YtbgdlokegibkmaaGreat.Edge

namespace Go.Proofs.YtbgdlokegibkmaaGreat.Edge
open Go.RowKit
open _root_.Go.Proofs.YtbgdlokegibkmaaGreat.Codec (lt_of_heap frozen_of heap_set)
open _root_.Go.Proofs.YtbgdlokegibkmaaGreat.Kit (Enc Lies At Kept Laid Off cell_on lt_heap take_snoc below_drewN)
theorem RatesB.rates {B : Nat} {w : World} {p : Option Addr} {zs : List (Int × Int)} (h : RatesB B w p zs) : Conf.IsRates w p zs := by
  rcases h with h | ⟨b, o, e, -, hc⟩
  · exact .inl h
  · exact .inr ⟨b, o, e, hc⟩
def aval (x : An) : Value := .agg #[.int .i64 x.id, .int .i64 x.gen, .int .i64 x.why]
end Go.Proofs.YtbgdlokegibkmaaGreat.Edge

namespace Go.Proofs.YtbgdlokegibkmaaGreat.Edge
open Go.RowKit
open _root_.Go.Proofs.YtbgdlokegibkmaaGreat.Codec (lt_of_heap frozen_of heap_set)
open _root_.Go.Proofs.YtbgdlokegibkmaaGreat.Kit (Enc Lies At Kept Laid Off cell_on lt_heap take_snoc below_drewN)
open _root_.Go.Proofs.YtbgdlokegibkmaaGreat.Lease (Lz Num)
open _root_.Go.Proofs.YtbgdlokegibkmaaGreat.Queue (It)
/-- The document's blocks, and what was told. -/
abbrev mine : List TypeId := [97, 131, 113, 244, 60, 174]
/-- A slice's block is of a type. -/
def Typed (w : World) (p : Option Addr) (T : TypeId) : Prop := ∀ a, p = some a → ∃ cs z, w.heap[a.block]? = some (Obj.cells cs T z)
theorem Typed.below {w w' : World} {p : Option Addr} {T : TypeId} (h : Typed w p T) (hb : Below w.heap.size w w') : Typed w' p T := fun a e => by
  obtain ⟨cs, z, k⟩ := h a e
  exact ⟨cs, z, (hb.block _ (lt_of_heap k)).trans k⟩
theorem Typed.off {w w' : World} {p : Option Addr} {T : TypeId} {ts : List TypeId} (h : Typed w p T) (ho : Off ts w w') (ht : T ∈ ts) : Typed w' p T := fun a e => by
  obtain ⟨cs, z, k⟩ := h a e
  exact ⟨cs, z, ho.block _ _ _ _ k ht⟩
theorem lies_off {α : Type} {E : Enc α} {w w' : World} {p : Option Addr} {l : List α} {T : TypeId} {ts : List TypeId} (h : Lies E w p l) (ht : Typed w p T) (ho : Off ts w w') (hT : T ∈ ts) : Lies E w' p l := by
  rcases h with h | ⟨b, o, rfl, hc⟩
  · exact .inl h
  · obtain ⟨cs, z, k⟩ := ht _ rfl
    exact .inr ⟨b, o, rfl, fun j hj i u hu => (World.cell?_of_block (a := ⟨b, o + j * E.n + i, none⟩) ((ho.block _ _ _ _ k hT).trans k.symm)).trans (hc j hj i u hu)⟩
theorem Typed.kept {w w' : World} {p : Option Addr} {T : TypeId} {ts : List TypeId} (h : Typed w p T) (hk : Kept ts w w') (hT : T ∉ ts) : Typed w' p T := fun a e => by
  obtain ⟨cs, z, k⟩ := h a e
  exact ⟨cs, z, hk.block _ _ _ _ k hT⟩
theorem lies_kept {α : Type} {E : Enc α} {w w' : World} {p : Option Addr} {l : List α} {T : TypeId} {ts : List TypeId} (h : Lies E w p l) (ht : Typed w p T) (hk : Kept ts w w') (hT : T ∉ ts) : Lies E w' p l := by
  rcases h with h | ⟨b, o, rfl, hc⟩
  · exact .inl h
  · obtain ⟨cs, z, k⟩ := ht _ rfl
    exact .inr ⟨b, o, rfl, fun j hj i u hu => (World.cell?_of_block (a := ⟨b, o + j * E.n + i, none⟩) ((hk.block _ _ _ _ k hT).trans k.symm)).trans (hc j hj i u hu)⟩
/-- Answers that the program tells. -/
def Says (w : World) (v : Value) (l : List An) : Prop := ∃ p c, v = .slice p l.length c ∧ Lies ans w p l ∧ Typed w p 60 ∧ (p = none → c = 0)
theorem says_none (w : World) : Says w (.slice none 0 0) [] := ⟨none, 0, rfl, .inl rfl, fun a e => by simp at e, fun _ => rfl⟩
theorem Says.off {w w' : World} {v : Value} {l : List An} (h : Says w v l) (ho : Off mine w w') : Says w' v l := by
  obtain ⟨p, c, e, h1, h2, h3⟩ := h
  exact ⟨p, c, e, lies_off h1 h2 ho (by simp [mine]), h2.off ho (by simp [mine]), h3⟩
theorem Says.below {w w' : World} {v : Value} {l : List An} (h : Says w v l) (hb : Below w.heap.size w w') : Says w' v l := by
  obtain ⟨p, c, e, h1, h2, h3⟩ := h
  exact ⟨p, c, e, h1.below hb, h2.below hb, h3⟩
/-- A block that holds a number. -/
def HasN (w : World) (g : Nat) : Prop := ∃ o k x, w.cell? ⟨g, o, none⟩ = some (.int k x)
theorem HasN.on {w w' : World} {g : Nat} (h : HasN w g) (e : w'.heap[g]? = w.heap[g]?) : HasN w' g := by
  obtain ⟨o, k, x, hc⟩ := h
  exact ⟨o, k, x, (World.cell?_of_block (a := ⟨g, o, none⟩) e).trans hc⟩
/-- Base, world, the edge's address, its configuration, what it holds. -/
abbrev Pw := Nat → World → Nat → Cf → Eg → Prop
/-- The program's edge moves. -/
structure Moved (PW : Pw) (B : Nat) (w : World) (q : Nat) (c : Cf) (e : Eg) (w' : World) : Prop where
  pw : PW B w' q c e
  off : Off mine w w'
  below : Below B w w'
def CfNum (c : Cf) : Prop := Num c.n ∧ Num c.sk ∧ Num c.tl ∧ Num c.va ∧ Num c.lo ∧ Num c.he ∧ Num c.ke ∧ Num c.qu
/-- Not many. -/
def Lens (e : Eg) : Prop := e.L.length ≤ 100 ∧ e.Q.length ≤ 16 ∧ e.D.length ≤ 700
end Go.Proofs.YtbgdlokegibkmaaGreat.Edge

namespace Go.Proofs.YtbgdlokegibkmaaGreat.Visit
open Go.RowKit
open _root_.Go.Proofs.YtbgdlokegibkmaaGreat.Frame (Rw Tb noRow LeasesAt)
open _root_.Go.Proofs.YtbgdlokegibkmaaGreat.Ledger (RowAt RowsAt)
open _root_.Go.Proofs.YtbgdlokegibkmaaGreat.Codec (Ints lt_of_heap)
open _root_.Go.Proofs.YtbgdlokegibkmaaGreat.Edge (Cf Eg Ed)
/-! A token's box whose slices turn. -/
section
variable {u u' : World} {b m1 k1 m2 k2 : Nat} {g hp st : Int} {q1 q2 : Option Addr} {T : TypeId} {y1 y : Value} (hb : u.heap[b]? = some (.cells #[.int .i64 g, .int .i64 hp, .slice q1 m1 k1, .int .i64 st, .slice q2 m2 k2] T (0, 0))) (hb' : u'.heap[b]? = some (.cells #[.int .i64 g, .int .i64 hp, y1, .int .i64 st, y] T (0, 0))) (hk : ∀ b', b' ≠ b → u'.heap[b']? = u.heap[b']?)
include hb hb' hk
theorem swap_int {b' o : Nat} {k : IntKind} {x : Int} (hx : u.cell? ⟨b', o, none⟩ = some (.int k x)) : u'.cell? ⟨b', o, none⟩ = some (.int k x) := by
  by_cases hne : b' = b
  · subst hne
    rw [cell_of_row _ b' _ _ _ (0, 0) hb] at hx
    rw [cell_of_row _ b' _ _ _ (0, 0) hb']
    match o, hx with
    | 0, hx => exact hx
    | 1, hx => exact hx
    | 2, hx => simp at hx
    | 3, hx => exact hx
    | 4, hx => simp at hx
    | n + 5, hx => simp at hx
  · exact (World.cell?_of_block (a := ⟨b', o, none⟩) (hk b' hne)).trans hx
end
section
variable {u u' : World} {b m1 k1 m2 k2 : Nat} {g hp st : Int} {q1 q2 : Option Addr} {T : TypeId} {y1 y : Value} (hb : u.heap[b]? = some (.cells #[.int .i64 g, .int .i64 hp, .slice q1 m1 k1, .int .i64 st, .slice q2 m2 k2] T (0, 0))) (hb' : u'.heap[b]? = some (.cells #[.int .i64 g, .int .i64 hp, y1, .int .i64 st, y] T (0, 0))) (hk : ∀ b', b' ≠ b → u'.heap[b']? = u.heap[b']?)
include hb hb' hk
theorem swap_third {b' o : Nat} {k k' : IntKind} {x x' : Int} {z : Value} (h1 : u.cell? ⟨b', o + 1, none⟩ = some (.int k x)) (h2 : u.cell? ⟨b', o + 2, none⟩ = some (.int k' x')) (h3 : u.cell? ⟨b', o + 3, none⟩ = some z) : u'.cell? ⟨b', o + 3, none⟩ = some z := by
  by_cases hne : b' = b
  · subst hne
    rw [cell_of_row _ b' _ _ _ (0, 0) hb] at h1 h2
    match o, h1, h2 with
    | 0, h1, h2 => simp at h2
    | 1, h1, h2 => simp at h1
    | 2, h1, h2 => simp at h2
    | n + 3, h1, h2 => simp at h2
  · exact (World.cell?_of_block (a := ⟨b', o + 3, none⟩) (hk b' hne)).trans h3
end
end Go.Proofs.YtbgdlokegibkmaaGreat.Visit

namespace Go.Proofs.YtbgdlokegibkmaaGreat.Visit
open Go.RowKit
open _root_.Go.Proofs.YtbgdlokegibkmaaGreat.Frame (Rw Tb Tk noRow Asked fitsTk)
open _root_.Go.Proofs.YtbgdlokegibkmaaGreat.Edge (Cf)
open _root_.Go.Proofs.YtbgdlokegibkmaaGreat.Token (tokVal Mem size_alloc box5f)
def fits18 (t : Tk) (c : Cf) (n : Nat) : Bool := fitsTk t && decide (c.zs.length ≤ 40) && decide (n ≤ 40)
set_option maxRecDepth 100000 in
set_option maxHeartbeats 4000000 in
theorem lfits_any (t : Tk) (ps p : Option Addr) (cs k : Nat) (c : Cf) (pf : Option Addr) (kf : Nat) (pa : Option Addr) (n ka : Nat) (w : World) (hn : (t.stamps.length : Int) ≤ 9223372036854775807) (hm : (t.table.rows.length : Int) ≤ 9223372036854775807) (hl : Frame.RowsAt w p t.table.rows) :
    Calls Tryz.prog 6 #[tokVal t ps cs p k, c.val pf kf, .slice pa n ka] w (Asked w (fits18 t c n)) := by
  have HF := Lib.hid (fun u (hu : Below w.heap.size w u) => Frame.fits_token t ps p cs k u hn hm (hl.below hu))
  have HR := Lib.hid (show fits18 t c n = (fitsTk t && decide (c.zs.length ≤ 40) && decide (n ≤ 40)) from rfl)
  generalize fits18 t c n = R at *
  generalize fitsTk t = fk at *
  simp only [tokVal, Cf.val]
  have M0 := Lib.hid (((Mem.start w).box #[.int .i64 t.gen, .int .i64 t.hop, .slice ps t.stamps.length cs, .int .i64 t.table.start, .slice p t.table.rows.length k] 30).box #[.int .i64 c.n, .int .i64 c.sk, .int .i64 c.tl, .int .i64 c.va, .int .i64 c.lo, .int .i64 c.he, .int .i64 c.ke, .int .i64 c.qu, .slice pf c.zs.length kf] 24)
  simp only [size_alloc] at M0
  obtain ⟨t0, t1, t2, t3, t4, -⟩ := box5f (M0.out.boxes 1 _ _ _ rfl)
  clear hl hn hm
  have hcase : fk = false ∨ (fk = true ∧ decide ((c.zs.length : Int) ≤ 40) = false ∧ ¬ (c.zs.length ≤ 40)) ∨ (fk = true ∧ decide ((c.zs.length : Int) ≤ 40) = true ∧ c.zs.length ≤ 40) := by
    cases fk
    · exact .inl rfl
    · by_cases h1 : c.zs.length ≤ 40
      · exact .inr (.inr ⟨rfl, by simp; omega, h1⟩)
      · exact .inr (.inl ⟨rfl, by simp; omega, h1⟩)
  have hn2 : decide ((n : Int) ≤ 40) = decide (n ≤ 40) := by
    by_cases h : n ≤ 40
    · rw [decide_eq_true h, decide_eq_true (by omega)]
    · rw [decide_eq_false h, decide_eq_false (by omega)]
  rcases hcase with rfl | ⟨rfl, h1, h2⟩ | ⟨rfl, h1, h2⟩
  case' inl => obtain rfl : R = false := by rw [HR.out]; simp
  case' inr.inl => obtain rfl : R = false := by rw [HR.out, decide_eq_false h2]; simp
  case' inr.inr => obtain rfl : R = decide (n ≤ 40) := by rw [HR.out, decide_eq_true h2]; simp
  all_goals
    go_enter Tryz.func6, Tryz.ntmps6
    go_wp2_with (go_at_call 29; (with_reducible refine (HF.out _ M0.out.below).mono ?_); rintro e u1 ⟨rfl, hb⟩; have M1 := Lib.hid (M0.out.on hb); obtain ⟨c0, c1, c2, c3, c4, c5, c6, c7, c8⟩ := Ledger.nine_cells (M1.out.boxes 0 _ _ _ rfl); clear hb HF)
    go_ret
    exact ⟨by first | rfl | rw [← hn2], M1.out.below⟩
/-- What a yes says. -/
theorem fits_yes {t : Tk} {c : Cf} {n : Nat} (h : fits18 t c n = true) : (t.stamps.length ≤ 100 ∧ t.table.rows.length ≤ 100 ∧ ∀ r ∈ t.table.rows, r.out.length ≤ 100) ∧ c.zs.length ≤ 40 ∧ n ≤ 40 := by
  simp only [fits18, fitsTk, Bool.and_eq_true, decide_eq_true_eq] at h
  obtain ⟨⟨⟨⟨h1, h2⟩, h3⟩, h4⟩, h5⟩ := h
  refine ⟨⟨h1, h2, fun r hr => ?_⟩, h4, h5⟩
  obtain ⟨j, hj, e⟩ := List.mem_iff_getElem.1 hr
  rw [Frame.allTo, List.all_eq_true] at h3
  have h6 := of_decide_eq_true (h3 j (List.mem_range.2 hj))
  have e2 : t.table.rows.getD j noRow = r := by simp [List.getD, hj, e]
  rw [e2] at h6
  exact h6
end Go.Proofs.YtbgdlokegibkmaaGreat.Visit
