/-
  What is asked of the program's estimates, whatever their blocks are: a predicate on memory, and what each call tells and leaves (Way13); the live question.
  A map of estimates, as the program has one: how its entries read, what it holds behind a list of notes (in whatever order), and what look-up, length, deletion and store tell and leave. No conditions beyond those that each names.
  The program's estimates in memory (Pm): their block, and the map that it has, or none; look-up, deletion, store of that map; New. No conditions beyond those that each names.
  The calls of package sat return what the plain functions of SatPlain give, and leave the world as it was; any ints, and for Add any slice whose cells are ints.
  The program's Of, keep, Note and Want, of any estimates behind up to 200 notes, and of none; any key, any numbers.
-/
import Derived.Deep.RegionHeld3
import Derived.IntWalk
import Derived.Maps.OwnSet
import Derived.WalkArith
import Derived.WalkKit
import Derived.ProofKit
import Derived.Outline
import Derived.Lib.Hide
import Derived.Deep.QuietTactic
import Derived.BigQuiet
import Derived.Lib.MinMax
import Derived.Test.YtlbpeeelgpjciaaGreatMgAe
import Derived.Test.YtlbpeeelgpjciaaGreatChecked
import Derived.Test.YtlbpeeelgpjciaaGreatMgAa
namespace Go.Proofs.YtlbpeeelgpjciaaGreat.Demand
open Go.RowKit
open _root_.Go.Proofs.YtlbpeeelgpjciaaGreat.Codec (lt_of_heap frozen_of heap_set below_new own_below)
open _root_.Go.Proofs.YtlbpeeelgpjciaaGreat.Kit (Enc Lies Own At Kept Laid Off cell_on lt_heap take_snoc below_drewN ints)

/-- The document's blocks. -/
abbrev mine : List TypeId := [58, 178]
theorem Dm.off {w w' : World} {B v : Nat} {l : List Nt} (h : Dm B w v l) (ho : Off mine w w') : Dm B w' v l := by
  obtain ⟨h0, y, h1, h2⟩ := h
  exact ⟨h0, y, ho.block v _ _ _ h1 (by simp [mine]), Own.off h2 ho (by simp [mine])⟩
abbrev Pw := Nat → World → Nat → List Nt → Prop
/-- The program's estimates move. -/
structure Moved (PW : Pw) (B : Nat) (w : World) (q : Nat) (l : List Nt) (w' : World) : Prop where
  pw : PW B w' q l
  off : Off mine w w'
  below : Below B w w'
structure Way13 (PW : Pw) : Prop where
  below : ∀ {B w q l w'}, PW B w q l → Below w.heap.size w w' → PW B w' q l
  kept : ∀ {B w q l w'}, PW B w q l → Kept [58] w w' → Below B w w' → PW B w' q l
  new : ∀ w, Calls Tryz.prog 66 #[] w fun e w' => ∃ q, e = .returned (.pointer (some ⟨q, 0, none⟩)) ∧ PW w.heap.size w' q [] ∧ Below w.heap.size w w'
  note : ∀ {B w q l}, PW B w q l → B ≤ w.heap.size → l.length ≤ 200 → ∀ key spent, Num key → Num spent → Calls Tryz.prog 60 #[.pointer (some ⟨q, 0, none⟩), .int .i64 key, .int .i64 spent] w fun e w' => e = .returned (.int .i64 (of (l ++ [⟨key, spent⟩]) key)) ∧ Moved PW B w q (l ++ [⟨key, spent⟩]) w'
  of : ∀ {B w q l}, PW B w q l → l.length ≤ 200 → ∀ key, Num key → Calls Tryz.prog 121 #[.pointer (some ⟨q, 0, none⟩), .int .i64 key] w fun e w' => e = .returned (.int .i64 (of l key)) ∧ Below w.heap.size w w'
  want : ∀ {B w q l}, PW B w q l → l.length ≤ 200 → ∀ key queued most, Num key → Num queued → Num most → Calls Tryz.prog 109 #[.pointer (some ⟨q, 0, none⟩), .int .i64 key, .int .i64 queued, .int .i64 most] w fun e w' => e = .returned (.int .i64 (want (Demand.of l key) queued most)) ∧ Below w.heap.size w w'
  keys : ∀ {B w q l}, PW B w q l → l.length ≤ 200 → Calls Tryz.prog 51 #[.pointer (some ⟨q, 0, none⟩)] w fun e w' => ∃ p c, e = .returned (.slice p (keys l).length c) ∧ Lies ints w' p (keys l) ∧ Below w.heap.size w w'
  nnote : ∀ key spent w, Calls Tryz.prog 60 #[.pointer none, .int .i64 key, .int .i64 spent] w fun e w' => e = .returned (.int .i64 0) ∧ Below w.heap.size w w'
  nof : ∀ key w, Calls Tryz.prog 121 #[.pointer none, .int .i64 key] w fun e w' => e = .returned (.int .i64 0) ∧ Below w.heap.size w w'
  nwant : ∀ key queued most w, Num queued → Num most → Calls Tryz.prog 109 #[.pointer none, .int .i64 key, .int .i64 queued, .int .i64 most] w fun e w' => e = .returned (.int .i64 (Demand.want 0 queued most)) ∧ Below w.heap.size w w'
  nkeys : ∀ w, Calls Tryz.prog 51 #[.pointer none] w fun e w' => ∃ p c, e = .returned (.slice p 0 c) ∧ Below w.heap.size w w'

theorem lay (w : World) (o : Obj) : Below w.heap.size w (w.alloc o) := (Below.refl _ w).alloc (Nat.le_refl _) o
theorem num_small {x : Int} (h : -100 ≤ x ∧ x ≤ 100) : Num x := by unfold Num; omega
def n1 : List Nt := [] ++ [⟨3, 9⟩]
def n2 : List Nt := n1 ++ [⟨3, 2⟩]
theorem al1 : Demand.of ([] ++ [⟨3, 9⟩]) 3 = 9 := by decide
theorem al2 : Demand.of (n1 ++ [⟨3, 2⟩]) 3 = 4 := by decide
theorem al3 : Demand.of n2 3 = 4 := by decide
theorem al4 : Demand.want (Demand.of n2 3) 5 7 = 7 := by decide
theorem al5 : Demand.keys n2 = [3] := by decide
end Go.Proofs.YtlbpeeelgpjciaaGreat.Demand

namespace Go.Proofs.YtlbpeeelgpjciaaGreat.Demand
open Go.RowKit Go.Maps Go.WideShapes

def dv (x : Int) : DataW Unit := .lit (.int .i64 x)
theorem dv_inj {x y : Int} (h : dv x = dv y) : x = y := by simpa [dv] using h
/-- How a map's element reads. -/
def rdi : Value → Option (DataW Unit × List MemPlace)
  | .int .i64 a => some (dv a, [])
  | _ => none
theorem rdi_val (x : Int) : rdi (.int .i64 x) = some (dv x, []) := rfl
theorem rdi_inv {v : Value} {y : DataW Unit × List MemPlace} (h : rdi v = some y) : ∃ x, v = .int .i64 x ∧ y = (dv x, []) := by
  unfold rdi at h
  split at h
  · rename_i a
    exact ⟨a, rfl, (Option.some.inj h).symm⟩
  · cases h
theorem rdi_dv {v : Value} {x : Int} {ps : List MemPlace} (h : rdi v = some (dv x, ps)) : v = .int .i64 x := by
  obtain ⟨y, rfl, e⟩ := rdi_inv h
  rw [dv_inj (congrArg Prod.fst e)]
def kl (k : Int) : Lit := .int .i64 k
theorem kl_key (k : Int) : WideAt.IsKeyLit (kl k) := by simp [kl, WideAt.IsKeyLit]
theorem kl_same (a b : Int) : (kl a).sameKey (kl b) = (a == b) := by
  simp [kl, Lit.sameKey]
  rfl
def ent (l : List Nt) (k : Int) : Lit × DataW Unit := (kl k, dv (of l k))
/-- The map holds just the estimates behind these notes. -/
def Is (D : DataW Unit) (l : List Nt) : Prop := ∃ es, D = .map es ∧ es.Perm ((keys l).map (ent l))
theorem is_nil : Is (.map []) [] := ⟨[], rfl, .nil⟩
theorem is_keys {l : List Nt} (h : keys l = []) : Is (.map []) l := ⟨[], rfl, by rw [h]; exact .nil⟩
theorem keys_apart (l : List Nt) : ((keys l).map (ent l)).Pairwise fun p q => p.1 ≠ q.1 :=
  List.pairwise_map.2 ((keys_rise l).imp fun {a b} hlt e => by simp [ent, kl] at e; omega)
theorem Is.apart {l : List Nt} {es : List (Lit × DataW Unit)} (hp : es.Perm ((keys l).map (ent l))) : es.Pairwise fun p q => p.1 ≠ q.1 :=
  (hp.pairwise_iff (fun {_ _} hne => Ne.symm hne)).2 (keys_apart l)
theorem has_one (l : List Nt) (k : Int) : ((keys l).map (ent l)).any (fun p => p.1.sameKey (kl k)) = decide (of l k ≠ 0) := by
  rw [List.any_map]
  by_cases h : of l k ≠ 0
  · rw [decide_eq_true h]
    exact List.any_eq_true.2 ⟨k, (keys_mem l k).2 h, by simp [ent, kl_same]⟩
  · rw [decide_eq_false h]
    refine List.any_eq_false.2 fun x hx => ?_
    have : x ≠ k := by rintro rfl; exact h ((keys_mem l _).1 hx)
    simp [ent, kl_same, this]
theorem Is.has {D : DataW Unit} {l : List Nt} (h : Is D l) (k : Int) : Maps.has D (kl k) = decide (of l k ≠ 0) := by
  obtain ⟨es, rfl, hp⟩ := h
  rw [Maps.has_eq, hp.any_eq, has_one]
theorem Is.at {D : DataW Unit} {l : List Nt} (h : Is D l) (k : Int) : D.atKey (kl k) (dv 0) = dv (of l k) := by
  have hh := h.has k
  obtain ⟨es, rfl, hp⟩ := h
  by_cases hpl : of l k ≠ 0
  · exact WideAt.atKey_mem _ (kl_key k) (Is.apart hp) (hp.mem_iff.2 (List.mem_map.2 ⟨k, (keys_mem l k).2 hpl, rfl⟩))
  · rw [Maps.atKey_of_not_has (by rw [hh, decide_eq_false hpl]) _]
    have : of l k = 0 := by omega
    rw [this]
theorem Is.size {D : DataW Unit} {l : List Nt} (h : Is D l) : Maps.size D = (keys l).length := by
  obtain ⟨es, rfl, hp⟩ := h
  rw [Maps.size_eq, hp.length_eq, List.length_map]
theorem not_key (l : List Nt) (k : Int) (ks : List Int) : (ks.map (ent l)).filter (fun e => !e.1.sameKey (kl k)) = (ks.filter fun x => !(x == k)).map (ent l) := by
  rw [List.filter_map]
  congr 1
  refine List.filter_congr fun x _ => ?_
  simp [ent, kl_same]
theorem ent_other (l : List Nt) (k s : Int) (ks : List Int) : (ks.filter fun x => !(x == k)).map (ent l) = (ks.filter fun x => !(x == k)).map (ent (l ++ [⟨k, s⟩])) := by
  refine List.map_congr_left fun x hx => ?_
  have hne : x ≠ k := by simpa using (List.mem_filter.1 hx).2
  unfold ent
  rw [of_other l s (Ne.symm hne)]
theorem Is.del {D : DataW Unit} {l : List Nt} (h : Is D l) {k s : Int} (h0 : of (l ++ [⟨k, s⟩]) k = 0) : Is (D.del (kl k)) (l ++ [⟨k, s⟩]) := by
  obtain ⟨es, rfl, hp⟩ := h
  refine ⟨_, DataW.del_eq _ _, ?_⟩
  rw [keys_zero l h0, ← ent_other, ← not_key]
  exact hp.filter _
theorem nodup_rise {l : List Int} (h : l.Pairwise (· < ·)) : l.Nodup := h.imp fun {a b} hab e => by rw [e] at hab; omega
theorem kput_perm (k : Int) {ks : List Int} (h : ks.Pairwise (· < ·)) : (kput k ks).Perm (k :: ks.filter fun x => !(x == k)) := by
  obtain ⟨h1, h2⟩ := kput_rise k h
  refine (List.perm_ext_iff_of_nodup (nodup_rise h1) (List.nodup_cons.2 ⟨by simp, (nodup_rise h).filter _⟩)).2 fun x => ?_
  rw [h2, List.mem_cons, List.mem_filter]
  by_cases e : x = k <;> simp [e]
theorem Is.put {D : DataW Unit} {l : List Nt} (h : Is D l) {k s : Int} (h0 : of (l ++ [⟨k, s⟩]) k ≠ 0) : Is (D.put (kl k) (dv (of (l ++ [⟨k, s⟩]) k))) (l ++ [⟨k, s⟩]) := by
  obtain ⟨es, rfl, hp⟩ := h
  refine ⟨_, DataW.put_eq _ _ _, ?_⟩
  unfold ChangeMaps.putKey
  rw [keys_some l h0]
  refine (insert_perm _ _).trans (List.Perm.trans ?_ ((kput_perm k (keys_rise l)).map _).symm)
  rw [List.map_cons]
  refine List.Perm.cons _ ?_
  rw [← ent_other, ← not_key]
  exact hp.filter _
end Go.Proofs.YtlbpeeelgpjciaaGreat.Demand

namespace Go.Proofs.YtlbpeeelgpjciaaGreat.Demand
open Go.RowKit Go.Maps
open _root_.Go.Proofs.YtlbpeeelgpjciaaGreat.Codec (lt_of_heap frozen_of heap_set below_new)
open _root_.Go.Proofs.YtlbpeeelgpjciaaGreat.Kit (Kept Off cell_on)

theorem int_key : Keyed Tryz.prog 3 := int_keyed Tryz.underlying3
theorem key_of {k : Int} (h : Num k) : keyOf Tryz.prog 3 (.int .i64 k) = some (kl k) := keyOf_int_mk Tryz.underlying3 (WalkArith.wf_i64 h)
theorem zero_map (w : World) : (zeroValue 3).run Tryz.prog w = .ok (.int .i64 0) w := by kernel_rfl

/-- The estimates' map, or none. -/
def Mw (B : Nat) (w : World) (m : Option Nat) (l : List Nt) : Prop :=
  (m = none ∧ keys l = []) ∨ ∃ b D, m = some b ∧ B ≤ b ∧ w.ownsMap Tryz.prog 3 rdi b (keys l).length D ∧ Is D l
theorem owns_size {w : World} {b n : Nat} {D : DataW Unit} (h : w.ownsMap Tryz.prog 3 rdi b n D) : w.ownsMap Tryz.prog 3 rdi b (Maps.size D) D := by
  obtain ⟨es, clock, hb, F, hs, rfl⟩ := h
  exact ⟨es, clock, hb, F, by simp [Maps.size, length_sorted], rfl⟩
theorem Mw.of {B : Nat} {w : World} {b n : Nat} {D : DataW Unit} {l : List Nt} (hB : B ≤ b) (h : w.ownsMap Tryz.prog 3 rdi b n D) (hi : Is D l) : Mw B w (some b) l :=
  .inr ⟨b, D, rfl, hB, by rw [← hi.size]; exact owns_size h, hi⟩
theorem Mw.below {B : Nat} {w w' : World} {m : Option Nat} {l : List Nt} (h : Mw B w m l) (hb : Below w.heap.size w w') : Mw B w' m l := by
  rcases h with h | ⟨b, D, rfl, hB, ho, hi⟩
  · exact .inl h
  · have hlt := ho.lt
    obtain ⟨es, clock, hh, rest⟩ := ho
    exact .inr ⟨b, D, rfl, hB, ⟨es, clock, (hb.block b hlt).trans hh, rest⟩, hi⟩
theorem Mw.map_at {B : Nat} {w : World} {b : Nat} {l : List Nt} (h : Mw B w (some b) l) : ∃ es clock, w.heap[b]? = some (.map es clock) := by
  rcases h with ⟨h, -⟩ | ⟨b, D, e, hB, ho, hi⟩
  · cases h
  · cases e
    obtain ⟨es, clock, hb, -⟩ := ho
    exact ⟨es, clock, hb⟩
theorem none_of {l : List Nt} (h : keys l = []) (k : Int) : Demand.of l k = 0 := by
  by_cases e : Demand.of l k = 0
  · exact e
  · have := (keys_mem l k).2 e
    rw [h] at this
    cases this
theorem Mw.get {B : Nat} {w : World} {m : Option Nat} {l : List Nt} (h : Mw B w m l) {k : Int} (hk : Num k) :
    (Instr.lookup 159 (.map m) (.int .i64 k) false).run Tryz.prog w = .ok (.int .i64 (Demand.of l k)) w := by
  rcases h with ⟨rfl, he⟩ | ⟨b, D, rfl, hB, ho, hi⟩
  · rw [Maps.look_nil false int_key Tryz.underlying159 (zero_map w) (key_of hk), none_of he]
    rfl
  · obtain ⟨v, ps, hrun, hv⟩ := ho.lookup int_key Tryz.underlying159 (zero_map w) (rdi_val 0) (key_of hk)
    rw [hi.at k] at hv
    obtain rfl := rdi_dv hv
    exact hrun
theorem grown_refl (w : World) (r : Option Nat) : w.grownBy w r := ⟨rfl, rfl, rfl, Nat.le_refl _, fun _ _ _ => rfl⟩
theorem Mw.cut {B : Nat} {w : World} {m : Option Nat} {l : List Nt} (h : Mw B w m l) {k s : Int} (hk : Num k) (h0 : Demand.of (l ++ [⟨k, s⟩]) k = 0) (ty : TypeId) :
    ∃ w', (Builtin.delete_ #[159, 3] ty #[.map m, .int .i64 k]).run Tryz.prog w = .ok (.tuple #[]) w' ∧ Mw B w' m (l ++ [⟨k, s⟩]) ∧ w.grownBy w' m := by
  rcases h with ⟨rfl, he⟩ | ⟨b, D, rfl, hB, ho, hi⟩
  · exact ⟨w, Maps.drop_nil int_key Tryz.underlying159 (key_of hk) ty, .inl ⟨rfl, by rw [keys_zero l h0, he]; rfl⟩, grown_refl _ _⟩
  · obtain ⟨w', hrun, ho', ht⟩ := ho.drop int_key Tryz.underlying159 (key_of hk) ty
    exact ⟨w', hrun, Mw.of hB ho' (hi.del h0), ht.grown⟩
/-- At the operation. -/
theorem step_cut {w : World} {ops : Array Oper} {rest : List Oper} {o : Oper} {a : Act} {Q : Exit → Act → World → Prop} (hg : o.guard = none) (m x : Operand)
    (hop : o.op = Op.call { callee := Callee.builtin Builtin.delete, args := #[m, x], argTypes := #[159, 3] })
    {B : Nat} {mp : Option Nat} {l : List Nt} (hm : a.eval m = .map mp) (h : Mw B w mp l) {k s : Int} (hk : Num k) (h0 : Demand.of (l ++ [⟨k, s⟩]) k = 0) (hx : a.eval x = .int .i64 k)
    (hK : ∀ w', Mw B w' mp (l ++ [⟨k, s⟩]) → w.grownBy w' mp → wpList Tryz.prog ops Q rest (a.put o.dst (.tuple #[])) w') : wpList Tryz.prog ops Q (o :: rest) a w := by
  refine wpList_plain hg fun K' hK' => ?_
  obtain ⟨w', hrun, r1, r2⟩ := h.cut hk h0 o.type
  unfold Oper.wp
  simp [execOp, hop, resolve, invoke, builtin, hm, hx, hrun, Result.andThen]
  exact hK' _ _ (hK w' r1 r2)
theorem Mw.put {B b : Nat} {w : World} {l : List Nt} (h : Mw B w (some b) l) (hn : (keys l).length < maxLen) {k s : Int} (hk : Num k) (h0 : Demand.of (l ++ [⟨k, s⟩]) k ≠ 0) :
    ∃ w', (Instr.mapUpdate 159 (.map (some b)) (.int .i64 k) (.int .i64 (Demand.of (l ++ [⟨k, s⟩]) k))).run Tryz.prog w = .ok () w' ∧ Mw B w' (some b) (l ++ [⟨k, s⟩]) ∧ w.grownBy w' (some b) := by
  rcases h with ⟨h, -⟩ | ⟨b', D, e, hB, ho, hi⟩
  · cases h
  · cases e
    obtain ⟨w', hrun, r1, r2⟩ := ho.update int_key Tryz.underlying159 hn (key_of hk) (rdi_val _)
    exact ⟨w', hrun, Mw.of hB r1 (hi.put h0), r2⟩

/-- The estimates. -/
def Pm : Pw := fun B w q l => B ≤ q ∧ ∃ m, w.heap[q]? = some (.cells #[.map m] 161 (0, 0)) ∧ Mw B w m l
section
variable {B q : Nat} {w w' : World} {l : List Nt}
theorem Pm.lt (h : Pm B w q l) : q < w.heap.size := by
  obtain ⟨_, m, h, _⟩ := h
  exact lt_of_heap h
theorem Pm.below (h : Pm B w q l) (hb : Below w.heap.size w w') : Pm B w' q l := by
  obtain ⟨h0, m, h1, h2⟩ := h
  exact ⟨h0, m, (hb.block q (lt_of_heap h1)).trans h1, h2.below hb⟩
theorem Pm.kept (h : Pm B w q l) (hk : Kept [58] w w') : Pm B w' q l := by
  obtain ⟨h0, m, h1, h2⟩ := h
  refine ⟨h0, m, hk.block q _ _ _ h1 (by decide), ?_⟩
  rcases h2 with h2 | ⟨b, D, rfl, hB, ⟨es, clock, hb, rest⟩, hi⟩
  · exact .inl h2
  · exact .inr ⟨b, D, rfl, hB, ⟨es, clock, hk.obj b _ hb (fun _ _ _ e => by cases e), rest⟩, hi⟩
/-- Their cell, and their map. -/
theorem Pm.cell (h : Pm B w q l) : ∃ m, w.cell? ⟨q, 0, none⟩ = some (.map m) ∧ w.frozen? ⟨q, 0, none⟩ = false ∧ Mw B w m l := by
  obtain ⟨_, m, h1, h2⟩ := h
  exact ⟨m, by rw [cell_of_row w q 0 _ _ (0, 0) h1]; rfl, frozen_of h1, h2⟩
/-- A step that turns the map, behind what only lays blocks. -/
theorem Pm.turned {u v : World} {m : Option Nat} {l' : List Nt} (h : Pm B w q l) (hB : B ≤ w.heap.size) (hc : w.cell? ⟨q, 0, none⟩ = some (.map m)) (hu : Below w.heap.size w u) (hm : Mw B w m l) (hv : u.grownBy v m) (hl : Mw B v m l') (hw : Below v.heap.size v w') : Moved Pm B w q l' w' := by
  obtain ⟨h0, m', h1, h2⟩ := h
  obtain rfl : m' = m := by
    rw [cell_of_row w q 0 _ _ (0, 0) h1] at hc
    simpa using hc
  have hq : q < w.heap.size := lt_of_heap h1
  have keep : ∀ (g : Nat) (cs : Array Value) (t : TypeId) (zz : Nat × Nat), w.heap[g]? = some (Obj.cells cs t zz) → w'.heap[g]? = some (Obj.cells cs t zz) := by
    intro g cs t zz e
    have hg := lt_of_heap e
    have e1 := (hu.block g hg).trans e
    have hg1 : g < u.heap.size := Nat.lt_of_lt_of_le hg hu.size
    have e2 := (hv.block g hg1 (fun ee => by
      rcases hm with ⟨rfl, -⟩ | ⟨b, D, rfl, hB', ⟨es, clock, hb, -⟩, -⟩
      · cases ee
      · cases ee
        rw [hb] at e
        cases e)).trans e1
    exact (hw.block g (Nat.lt_of_lt_of_le hg1 hv.size)).trans e2
  refine ⟨⟨h0, _, keep _ _ _ _ h1, hl.below hw⟩, ⟨Nat.le_trans hu.size (Nat.le_trans hv.size hw.size), fun g cs t zz e _ => keep g cs t zz e⟩, ?_⟩
  refine (((hu.mono hB).grown hv (Nat.le_trans hB hu.size) ?_).trans (hw.mono (Nat.le_trans hB (Nat.le_trans hu.size hv.size))))
  intro k e
  rcases hm with ⟨rfl, -⟩ | ⟨b, D, rfl, hB', -⟩
  · cases e
  · cases e
    exact hB'
/-- The first map. -/
theorem Pm.first {u v : World} {l' : List Nt} (h : Pm B w q l) (hB : B ≤ w.heap.size) (hu : Below w.heap.size w u) (hv : ((u.setCell ⟨q, 0, none⟩ (.map (some u.heap.size))).alloc (.map #[] 0)).grownBy v (some u.heap.size)) (hl : Mw B v (some u.heap.size) l') : Moved Pm B w q l' v := by
  obtain ⟨h0, m, h1, h2⟩ := h
  have hq : q < w.heap.size := lt_of_heap h1
  have hqu : q < u.heap.size := Nat.lt_of_lt_of_le hq hu.size
  have es : (u.setCell ⟨q, 0, none⟩ (.map (some u.heap.size))).heap.size = u.heap.size := by simp
  have keep : ∀ g : Nat, g < u.heap.size → v.heap[g]? = (u.setCell ⟨q, 0, none⟩ (.map (some u.heap.size))).heap[g]? := by
    intro g hg
    refine (hv.block g (by simp; omega) (fun e => by cases e; omega)).trans ?_
    exact ((Below.refl _ _).alloc (Nat.le_refl _) _).block g (by rw [es]; exact hg)
  have other : ∀ g : Nat, g < w.heap.size → g ≠ q → v.heap[g]? = w.heap[g]? := by
    intro g hg hne
    refine (keep g (Nat.lt_of_lt_of_le hg hu.size)).trans ?_
    exact (Below.heap_setCell _ _ _ _ hne).trans (hu.block g hg)
  have hqv : v.heap[q]? = some (.cells #[.map (some u.heap.size)] 161 (0, 0)) := by
    refine (keep q hqu).trans ?_
    rw [heap_set q 0 _ _ ((hu.block q hq).trans h1)]
    rfl
  refine ⟨⟨h0, _, hqv, hl⟩, ⟨?_, fun g cs t zz e ht => ?_⟩, ?_⟩
  · refine Nat.le_trans hu.size (Nat.le_trans ?_ hv.size)
    simp
  · refine (other g (lt_of_heap e) ?_).trans e
    rintro rfl
    rw [h1] at e
    cases e
    simp [mine] at ht
  · refine ((((hu.mono hB).setCell (p := ⟨q, 0, none⟩) h0 _).alloc (by rw [es]; exact Nat.le_trans hB hu.size) _).grown hv (by have := hu.size; simp; omega) ?_)
    intro k e
    cases e
    exact Nat.le_trans hB hu.size
end
theorem first_made {B q : Nat} (u : World) (hB : B ≤ u.heap.size) {l : List Nt} (hl : keys l = []) : Mw B ((u.setCell ⟨q, 0, none⟩ (.map (some u.heap.size))).alloc (.map #[] 0)) (some u.heap.size) l := by
  have h := World.ownsMap_made (u.setCell ⟨q, 0, none⟩ (.map (some u.heap.size))) Tryz.prog 3 rdi
  have es : (u.setCell ⟨q, 0, none⟩ (.map (some u.heap.size))).heap.size = u.heap.size := by simp
  rw [es] at h
  exact Mw.of hB h (is_keys hl)

set_option maxRecDepth 100000 in
theorem new_any (w : World) : Calls Tryz.prog 66 #[] w fun e w' => ∃ q, e = .returned (.pointer (some ⟨q, 0, none⟩)) ∧ Pm w.heap.size w' q [] ∧ Below w.heap.size w w' := by
  go_enter Tryz.func66, Tryz.ntmps66
  go_wp2
  go_ret
  exact ⟨_, rfl, ⟨Nat.le_refl _, none, (MapKept.heap_alloc w _).1, .inl ⟨rfl, rfl⟩⟩, (Below.refl _ w).alloc (Nat.le_refl _) _⟩
end Go.Proofs.YtlbpeeelgpjciaaGreat.Demand

namespace Go.Proofs.YtlbpeeelgpjciaaGreat.Sat
open Go.RowKit

theorem ret_int {k : IntKind} {a b : Int} (h : a = b) : Ending.returned (.int k a) = .returned (.int k b) := by rw [h]

theorem clamp_any (x lo hi : Int) (w : World) :
    Calls Tryz.prog 156 #[.int .i64 x, .int .i64 lo, .int .i64 hi] w fun e w' => e = .returned (.int .i64 (clamp x lo hi)) ∧ w = w' := by
  by_cases h1 : x < lo
  · go_enter Tryz.func156, Tryz.ntmps156
    go_wp2
    go_ret
    exact ⟨ret_int (by unfold clamp; rw [if_pos (Or.inl h1)]), rfl⟩
  · by_cases h2 : hi < lo
    · go_enter Tryz.func156, Tryz.ntmps156
      go_wp2
      go_ret
      exact ⟨ret_int (by unfold clamp; rw [if_pos (Or.inr h2)]), rfl⟩
    · by_cases h3 : hi < x
      · go_enter Tryz.func156, Tryz.ntmps156
        go_wp2
        go_ret
        exact ⟨ret_int (by unfold clamp; rw [if_neg (by omega), if_pos h3]), rfl⟩
      · go_enter Tryz.func156, Tryz.ntmps156
        go_wp2
        go_ret
        exact ⟨ret_int (by unfold clamp; rw [if_neg (by omega), if_neg (by omega)]), rfl⟩

theorem fit_any (x : Int) (w : World) :
    Calls Tryz.prog 120 #[.int .i64 x] w fun e w' => e = .returned (.int .i64 (fit x)) ∧ w = w' := by
  go_enter Tryz.func120, Tryz.ntmps120
  go_wp2_with (go_at_call 156; refine (clamp_any _ _ _ _).mono ?_; rintro e w' ⟨rfl, rfl⟩)
  go_ret
  exact ⟨ret_int (clamp_fit x), rfl⟩





theorem sum_take (l : List Int) (k : Nat) (h : k < l.length) : sum (l.take (k + 1)) = sum (l.take k) + fit (l.getD k 0) := by
  rw [List.take_succ_eq_append_getElem h, sum_append]; simp [sum, h]
theorem sum_take_le (l : List Int) (k : Nat) : sum (l.take k) ≤ sum l := by
  have h := sum_append (l.take k) (l.drop k)
  rw [List.take_append_drop] at h
  have := sum_lo (l.drop k)
  omega

/-- Add of a slice whose cells are ints. -/
theorem add_any (l : List Int) (b c : Nat) (w : World) (hl : l.length ≤ 1000)
    (hc : ∀ k : Nat, k < l.length → w.cell? ⟨b, k, none⟩ = some (.int .i64 (l.getD k 0))) :
    Calls Tryz.prog 101 #[.slice (some ⟨b, 0, none⟩) l.length c] w fun e w' => e = .returned (.int .i64 (add l)) ∧ w = w' := by
  have HC := Lib.hid hc; clear hc
  go_enter Tryz.func101, Tryz.ntmps101
  go_wp2
  go_loop [3, 9] (fun s i => ∃ k : Nat, k ≤ l.length ∧ i = .int .i64 k ∧ s = .int .i64 (sum (l.take k)) ∧ sum (l.take k) ≤ 4611686018427387904) (fun _ i => l.length - (intOf i).toNat)
  case atStart => exact ⟨0, Nat.zero_le _, rfl, rfl, by simp [sum]⟩
  case round =>
    obtain ⟨k, hk, rfl, rfl, hs⟩ := hrel
    have hs0 := sum_lo (l.take k)
    by_cases hlt : k < l.length
    · have hcell := HC.out k hlt
      have f0 := fit_lo (l.getD k 0); have f1 := fit_hi (l.getD k 0)
      have hst := sum_take l k hlt
      have hle := sum_take_le l (k + 1)
      have HS := Lib.hid hst; clear hst
      have HL := Lib.hid hle; clear hle
      generalize l.getD k 0 = x at *
      by_cases ht : 4611686018427387904 - sum (l.take k) < fit x
      · go_wp2_with (go_at_call 120; refine (fit_any _ _).mono ?_; rintro e w' ⟨rfl, rfl⟩)
        go_ret
        exact ⟨ret_int (by have h1 := HS.out; have h2 := HL.out; unfold add; rw [if_pos (by unfold top; omega)]; rfl), rfl⟩
      · go_wp2_with (go_at_call 120; refine (fit_any _ _).mono ?_; rintro e w' ⟨rfl, rfl⟩)
        go_round
        case rel => exact ⟨k + 1, by omega, by go_num, by rw [HS.out], by rw [HS.out]; omega⟩
        case measure => simp [intOf]; omega
    · go_wp2
      go_ret
      exact ⟨ret_int (by unfold add; rw [List.take_of_length_le (by omega)] at hs ⊢; rw [if_neg (by unfold top; omega)]), rfl⟩
/-- Add of two numbers, of three, in a new block. -/
theorem add2 (x y : Int) (w : World) (b : Nat) (hb : b = w.heap.size) :
    Calls Tryz.prog 101 #[.slice (some ⟨b, 0, none⟩) 2 2] (w.alloc (.cells #[.int .i64 x, .int .i64 y] 3)) fun e w' => e = .returned (.int .i64 (add [x, y])) ∧ w.alloc (.cells #[.int .i64 x, .int .i64 y] 3) = w' := by
  subst hb
  refine add_any [x, y] _ 2 _ (by simp) fun k hk => ?_
  rw [World.cell?_alloc_new]
  match k, hk with
  | 0, _ => rfl
  | 1, _ => rfl
theorem add3 (x y z : Int) (w : World) (b : Nat) (hb : b = w.heap.size) :
    Calls Tryz.prog 101 #[.slice (some ⟨b, 0, none⟩) 3 3] (w.alloc (.cells #[.int .i64 x, .int .i64 y, .int .i64 z] 3)) fun e w' => e = .returned (.int .i64 (add [x, y, z])) ∧ w.alloc (.cells #[.int .i64 x, .int .i64 y, .int .i64 z] 3) = w' := by
  subst hb
  refine add_any [x, y, z] _ 3 _ (by simp) fun k hk => ?_
  rw [World.cell?_alloc_new]
  match k, hk with
  | 0, _ => rfl
  | 1, _ => rfl
  | 2, _ => rfl
end Go.Proofs.YtlbpeeelgpjciaaGreat.Sat

namespace Go.Proofs.YtlbpeeelgpjciaaGreat.Demand
open Go.RowKit Go.Maps
open _root_.Go.Proofs.YtlbpeeelgpjciaaGreat.Codec (lt_of_heap frozen_of heap_set below_new)
open _root_.Go.Proofs.YtlbpeeelgpjciaaGreat.Kit (Kept Off cell_on)
open _root_.Go.Proofs.YtlbpeeelgpjciaaGreat.Sat (fit add fit_lo fit_hi)

theorem turn_cell {B : Nat} {u v : World} {m : Option Nat} {l : List Nt} {g : Nat} {cs : Array Value} {t : TypeId} {zz : Nat × Nat} (hg : u.grownBy v m) (hm : Mw B u m l) (h : u.heap[g]? = some (Obj.cells cs t zz)) : v.heap[g]? = some (Obj.cells cs t zz) := by
  refine (hg.block g (Codec.lt_of_heap h) fun e => ?_).trans h
  obtain ⟨es, clock, hb⟩ := Mw.map_at (e ▸ hm)
  rw [hb] at h
  cases h
theorem map_some (b : Nat) (w : World) : (binOp BinOp.eql 159 (.map (some b)) (.map none)).run Tryz.prog w = .ok (.bool false) w := by kernel_rfl
theorem map_none (w : World) : (binOp BinOp.eql 159 (.map none) (.map none)).run Tryz.prog w = .ok (.bool true) w := by kernel_rfl
set_option maxRecDepth 100000 in
theorem pof_any {B q : Nat} {w : World} {l : List Nt} (h : Pm B w q l) {k : Int} (hk : Num k) :
    Calls Tryz.prog 121 #[.pointer (some ⟨q, 0, none⟩), .int .i64 k] w fun e w' => e = .returned (.int .i64 (of l k)) ∧ Below w.heap.size w w' := by
  obtain ⟨m, hc, _, hm⟩ := h.cell
  have hl := hm.get hk
  generalize of l k = R at *
  clear h hm
  go_enter Tryz.func121, Tryz.ntmps121
  go_wp2
  go_ret
  exact ⟨rfl, Below.refl _ _⟩
set_option maxRecDepth 100000 in
theorem nof_any (k : Int) (w : World) : Calls Tryz.prog 121 #[.pointer none, .int .i64 k] w fun e w' => e = .returned (.int .i64 0) ∧ Below w.heap.size w w' := by
  go_enter Tryz.func121, Tryz.ntmps121
  go_wp2
  go_ret
  exact ⟨rfl, Below.refl _ _⟩
set_option maxRecDepth 100000 in
theorem keep_zero {B q : Nat} {w : World} {l : List Nt} (hB : B ≤ w.heap.size) (h : Pm B w q l) {k s : Int} (hk : Num k) (h0 : of (l ++ [⟨k, s⟩]) k = 0) :
    Calls Tryz.prog 122 #[.pointer (some ⟨q, 0, none⟩), .int .i64 k, .int .i64 0] w fun e w' => (∃ v, e = .returned v) ∧ Moved Pm B w q (l ++ [⟨k, s⟩]) w' := by
  obtain ⟨m, hc, _, hm⟩ := h.cell
  have HT := Lib.hid (fun v l' (hv : w.grownBy v m) (hl : Mw B v m l') => h.turned hB hc (Below.refl _ _) hm hv hl (Below.refl _ _))
  have HM := Lib.hid hm
  clear h hm
  go_enter Tryz.func122, Tryz.ntmps122
  go_wp2_with (at_delete; refine step_cut rfl _ _ rfl (mp := m) rfl HM.out hk h0 rfl ?_; intro v hv hgv)
  refine bodyPost_ret (results_none rfl _ _ _) rfl ?_
  exact ⟨⟨_, rfl⟩, HT.out _ _ hgv hv⟩
set_option maxRecDepth 100000 in
theorem keep_more {B q b : Nat} {w : World} {l : List Nt} (hB : B ≤ w.heap.size) (h : Pm B w q l) (hc : w.cell? ⟨q, 0, none⟩ = some (.map (some b))) {k s : Int} (hk : Num k) (hlen : l.length ≤ 200) (h0 : of (l ++ [⟨k, s⟩]) k ≠ 0) :
    Calls Tryz.prog 122 #[.pointer (some ⟨q, 0, none⟩), .int .i64 k, .int .i64 (of (l ++ [⟨k, s⟩]) k)] w fun e w' => (∃ v, e = .returned v) ∧ Moved Pm B w q (l ++ [⟨k, s⟩]) w' := by
  obtain ⟨m, hc', _, hm⟩ := h.cell
  obtain rfl : m = some b := by
    rw [hc] at hc'
    simpa using hc'.symm
  clear hc'
  have HT := Lib.hid (fun v l' (hv : w.grownBy v (some b)) (hl : Mw B v (some b) l') => h.turned hB hc (Below.refl _ _) hm hv hl (Below.refl _ _))
  obtain ⟨v, hrun, hv, hgv⟩ := hm.put (by have := keys_len l; unfold maxLen; omega) hk h0
  have he := map_some b
  have hne : (of (l ++ [⟨k, s⟩]) k == 0) = false := by simpa using h0
  generalize of (l ++ [⟨k, s⟩]) k = R at *
  clear h hm h0
  go_enter Tryz.func122, Tryz.ntmps122
  go_wp2
  go_end0
  exact ⟨⟨_, rfl⟩, HT.out _ _ hgv hv⟩
set_option maxRecDepth 100000 in
theorem keep_first {B q : Nat} {w : World} {l : List Nt} (hB : B ≤ w.heap.size) (h : Pm B w q l) (hc : w.cell? ⟨q, 0, none⟩ = some (.map none)) (hl : keys l = []) {k s : Int} (hk : Num k) (hlen : l.length ≤ 200) (h0 : of (l ++ [⟨k, s⟩]) k ≠ 0) :
    Calls Tryz.prog 122 #[.pointer (some ⟨q, 0, none⟩), .int .i64 k, .int .i64 (of (l ++ [⟨k, s⟩]) k)] w fun e w' => (∃ v, e = .returned v) ∧ Moved Pm B w q (l ++ [⟨k, s⟩]) w' := by
  obtain ⟨m, hc', hf, hm⟩ := h.cell
  obtain rfl : m = none := by
    rw [hc] at hc'
    simpa using hc'.symm
  clear hc'
  have hq := h.lt
  have HT := Lib.hid (fun v l' hv (hl : Mw B v (some w.heap.size) l') => h.first hB (Below.refl _ _) hv hl)
  obtain ⟨v, hrun, hv, hgv⟩ := (first_made (q := q) w hB hl).put (by have := keys_len l; unfold maxLen; omega) hk h0
  have he := map_none
  have hmm := @run_makeMap Tryz.prog
  have hne : (of (l ++ [⟨k, s⟩]) k == 0) = false := by simpa using h0
  generalize of (l ++ [⟨k, s⟩]) k = R at *
  clear h hm h0
  go_enter Tryz.func122, Tryz.ntmps122
  go_wp2
  go_end0
  exact ⟨⟨_, rfl⟩, HT.out _ _ hgv hv⟩
theorem keep_any {B q : Nat} {w : World} {l : List Nt} (h : Pm B w q l) (hB : B ≤ w.heap.size) (hlen : l.length ≤ 200) {k s : Int} (hk : Num k) :
    Calls Tryz.prog 122 #[.pointer (some ⟨q, 0, none⟩), .int .i64 k, .int .i64 (of (l ++ [⟨k, s⟩]) k)] w fun e w' => (∃ v, e = .returned v) ∧ Moved Pm B w q (l ++ [⟨k, s⟩]) w' := by
  by_cases h0 : of (l ++ [⟨k, s⟩]) k = 0
  · have := keep_zero hB h hk h0
    rwa [← h0] at this
  · obtain ⟨m, hc, -, hm⟩ := h.cell
    rcases hm with ⟨rfl, he⟩ | ⟨b, D, rfl, -⟩
    · exact keep_first hB h hc he hk hlen h0
    · exact keep_more hB h hc hk hlen h0
theorem Moved.lift {PW : Pw} {B q : Nat} {w u w' : World} {l : List Nt} (hB : B ≤ w.heap.size) (hb : Below w.heap.size w u) (h : Moved PW B u q l w') : Moved PW B w q l w' :=
  ⟨h.pw, (Off.of_below hb).trans h.off, (hb.mono hB).trans h.below⟩
set_option maxRecDepth 100000 in
set_option maxHeartbeats 1000000 in
theorem pnote_any {B q : Nat} {w : World} {l : List Nt} (h : Pm B w q l) (hB : B ≤ w.heap.size) (hlen : l.length ≤ 200) {k s : Int} (hk : Num k) :
    Calls Tryz.prog 60 #[.pointer (some ⟨q, 0, none⟩), .int .i64 k, .int .i64 s] w fun e w' => e = .returned (.int .i64 (of (l ++ [⟨k, s⟩]) k)) ∧ Moved Pm B w q (l ++ [⟨k, s⟩]) w' := by
  have c1 := fun u => _root_.Go.Proofs.YtlbpeeelgpjciaaGreat.Sat.fit_any s u
  have c2 := fun u (hu : Below w.heap.size w u) => pof_any (h.below hu) hk
  have c3 := fun u (hu : Below w.heap.size w u) => (keep_any (h.below hu) (Nat.le_trans hB hu.size) hlen (k := k) (s := s) hk).mono fun e w' ⟨he, hm⟩ => And.intro he (Moved.lift hB hu hm)
  simp only [of_same l k s] at c3 ⊢
  have n0 := of_num l k
  generalize of l k = e at *
  generalize fit s = f at *
  have HB := Lib.hid (Below.refl w.heap.size w)
  clear h
  go_enter Tryz.func60, Tryz.ntmps60
  go_wp2_with (first
    | (go_at_call 120; (with_reducible refine (c1 _).mono ?_); rintro e1 w1 ⟨rfl, rfl⟩)
    | (go_at_call 121; (with_reducible refine (c2 _ HB.out).mono ?_); rintro e1 w2 ⟨rfl, hb⟩; have HB2 := Lib.hid hb; clear hb c2)
    | (go_at_call 122; (with_reducible refine (c3 _ HB2.out).mono ?_); rintro e1 w3 ⟨⟨v3, rfl⟩, hm⟩; have HM := Lib.hid hm; clear hm c3))
  go_ret
  exact ⟨rfl, HM.out⟩
set_option maxRecDepth 100000 in
theorem nnote_any (k s : Int) (w : World) : Calls Tryz.prog 60 #[.pointer none, .int .i64 k, .int .i64 s] w fun e w' => e = .returned (.int .i64 0) ∧ Below w.heap.size w w' := by
  go_enter Tryz.func60, Tryz.ntmps60
  go_wp2
  go_ret
  exact ⟨rfl, Below.refl _ _⟩
set_option maxRecDepth 100000 in
set_option maxHeartbeats 1000000 in
theorem want_core (v : Value) (k e qd most : Int) (w : World) (c1 : Calls Tryz.prog 121 #[v, .int .i64 k] w fun e' w' => e' = .returned (.int .i64 e) ∧ Below w.heap.size w w') :
    Calls Tryz.prog 109 #[v, .int .i64 k, .int .i64 qd, .int .i64 most] w fun e' w' => e' = .returned (.int .i64 (want e qd most)) ∧ Below w.heap.size w w' := by
  have c2 := fun u => _root_.Go.Proofs.YtlbpeeelgpjciaaGreat.Sat.add2 e qd u _ rfl
  have c3 := fun u => _root_.Go.Proofs.YtlbpeeelgpjciaaGreat.Sat.fit_any most u
  have HX := Lib.hid (show min (add [e, qd]) (fit most) = want e qd most from rfl)
  generalize want e qd most = R at *
  generalize add [e, qd] = a at *
  generalize fit most = b at *
  go_enter Tryz.func109, Tryz.ntmps109
  go_wp2_with (first
    | (go_at_call 120; (with_reducible refine (c3 _).mono ?_); rintro e1 w1 ⟨rfl, rfl⟩)
    | (go_at_call 121; (with_reducible refine c1.mono ?_); rintro e1 w2 ⟨rfl, hb⟩; have HB2 := Lib.hid hb; clear hb c1)
    | (go_at_call 101; (with_reducible refine (c2 _).mono ?_); rintro e1 w3 ⟨rfl, rfl⟩))
  go_ret
  exact ⟨by simp; exact HX.out, HB2.out.alloc HB2.out.size _⟩
theorem pwant_any {B q : Nat} {w : World} {l : List Nt} (h : Pm B w q l) {k : Int} (hk : Num k) (qd most : Int) :
    Calls Tryz.prog 109 #[.pointer (some ⟨q, 0, none⟩), .int .i64 k, .int .i64 qd, .int .i64 most] w fun e' w' => e' = .returned (.int .i64 (want (of l k) qd most)) ∧ Below w.heap.size w w' :=
  want_core _ k _ qd most w (pof_any h hk)
theorem nwant_any (k qd most : Int) (w : World) :
    Calls Tryz.prog 109 #[.pointer none, .int .i64 k, .int .i64 qd, .int .i64 most] w fun e' w' => e' = .returned (.int .i64 (want 0 qd most)) ∧ Below w.heap.size w w' :=
  want_core _ k _ qd most w (nof_any k w)
end Go.Proofs.YtlbpeeelgpjciaaGreat.Demand
