/-
  A map of leases, as the program's wallet has one: how its entries read, what it holds of a list of leases (in whatever order), and what look-up, length, deletion and store tell and leave. No conditions beyond those that each names.
  The program's wallet in memory (Pm): its block, and the map that it has, or none; look-up, length, deletion of that map. No conditions beyond those that each names.
  of, Left, fresh, Close, and their nil receivers: of any wallet of leases that rise by keys; any key, any reading.
  Put of any wallet of leases that rise by keys, and of none; any lease.
  Words for memory: ints, leases and rows that lie ahead of a block, or in blocks of a type; what of them stays behind a call. No condition beyond those that each names.
-/
import Derived.Lib.SlMapFilter
import Derived.Maps.OwnSet
import Derived.WalkArith
import Derived.Test.YtbgdlokegibkmaaGreatMmAc
namespace Go.Proofs.YtbgdlokegibkmaaGreat.Lease
open Go.RowKit Go.Maps Go.WideShapes
def dat (x : Lz) : DataW Unit := .agg [.lit (.int .i64 x.key), .lit (.int .i64 x.gen), .lit (.int .i64 x.amount), .lit (.int .i64 x.spent), .lit (.int .i64 x.til)]
theorem dat_inj {x y : Lz} (h : dat x = dat y) : x = y := by
  cases x; cases y
  simp [dat] at h
  obtain ⟨rfl, rfl, rfl, rfl, rfl⟩ := h
  rfl
/-- How a map's element reads. -/
def rdz : Value → Option (DataW Unit × List MemPlace)
  | .agg cs => match cs.toList with
    | [.int .i64 a, .int .i64 b, .int .i64 c, .int .i64 d, .int .i64 e] => some (dat ⟨a, b, c, d, e⟩, [])
    | _ => none
  | _ => none
theorem rdz_val (x : Lz) : rdz (val x) = some (dat x, []) := rfl
theorem rdz_inv {v : Value} {y : DataW Unit × List MemPlace} (h : rdz v = some y) : ∃ x, v = val x ∧ y = (dat x, []) := by
  unfold rdz at h
  split at h
  · rename_i cs
    split at h
    · rename_i a b c d e hc
      refine ⟨⟨a, b, c, d, e⟩, ?_, (Option.some.inj h).symm⟩
      have : cs = #[.int .i64 a, .int .i64 b, .int .i64 c, .int .i64 d, .int .i64 e] := by
        apply Array.toList_inj.1
        rw [hc]
      rw [this]
      rfl
    · cases h
  · cases h
theorem rdz_dat {v : Value} {x : Lz} {ps : List MemPlace} (h : rdz v = some (dat x, ps)) : v = val x := by
  obtain ⟨y, rfl, e⟩ := rdz_inv h
  rw [dat_inj (congrArg Prod.fst e)]
def kl (k : Int) : Lit := .int .i64 k
theorem kl_key (k : Int) : WideAt.IsKeyLit (kl k) := by simp [kl, WideAt.IsKeyLit]
theorem kl_same (a b : Int) : (kl a).sameKey (kl b) = (a == b) := by
  simp [kl, Lit.sameKey]
  rfl
def ent (x : Lz) : Lit × DataW Unit := (kl x.key, dat x)
/-- The map holds just these leases. -/
def Is (D : DataW Unit) (l : List Lz) : Prop := ∃ es, D = .map es ∧ es.Perm (l.map ent)
def Rise (l : List Lz) : Prop := l.Pairwise fun a b => a.key < b.key
/-- A key's lease, or the zero one. -/
def found (l : List Lz) (k : Int) : Lz := if 0 ≤ place l k then the l k else z
theorem is_nil : Is (.map []) [] := ⟨[], rfl, .nil⟩
theorem apart {l : List Lz} (h : Rise l) : (l.map ent).Pairwise fun p q => p.1 ≠ q.1 :=
  List.pairwise_map.2 (h.imp fun {a b} hlt e => by simp [ent, kl] at e; omega)
theorem Is.apart {l : List Lz} {es : List (Lit × DataW Unit)} (hp : es.Perm (l.map ent)) (h : Rise l) : es.Pairwise fun p q => p.1 ≠ q.1 :=
  (hp.pairwise_iff (fun {_ _} hne => Ne.symm hne)).2 (Lease.apart h)
theorem has_one {l : List Lz} (k : Int) : (l.map ent).any (fun p => p.1.sameKey (kl k)) = decide (0 ≤ place l k) := by
  rw [List.any_map]
  by_cases h : 0 ≤ place l k
  · obtain ⟨_, hk, hm⟩ := place_some h
    rw [decide_eq_true h]
    exact List.any_eq_true.2 ⟨_, hm, by simp [ent, kl_same, hk]⟩
  · rw [decide_eq_false h]
    refine List.any_eq_false.2 fun x hx => ?_
    have := place_none (l := l) (k := k) (by omega) x hx
    simp [ent, kl_same, this]
theorem Is.has {D : DataW Unit} {l : List Lz} (h : Is D l) (k : Int) : Maps.has D (kl k) = decide (0 ≤ place l k) := by
  obtain ⟨es, rfl, hp⟩ := h
  rw [Maps.has_eq, hp.any_eq, has_one]
theorem Is.at {D : DataW Unit} {l : List Lz} (h : Is D l) (hr : Rise l) (k : Int) : D.atKey (kl k) (dat z) = dat (found l k) := by
  have hh := h.has k
  obtain ⟨es, rfl, hp⟩ := h
  unfold found
  by_cases hpl : 0 ≤ place l k
  · rw [if_pos hpl]
    obtain ⟨_, hk, hm⟩ := place_some hpl
    refine WideAt.atKey_mem _ (kl_key k) (Is.apart hp hr) (hp.mem_iff.2 (List.mem_map.2 ⟨_, hm, ?_⟩))
    simp [ent, hk]
  · rw [if_neg hpl]
    exact Maps.atKey_of_not_has (by rw [hh, decide_eq_false hpl]) _
theorem Is.size {D : DataW Unit} {l : List Lz} (h : Is D l) : Maps.size D = l.length := by
  obtain ⟨es, rfl, hp⟩ := h
  rw [Maps.size_eq, hp.length_eq, List.length_map]
theorem ins_perm (x : Lz) : ∀ l : List Lz, (ins x l).Perm (x :: l)
  | [] => .refl _
  | y :: l => by
    unfold ins
    split
    · exact .refl _
    · exact ((ins_perm x l).cons y).trans (.swap x y l)
theorem not_key {l : List Lz} (k : Int) (p : Lz → Bool) (hp : ∀ x, p x = !(x.key == k)) : (l.map ent).filter (fun e => !e.1.sameKey (kl k)) = (l.filter p).map ent := by
  rw [List.filter_map]
  congr 1
  refine List.filter_congr fun x _ => ?_
  simp [ent, kl_same, hp]
theorem erase_filter {k : Int} : ∀ {l : List Lz} (j : Nat), Rise l → (∀ hj : j < l.length, l[j].key = k) → j < l.length → l.filter (fun x => !(x.key == k)) = l.eraseIdx j
  | [], _, _, _, hj => by simp at hj
  | x :: l, 0, h, hk, _ => by
    have hx : x.key = k := by simpa using hk
    have h' := (List.pairwise_cons.1 h).1
    rw [List.filter_cons_of_neg (by simp [hx])]
    exact List.filter_eq_self.2 fun y hy => by have := h' y hy; have : y.key ≠ k := by omega
                                               simp [this]
  | x :: l, j + 1, h, hk, hj => by
    have h' := List.pairwise_cons.1 h
    have hj' : j < l.length := by simpa using hj
    have hk' : l[j].key = k := hk hj
    have hx : x.key < k := by rw [← hk']; exact h'.1 _ (List.getElem_mem hj')
    have hne : (x.key == k) = false := by simp; omega
    rw [List.filter_cons_of_pos (by simp [hne]), List.eraseIdx_cons_succ]
    congr 1
    exact erase_filter j h'.2 (fun _ => hk') hj'
theorem gone_is {l : List Lz} (h : Rise l) (k : Int) : l.filter (fun x => !(x.key == k)) = if place l k < 0 then l else l.eraseIdx (place l k).toNat := by
  split
  · rename_i hn
    exact List.filter_eq_self.2 fun y hy => by have := place_none hn y hy; simp [this]
  · rename_i hn
    obtain ⟨hj, hk, hm⟩ := place_some (l := l) (k := k) (by omega)
    have hx : the l k = l[(place l k).toNat] := by unfold the; simp [List.getD, hj]
    exact erase_filter _ h (fun _ => by rw [← hx]; exact hk) hj
theorem Is.del {D : DataW Unit} {l : List Lz} (h : Is D l) (hr : Rise l) (k : Int) : Is (D.del (kl k)) (if place l k < 0 then l else l.eraseIdx (place l k).toNat) := by
  obtain ⟨es, rfl, hp⟩ := h
  refine ⟨_, DataW.del_eq _ _, ?_⟩
  rw [← gone_is hr, ← not_key k _ (fun _ => rfl)]
  exact hp.filter _
theorem Is.put {D : DataW Unit} {l : List Lz} (h : Is D l) {x : Lz} (hn : place l x.key < 0) : Is (D.put (kl x.key) (dat x)) (ins x l) := by
  obtain ⟨es, rfl, hp⟩ := h
  refine ⟨_, DataW.put_eq _ _ _, ?_⟩
  unfold ChangeMaps.putKey
  refine (insert_perm _ _).trans (List.Perm.trans ?_ ((ins_perm x l).map ent).symm)
  have : es.filter (ChangeMaps.notKey (kl x.key)) = es := List.filter_eq_self.2 fun p hp' => by
    obtain ⟨y, hy, rfl⟩ := List.mem_map.1 (hp.mem_iff.1 hp')
    have := place_none hn y hy
    simp [ChangeMaps.notKey, ent, kl_same, this]
  rw [this]
  exact hp.cons _
theorem set_perm {α : Type} (y : α) : ∀ (l : List α) (j : Nat), j < l.length → (l.set j y).Perm (y :: l.eraseIdx j)
  | [], _, h => by simp at h
  | x :: l, 0, _ => by simp
  | x :: l, j + 1, h => by
    simp only [List.set_cons_succ, List.eraseIdx_cons_succ]
    exact ((set_perm y l j (by simpa using h)).cons x).trans (.swap y x _)
theorem Is.more {D : DataW Unit} {l : List Lz} (h : Is D l) (hr : Rise l) {y : Lz} (hp : 0 ≤ place l y.key) : Is (D.put (kl y.key) (dat y)) (l.set (place l y.key).toNat y) := by
  obtain ⟨hj, _, _⟩ := place_some hp
  obtain ⟨es, rfl, hpm⟩ := h
  refine ⟨_, DataW.put_eq _ _ _, ?_⟩
  unfold ChangeMaps.putKey
  refine (insert_perm _ _).trans (List.Perm.trans ?_ ((set_perm y l _ hj).map ent).symm)
  have hg := gone_is hr y.key
  rw [if_neg (by omega)] at hg
  rw [List.map_cons, ← hg, ← not_key y.key _ (fun _ => rfl)]
  exact (hpm.filter _).cons _
theorem Is.drop {D : DataW Unit} {l : List Lz} (h : Is D l) (pd : Lit → DataW Unit → Bool) (p : Lz → Bool) (hp : ∀ x, pd (kl x.key) (dat x) = p x) : Is (Lib.deleteFuncD pd D) (l.filter fun x => !p x) := by
  obtain ⟨es, rfl, hpm⟩ := h
  refine ⟨_, rfl, (hpm.filter _).trans ?_⟩
  rw [List.filter_map]
  refine .of_eq ?_
  congr 1
  exact List.filter_congr fun x _ => by simp [ent, hp]
end Go.Proofs.YtbgdlokegibkmaaGreat.Lease

namespace Go.Proofs.YtbgdlokegibkmaaGreat.Lease
open Go.RowKit Go.Maps
open _root_.Go.Proofs.YtbgdlokegibkmaaGreat.Codec (lt_of_heap frozen_of heap_set)
theorem int_key : Keyed Tryz.prog 3 := int_keyed Tryz.underlying3
theorem key_of {k : Int} (h : Num k) : keyOf Tryz.prog 3 (.int .i64 k) = some (kl k) := keyOf_int_mk Tryz.underlying3 (WalkArith.wf_i64 h)
theorem zero_map (w : World) : (zeroValue 135).run Tryz.prog w = .ok (val z) w := by kernel_rfl
/-- A wallet's map, or none. -/
def Mw (B : Nat) (w : World) (m : Option Nat) (l : List Lz) : Prop :=
  (m = none ∧ l = []) ∨ ∃ b D, m = some b ∧ B ≤ b ∧ w.ownsMap Tryz.prog 3 rdz b l.length D ∧ Is D l
theorem owns_size {w : World} {b n : Nat} {D : DataW Unit} (h : w.ownsMap Tryz.prog 3 rdz b n D) : w.ownsMap Tryz.prog 3 rdz b (Maps.size D) D := by
  obtain ⟨es, clock, hb, F, hs, rfl⟩ := h
  exact ⟨es, clock, hb, F, by simp [Maps.size, length_sorted], rfl⟩
theorem Mw.of {B : Nat} {w : World} {b n : Nat} {D : DataW Unit} {l : List Lz} (hB : B ≤ b) (h : w.ownsMap Tryz.prog 3 rdz b n D) (hi : Is D l) : Mw B w (some b) l :=
  .inr ⟨b, D, rfl, hB, by rw [← hi.size]; exact owns_size h, hi⟩
theorem Mw.below {B : Nat} {w w' : World} {m : Option Nat} {l : List Lz} (h : Mw B w m l) (hb : Below w.heap.size w w') : Mw B w' m l := by
  rcases h with h | ⟨b, D, rfl, hB, ho, hi⟩
  · exact .inl h
  · have hlt := ho.lt
    obtain ⟨es, clock, hh, rest⟩ := ho
    exact .inr ⟨b, D, rfl, hB, ⟨es, clock, (hb.block b hlt).trans hh, rest⟩, hi⟩
theorem Mw.map_at {B : Nat} {w : World} {b : Nat} {l : List Lz} (h : Mw B w (some b) l) : ∃ es clock, w.heap[b]? = some (.map es clock) := by
  rcases h with ⟨h, -⟩ | ⟨b, D, e, hB, ho, hi⟩
  · cases h
  · cases e
    obtain ⟨es, clock, hb, -⟩ := ho
    exact ⟨es, clock, hb⟩
theorem Mw.look {B : Nat} {w : World} {m : Option Nat} {l : List Lz} (h : Mw B w m l) (hr : Rise l) {k : Int} (hk : Num k) :
    (Instr.lookup 192 (.map m) (.int .i64 k) true).run Tryz.prog w = .ok (.tuple #[val (found l k), .bool (decide (0 ≤ place l k))]) w := by
  rcases h with ⟨rfl, rfl⟩ | ⟨b, D, rfl, hB, ho, hi⟩
  · rw [Maps.look_nil true int_key Tryz.underlying192 (zero_map w) (key_of hk)]
    rfl
  · obtain ⟨v, ps, hrun, hv⟩ := ho.look_ok int_key Tryz.underlying192 (zero_map w) (rdz_val z) (key_of hk)
    rw [hi.at hr k] at hv
    obtain rfl := rdz_dat hv
    rw [hrun, hi.has k]
theorem Mw.get {B : Nat} {w : World} {m : Option Nat} {l : List Lz} (h : Mw B w m l) (hr : Rise l) {k : Int} (hk : Num k) :
    (Instr.lookup 192 (.map m) (.int .i64 k) false).run Tryz.prog w = .ok (val (found l k)) w := by
  rcases h with ⟨rfl, rfl⟩ | ⟨b, D, rfl, hB, ho, hi⟩
  · rw [Maps.look_nil false int_key Tryz.underlying192 (zero_map w) (key_of hk)]
    rfl
  · obtain ⟨v, ps, hrun, hv⟩ := ho.lookup int_key Tryz.underlying192 (zero_map w) (rdz_val z) (key_of hk)
    rw [hi.at hr k] at hv
    obtain rfl := rdz_dat hv
    exact hrun
theorem Mw.len {B : Nat} {w : World} {m : Option Nat} {l : List Lz} (h : Mw B w m l) (ty : TypeId) : (Builtin.len_ #[192] ty #[.map m]).run Tryz.prog w = .ok (.int .i64 l.length) w := by
  rcases h with ⟨rfl, rfl⟩ | ⟨b, D, rfl, hB, ho, hi⟩
  · exact Maps.len_nil Tryz.underlying192 ty
  · rw [ho.len Tryz.underlying192 ty, hi.size]
/-- Without a key's. -/
def without (l : List Lz) (k : Int) : List Lz := if place l k < 0 then l else l.eraseIdx (place l k).toNat
theorem grown_refl (w : World) (r : Option Nat) : w.grownBy w r := ⟨rfl, rfl, rfl, Nat.le_refl _, fun _ _ _ => rfl⟩
theorem Mw.cut {B : Nat} {w : World} {m : Option Nat} {l : List Lz} (h : Mw B w m l) (hr : Rise l) {k : Int} (hk : Num k) (ty : TypeId) :
    ∃ w', (Builtin.delete_ #[192, 3] ty #[.map m, .int .i64 k]).run Tryz.prog w = .ok (.tuple #[]) w' ∧ Mw B w' m (without l k) ∧ w.grownBy w' m := by
  rcases h with ⟨rfl, rfl⟩ | ⟨b, D, rfl, hB, ho, hi⟩
  · exact ⟨w, Maps.drop_nil int_key Tryz.underlying192 (key_of hk) ty, .inl ⟨rfl, rfl⟩, grown_refl _ _⟩
  · obtain ⟨w', hrun, ho', ht⟩ := ho.drop int_key Tryz.underlying192 (key_of hk) ty
    exact ⟨w', hrun, Mw.of hB ho' (hi.del hr k), ht.grown⟩
/-- At the operation. -/
theorem step_cut {w : World} {ops : Array Oper} {rest : List Oper} {o : Oper} {a : Act} {Q : Exit → Act → World → Prop} (hg : o.guard = none) (m x : Operand)
    (hop : o.op = Op.call { callee := Callee.builtin Builtin.delete, args := #[m, x], argTypes := #[192, 3] })
    {B : Nat} {mp : Option Nat} {l : List Lz} (hm : a.eval m = .map mp) (h : Mw B w mp l) (hr : Rise l) {k : Int} (hk : Num k) (hx : a.eval x = .int .i64 k)
    (hK : ∀ w', Mw B w' mp (without l k) → w.grownBy w' mp → wpList Tryz.prog ops Q rest (a.put o.dst (.tuple #[])) w') : wpList Tryz.prog ops Q (o :: rest) a w := by
  refine wpList_plain hg fun K' hK' => ?_
  obtain ⟨w', hrun, r1, r2⟩ := h.cut hr hk o.type
  unfold Oper.wp
  simp [execOp, hop, resolve, invoke, builtin, hm, hx, hrun, Result.andThen]
  exact hK' _ _ (hK w' r1 r2)
theorem Mw.put {B b : Nat} {w : World} {l : List Lz} (h : Mw B w (some b) l) (hr : Rise l) (hn : l.length < maxLen) (y : Lz) (hk : Num y.key) :
    ∃ w', (Instr.mapUpdate 192 (.map (some b)) (.int .i64 y.key) (val y)).run Tryz.prog w = .ok () w' ∧ Mw B w' (some b) (if place l y.key < 0 then ins y l else l.set (place l y.key).toNat y) ∧ w.grownBy w' (some b) := by
  rcases h with ⟨h, -⟩ | ⟨b', D, e, hB, ho, hi⟩
  · cases h
  · cases e
    obtain ⟨w', hrun, r1, r2⟩ := ho.update int_key Tryz.underlying192 hn (key_of hk) (rdz_val y)
    refine ⟨w', hrun, Mw.of hB r1 ?_, r2⟩
    split
    · rename_i h0
      exact hi.put h0
    · rename_i h0
      exact hi.more hr (by omega)
/-- The wallet. -/
def Pm : Pw := fun B w q l => B ≤ q ∧ ∃ m, w.heap[q]? = some (.cells #[.map m] 194 (0, 0)) ∧ Mw B w m l
section
variable {B q : Nat} {w w' : World} {l : List Lz}
theorem Pm.lt (h : Pm B w q l) : q < w.heap.size := by
  obtain ⟨_, m, h, _⟩ := h
  exact lt_of_heap h
theorem Pm.below (h : Pm B w q l) (hb : Below w.heap.size w w') : Pm B w' q l := by
  obtain ⟨h0, m, h1, h2⟩ := h
  exact ⟨h0, m, (hb.block q (lt_of_heap h1)).trans h1, h2.below hb⟩
/-- The wallet's cell, and its map. -/
theorem Pm.cell (h : Pm B w q l) : ∃ m, w.cell? ⟨q, 0, none⟩ = some (.map m) ∧ w.frozen? ⟨q, 0, none⟩ = false ∧ Mw B w m l := by
  obtain ⟨_, m, h1, h2⟩ := h
  exact ⟨m, by rw [cell_of_row w q 0 _ _ (0, 0) h1]; rfl, frozen_of h1, h2⟩
/-- A step that leaves the wallet as it was. -/
theorem Pm.same (h : Pm B w q l) (hB : B ≤ w.heap.size) (hb : Below w.heap.size w w') : Moved Pm B w q l w' :=
  ⟨h.below hb, ⟨hb.size, fun g _ _ _ e _ => (hb.block g (lt_of_heap e)).trans e⟩, hb.mono hB⟩
/-- A step that turns the map, behind what only lays blocks. -/
theorem Pm.turned {u v : World} {m : Option Nat} {l' : List Lz} (h : Pm B w q l) (hB : B ≤ w.heap.size) (hc : w.cell? ⟨q, 0, none⟩ = some (.map m)) (hu : Below w.heap.size w u) (hm : Mw B w m l) (hv : u.grownBy v m) (hl : Mw B v m l') (hw : Below v.heap.size v w') : Moved Pm B w q l' w' := by
  obtain ⟨h0, m', h1, h2⟩ := h
  obtain rfl : m' = m := by
    rw [cell_of_row w q 0 _ _ (0, 0) h1] at hc
    simpa using hc
  have hq : q < w.heap.size := lt_of_heap h1
  have keep : ∀ (g : Nat) (cs : Array Value) (t : TypeId) (zz : Nat × Nat), w.heap[g]? = some (Obj.cells cs t zz) → w'.heap[g]? = some (Obj.cells cs t zz) := by
    intro g cs t zz e
    have hg := lt_of_heap e
    have e1 := (hu.block g hg).trans e
    have hg1 : g < u.heap.size := Nat.lt_of_lt_of_le hg hu.size
    have e2 := (hv.block g hg1 (fun ee => by
      rcases hm with ⟨rfl, -⟩ | ⟨b, D, rfl, hB', ⟨es, clock, hb, -⟩, -⟩
      · cases ee
      · cases ee
        rw [hb] at e
        cases e)).trans e1
    exact (hw.block g (Nat.lt_of_lt_of_le hg1 hv.size)).trans e2
  refine ⟨⟨h0, _, keep _ _ _ _ h1, hl.below hw⟩, ⟨Nat.le_trans hu.size (Nat.le_trans hv.size hw.size), fun g cs t zz e _ => keep g cs t zz e⟩, ?_⟩
  refine (((hu.mono hB).grown hv (Nat.le_trans hB hu.size) ?_).trans (hw.mono (Nat.le_trans hB (Nat.le_trans hu.size hv.size))))
  intro k e
  rcases hm with ⟨rfl, -⟩ | ⟨b, D, rfl, hB', -⟩
  · cases e
  · cases e
    exact hB'
end
set_option maxRecDepth 100000 in
theorem new_any (w : World) : Calls Tryz.prog 77 #[] w fun e w' => ∃ q, e = .returned (.pointer (some ⟨q, 0, none⟩)) ∧ Pm w.heap.size w' q [] ∧ Below w.heap.size w w' := by
  go_enter Tryz.func77, Tryz.ntmps77
  go_wp2
  go_ret
  exact ⟨_, rfl, ⟨Nat.le_refl _, none, (MapKept.heap_alloc w _).1, .inl ⟨rfl, rfl⟩⟩, (Below.refl _ w).alloc (Nat.le_refl _) _⟩
end Go.Proofs.YtbgdlokegibkmaaGreat.Lease

namespace Go.Proofs.YtbgdlokegibkmaaGreat.Lease
open Go.RowKit Go.Maps
theorem lay (w : World) (o : Obj) : Below w.heap.size w (w.alloc o) := (Below.refl _ w).alloc (Nat.le_refl _) o
theorem lay2 (w : World) (o o' : Obj) : Below w.heap.size w ((w.alloc o).alloc o') := (lay w o).alloc (lay w o).size o'
set_option maxRecDepth 100000 in
set_option maxHeartbeats 1000000 in
theorem of_core (q : Nat) (m : Option Nat) (k : Int) (x : Lz) (h : Bool) (w : World) (hc : w.cell? ⟨q, 0, none⟩ = some (.map m)) (hq : q < w.heap.size)
    (hl : ∀ o, (Instr.lookup 192 (.map m) (.int .i64 k) true).run Tryz.prog (w.alloc o) = .ok (.tuple #[val x, .bool h]) (w.alloc o)) :
    Calls Tryz.prog 183 #[.pointer (some ⟨q, 0, none⟩), .int .i64 k] w fun e w' => e = .returned (.tuple #[val x, .bool h]) ∧ Below w.heap.size w w' := by
  simp only [val] at hl ⊢
  go_enter Tryz.func183, Tryz.ntmps183
  go_wp2
  refine bodyPost_ret (v := .tuple #[.agg #[.int .i64 x.key, .int .i64 x.gen, .int .i64 x.amount, .int .i64 x.spent, .int .i64 x.til], .bool h]) (by simp [results, Tryz.results183, go_sem]) rfl ⟨rfl, ?_⟩
  exact lay2 _ _ _
theorem pof_any {B q : Nat} {w : World} {l : List Lz} (h : Pm B w q l) (hr : Rise l) {k : Int} (hk : Num k) :
    Calls Tryz.prog 183 #[.pointer (some ⟨q, 0, none⟩), .int .i64 k] w fun e w' => e = .returned (.tuple #[val (found l k), .bool (decide (0 ≤ place l k))]) ∧ Below w.heap.size w w' := by
  obtain ⟨m, hc, _, hm⟩ := h.cell
  exact of_core q m k _ _ w hc h.lt fun o => (hm.below (lay w o)).look hr hk
set_option maxRecDepth 100000 in
set_option maxHeartbeats 1000000 in
theorem left_core (v : Value) (k now : Int) (x : Lz) (h : Bool) (w : World) (hs : -9223372036854775808 ≤ x.amount - x.spent ∧ x.amount - x.spent ≤ 9223372036854775807)
    (ho : Calls Tryz.prog 183 #[v, .int .i64 k] w fun e w' => e = .returned (.tuple #[val x, .bool h]) ∧ Below w.heap.size w w') :
    Calls Tryz.prog 139 #[v, .int .i64 k, .int .i64 now] w fun e w' => e = .returned (.int .i64 (if x.til ≤ now then 0 else x.amount - x.spent)) ∧ Below w.heap.size w w' := by
  obtain ⟨key, gen, amount, spent, til⟩ := x
  simp only [val] at ho hs ⊢
  have hd : IntKind.i64.wrap (amount - spent) = amount - spent := IntWalk.i64_in _ hs
  clear hs
  by_cases hn : til ≤ now
  · rw [if_pos hn]
    go_enter Tryz.func139, Tryz.ntmps139
    go_wp2_with (go_at_call 183; refine ho.mono ?_; clear ho; rintro e u ⟨rfl, hb⟩)
    go_ret
    exact ⟨rfl, hb.alloc hb.size _⟩
  · rw [if_neg hn]
    go_enter Tryz.func139, Tryz.ntmps139
    go_wp2_with (go_at_call 183; refine ho.mono ?_; clear ho; rintro e u ⟨rfl, hb⟩)
    go_ret
    exact ⟨by simp [], hb.alloc hb.size _⟩
theorem found_good {l : List Lz} (h : Good l) (k : Int) : 0 ≤ (found l k).spent ∧ (found l k).spent ≤ (found l k).amount ∧ Nums (found l k) := by
  unfold found
  split
  · rename_i hp
    exact h.each _ (place_some hp).2.2
  · refine ⟨by decide, by decide, ?_⟩
    unfold Nums Num z
    simp
theorem left_found (l : List Lz) (k now : Int) : (if (found l k).til ≤ now then 0 else (found l k).amount - (found l k).spent) = left l k now := by
  unfold left found
  by_cases hp : 0 ≤ place l k
  · rw [if_pos hp]
    by_cases hn : (the l k).til ≤ now
    · rw [if_pos hn, if_pos (.inr hn)]
    · rw [if_neg hn, if_neg (by omega)]
  · rw [if_neg hp, if_pos (Or.inl (by omega) : place l k < 0 ∨ (the l k).til ≤ now)]
    split <;> rfl
theorem pleft_any {B q : Nat} {w : World} {l : List Lz} (h : Pm B w q l) (hg : Good l) {k now : Int} (hk : Num k) :
    Calls Tryz.prog 139 #[.pointer (some ⟨q, 0, none⟩), .int .i64 k, .int .i64 now] w fun e w' => e = .returned (.int .i64 (left l k now)) ∧ Below w.heap.size w w' := by
  have hf := found_good hg k
  rw [← left_found]
  exact left_core _ k now _ _ w (by unfold Nums Num at hf; omega) (pof_any h hg.rise hk)
set_option maxRecDepth 100000 in
set_option maxHeartbeats 1000000 in
theorem fresh_any (x : Lz) (w : World) : Calls Tryz.prog 229 #[val x] w fun e w' => e = .returned (.bool (!decide (wrong x))) ∧ Below w.heap.size w w' := by
  obtain ⟨key, gen, amount, spent, til⟩ := x
  simp only [val, wrong]
  rcases Int.lt_or_le gen 1 with h1 | h1
  · have e : decide (gen < 1 ∨ amount < 1 ∨ spent ≠ 0 ∨ til < 0) = true := decide_eq_true (.inl h1)
    rw [e]
    clear e
    go_enter Tryz.func229, Tryz.ntmps229
    go_wp2
    go_ret
    exact ⟨rfl, lay _ _⟩
  rcases Int.lt_or_le amount 1 with h2 | h2
  · have e : decide (gen < 1 ∨ amount < 1 ∨ spent ≠ 0 ∨ til < 0) = true := decide_eq_true (.inr (.inl h2))
    rw [e]
    clear e
    go_enter Tryz.func229, Tryz.ntmps229
    go_wp2
    go_ret
    exact ⟨rfl, lay _ _⟩
  by_cases h3 : spent = 0
  · rcases Int.lt_or_le til 0 with h4 | h4
    · have e : decide (gen < 1 ∨ amount < 1 ∨ spent ≠ 0 ∨ til < 0) = true := decide_eq_true (.inr (.inr (.inr h4)))
      rw [e]
      clear e
      go_enter Tryz.func229, Tryz.ntmps229
      go_wp2
      go_ret
      exact ⟨by simp <;> omega, lay _ _⟩
    · have e : decide (gen < 1 ∨ amount < 1 ∨ spent ≠ 0 ∨ til < 0) = false := decide_eq_false (by omega)
      rw [e]
      clear e
      go_enter Tryz.func229, Tryz.ntmps229
      go_wp2
      go_ret
      exact ⟨by simp <;> omega, lay _ _⟩
  · have e : decide (gen < 1 ∨ amount < 1 ∨ spent ≠ 0 ∨ til < 0) = true := decide_eq_true (.inr (.inr (.inl h3)))
    rw [e]
    clear e
    go_enter Tryz.func229, Tryz.ntmps229
    go_wp2
    go_ret
    exact ⟨rfl, lay _ _⟩
end Go.Proofs.YtbgdlokegibkmaaGreat.Lease

namespace Go.Proofs.YtbgdlokegibkmaaGreat.Lease
open Go.RowKit Go.Maps
open _root_.Go.Proofs.YtbgdlokegibkmaaGreat.Codec (lt_of_heap frozen_of heap_set)
/-- The first map. -/
theorem Pm.first {B q : Nat} {w u v : World} {l l' : List Lz} (h : Pm B w q l) (hB : B ≤ w.heap.size) (hu : Below w.heap.size w u) (hv : ((u.setCell ⟨q, 0, none⟩ (.map (some u.heap.size))).alloc (.map #[] 0)).grownBy v (some u.heap.size)) (hl : Mw B v (some u.heap.size) l') : Moved Pm B w q l' v := by
  obtain ⟨h0, m, h1, h2⟩ := h
  have hq : q < w.heap.size := lt_of_heap h1
  have hqu : q < u.heap.size := Nat.lt_of_lt_of_le hq hu.size
  have es : (u.setCell ⟨q, 0, none⟩ (.map (some u.heap.size))).heap.size = u.heap.size := by simp
  have keep : ∀ g : Nat, g < u.heap.size → v.heap[g]? = (u.setCell ⟨q, 0, none⟩ (.map (some u.heap.size))).heap[g]? := by
    intro g hg
    refine (hv.block g (by simp; omega) (fun e => by cases e; omega)).trans ?_
    exact (lay _ _).block g (by rw [es]; exact hg)
  have other : ∀ g : Nat, g < w.heap.size → g ≠ q → v.heap[g]? = w.heap[g]? := by
    intro g hg hne
    refine (keep g (Nat.lt_of_lt_of_le hg hu.size)).trans ?_
    exact (Below.heap_setCell _ _ _ _ hne).trans (hu.block g hg)
  have hqv : v.heap[q]? = some (.cells #[.map (some u.heap.size)] 194 (0, 0)) := by
    refine (keep q hqu).trans ?_
    rw [heap_set q 0 _ _ ((hu.block q hq).trans h1)]
    rfl
  refine ⟨⟨h0, _, hqv, hl⟩, ⟨?_, fun g cs t zz e ht => ?_⟩, ?_⟩
  · refine Nat.le_trans hu.size (Nat.le_trans ?_ hv.size)
    simp
  · refine (other g (lt_of_heap e) ?_).trans e
    rintro rfl
    rw [h1] at e
    cases e
    simp at ht
  · refine ((((hu.mono hB).setCell (p := ⟨q, 0, none⟩) h0 _).alloc (by rw [es]; exact Nat.le_trans hB hu.size) _).grown hv (by have := hu.size; simp; omega) ?_)
    intro k e
    cases e
    exact Nat.le_trans hB hu.size
end Go.Proofs.YtbgdlokegibkmaaGreat.Lease

namespace Go.Proofs.YtbgdlokegibkmaaGreat.Frame
open Go.RowKit Codec
/-- Blocks ahead of B stay, and blocks of type T. -/
def Kp (B : Nat) (T : TypeId) (w w' : World) : Prop := B ≤ w.heap.size ∧ (∀ g, g < B → w'.heap[g]? = w.heap[g]?) ∧ Stays T w w'
section
variable {B : Nat} {T : TypeId} {w w' w'' : World}
theorem Kp.below (hb : Below w.heap.size w w') (hB : B ≤ w.heap.size) : Kp B T w w' := ⟨hB, fun g hg => hb.block g (by omega), .below hb⟩
theorem Kp.grown {b : Nat} {cs : Array Value} {z : Nat × Nat} {T' : TypeId} (hb : w.heap[b]? = some (.cells cs T' z)) (hT : T' ≠ T) (hB : B ≤ b) (hg : w.grownBy w' (some b)) : Kp B T w w' :=
  ⟨Nat.le_of_lt (Nat.lt_of_le_of_lt hB (lt_of_heap hb)), fun g h => hg.block g (Nat.lt_trans (Nat.lt_of_lt_of_le h hB) (lt_of_heap hb)) (by simp; omega), .grown hb hT hg⟩
/-- Where a block may lie: ahead of B, or it is of type T. -/
def Lies2 (B : Nat) (T : TypeId) (w : World) (g : Nat) : Prop := g < B ∨ ∃ cs z, w.heap[g]? = some (Obj.cells cs T z)
theorem Lies2.cell {g o : Nat} (h : Lies2 B T w g) (k : Kp B T w w') : w'.cell? ⟨g, o, none⟩ = w.cell? ⟨g, o, none⟩ := by
  have e : w'.heap[g]? = w.heap[g]? := by
    rcases h with h | ⟨cs, z, h⟩
    · exact k.2.1 g h
    · rw [h]; exact k.2.2 g cs z h
  simp [World.cell?, e]
theorem Lies2.keep {g : Nat} (h : Lies2 B T w g) (k : Kp B T w w') : Lies2 B T w' g := by
  rcases h with h | ⟨cs, z, h⟩
  · exact .inl h
  · exact .inr ⟨cs, z, k.2.2 g cs z h⟩
def LeasesS (B : Nat) (w : World) (p : Option Addr) (l : List (Int × Int)) : Prop :=
  l = [] ∨ ∃ b o, p = some ⟨b, o, none⟩ ∧ Lies2 B 141 w b ∧ ∀ j, j < l.length → w.cell? ⟨b, o + j * 2, none⟩ = some (.int .i64 (l.getD j (0, 0)).1) ∧ w.cell? ⟨b, o + j * 2 + 1, none⟩ = some (.int .i64 (l.getD j (0, 0)).2)
def RowS (B : Nat) (w : World) (b o : Nat) (r : Rw) : Prop :=
  w.cell? ⟨b, o, none⟩ = some (.int .i64 r.key) ∧ w.cell? ⟨b, o + 1, none⟩ = some (.int .i64 r.avail) ∧ w.cell? ⟨b, o + 2, none⟩ = some (.int .i64 r.mark) ∧
    ∃ p c, w.cell? ⟨b, o + 3, none⟩ = some (.slice p r.out.length c) ∧ LeasesS B w p r.out
def RowsS (B : Nat) (w : World) (p : Option Addr) (l : List Rw) : Prop :=
  l = [] ∨ ∃ b o, p = some ⟨b, o, none⟩ ∧ Lies2 B 80 w b ∧ ∀ j, j < l.length → RowS B w b (o + j * 4) (l.getD j noRow)
theorem LeasesS.leases {p : Option Addr} {l : List (Int × Int)} (h : LeasesS B w p l) : LeasesAt w p l := by
  rcases h with h | ⟨b, o, h, _, hc⟩
  · exact .inl h
  · exact .inr ⟨b, o, h, hc⟩
theorem RowS.row {b o : Nat} {r : Rw} (h : RowS B w b o r) : RowAt w b o r := by
  obtain ⟨h0, h1, h2, p, c, h3, h4⟩ := h
  exact ⟨h0, h1, h2, p, c, h3, h4.leases⟩
theorem RowsS.rows {p : Option Addr} {l : List Rw} (h : RowsS B w p l) : RowsAt w p l := by
  rcases h with h | ⟨b, o, h, _, hc⟩
  · exact .inl h
  · exact .inr ⟨b, o, h, fun j hj => (hc j hj).row⟩
theorem LeasesS.of {p : Option Addr} {l : List (Int × Int)} (h : LeasesAt w p l) : LeasesS w.heap.size w p l := by
  by_cases h0 : l = []
  · exact .inl h0
  · rcases h with h | ⟨b, o, h, hc⟩
    · exact .inl h
    · exact .inr ⟨b, o, h, .inl (World.block_lt_of_cell? _ _ (hc 0 (List.length_pos_iff.2 h0)).1), hc⟩
theorem RowS.of {b o : Nat} {r : Rw} (h : RowAt w b o r) : RowS w.heap.size w b o r := by
  obtain ⟨h0, h1, h2, p, c, h3, h4⟩ := h
  exact ⟨h0, h1, h2, p, c, h3, .of h4⟩
theorem LeasesS.keep {p : Option Addr} {l : List (Int × Int)} (h : LeasesS B w p l) (k : Kp B 141 w w') : LeasesS B w' p l := by
  rcases h with h | ⟨b, o, h, hl, hc⟩
  · exact .inl h
  · exact .inr ⟨b, o, h, hl.keep k, fun j hj => ⟨(hl.cell k).trans (hc j hj).1, (hl.cell k).trans (hc j hj).2⟩⟩
theorem RowS.keep {b o : Nat} {r : Rw} (h : RowS B w b o r) (hl : Lies2 B 80 w b) (k : Kp B 80 w w') (k' : Kp B 141 w w') : RowS B w' b o r := by
  obtain ⟨h0, h1, h2, p, c, h3, h4⟩ := h
  exact ⟨(hl.cell k).trans h0, (hl.cell k).trans h1, (hl.cell k).trans h2, p, c, (hl.cell k).trans h3, h4.keep k'⟩
theorem RowsS.keep {p : Option Addr} {l : List Rw} (h : RowsS B w p l) (k : Kp B 80 w w') (k' : Kp B 141 w w') : RowsS B w' p l := by
  rcases h with h | ⟨b, o, h, hl, hc⟩
  · exact .inl h
  · exact .inr ⟨b, o, h, hl.keep k, fun j hj => (hc j hj).keep hl k k'⟩
theorem Lies2.lower {B' g : Nat} (h : Lies2 B T w g) (hB : B ≤ B') : Lies2 B' T w g := by
  rcases h with h | h
  · exact .inl (by omega)
  · exact .inr h
theorem LeasesS.lower {B' : Nat} {p : Option Addr} {l : List (Int × Int)} (h : LeasesS B w p l) (hB : B ≤ B') : LeasesS B' w p l := by
  rcases h with h | ⟨b, o, h, hl, hc⟩
  · exact .inl h
  · exact .inr ⟨b, o, h, hl.lower hB, hc⟩
/-- A row of cells, as they lie. -/
theorem cells_of (w : World) (b o m : Nat) (h : ∀ j, j < m → ∃ u, w.cell? ⟨b, o + j, none⟩ = some u ∧ u.oneCell' = true) :
    ∃ xs : List Value, xs.length = m ∧ (∀ j u, xs[j]? = some u → w.cell? ((⟨b, o, none⟩ : Addr).add j) = some u) ∧ (∀ j, j < m → ∃ u, xs[j]? = some u ∧ w.cell? ⟨b, o + j, none⟩ = some u) ∧ ∀ u ∈ xs, u.oneCell' = true := by
  induction m with
  | zero => exact ⟨[], rfl, by simp, by intro j hj; omega, by simp⟩
  | succ m ih =>
    obtain ⟨xs, h1, h2, h3, h4⟩ := ih (fun j hj => h j (by omega))
    obtain ⟨u, hu, ho⟩ := h m (by omega)
    refine ⟨xs ++ [u], by simp [h1], fun j v hj => ?_, fun j hj => ?_, fun v hv => ?_⟩
    · by_cases hlt : j < xs.length
      · rw [List.getElem?_append_left hlt] at hj
        exact h2 j v hj
      · rw [List.getElem?_append_right (by omega)] at hj
        have : j = m := by
          by_cases hjm : j - xs.length = 0
          · omega
          · rw [List.getElem?_eq_none (by simp; omega)] at hj; cases hj
        subst this
        rw [h1, Nat.sub_self] at hj
        simp only [List.getElem?_cons_zero, Option.some.injEq] at hj
        rw [add_at, ← hj]
        exact hu
    · by_cases hlt : j < m
      · obtain ⟨v, hv, hc⟩ := h3 j hlt
        exact ⟨v, by rw [List.getElem?_append_left (by omega)]; exact hv, hc⟩
      · obtain rfl : j = m := by omega
        exact ⟨u, by rw [List.getElem?_append_right (by omega), h1, Nat.sub_self]; rfl, hu⟩
    · rcases List.mem_append.1 hv with hv | hv
      · exact h4 v hv
      · simp only [List.mem_singleton] at hv
        rw [hv]; exact ho
end
end Go.Proofs.YtbgdlokegibkmaaGreat.Frame
