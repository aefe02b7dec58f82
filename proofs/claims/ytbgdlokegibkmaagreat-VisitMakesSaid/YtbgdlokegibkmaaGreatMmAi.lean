/-
  A map of estimates, as the program has one: how its entries read, what it holds behind a list of notes (in whatever order), and what look-up, length, deletion and store tell and leave. No conditions beyond those that each names.
  The program's estimates in memory (Pm): their block, and the map that it has, or none; look-up, deletion, store of that map; New. No conditions beyond those that each names.
-/
import Derived.Maps.OwnSet
import Derived.WalkArith
import Derived.Test.YtbgdlokegibkmaaGreatMmAc
namespace Go.Proofs.YtbgdlokegibkmaaGreat.Demand
open Go.RowKit Go.Maps Go.WideShapes
def dv (x : Int) : DataW Unit := .lit (.int .i64 x)
theorem dv_inj {x y : Int} (h : dv x = dv y) : x = y := by simpa [dv] using h
/-- How a map's element reads. -/
def rdi : Value → Option (DataW Unit × List MemPlace)
  | .int .i64 a => some (dv a, [])
  | _ => none
theorem rdi_val (x : Int) : rdi (.int .i64 x) = some (dv x, []) := rfl
theorem rdi_inv {v : Value} {y : DataW Unit × List MemPlace} (h : rdi v = some y) : ∃ x, v = .int .i64 x ∧ y = (dv x, []) := by
  unfold rdi at h
  split at h
  · rename_i a
    exact ⟨a, rfl, (Option.some.inj h).symm⟩
  · cases h
theorem rdi_dv {v : Value} {x : Int} {ps : List MemPlace} (h : rdi v = some (dv x, ps)) : v = .int .i64 x := by
  obtain ⟨y, rfl, e⟩ := rdi_inv h
  rw [dv_inj (congrArg Prod.fst e)]
def kl (k : Int) : Lit := .int .i64 k
theorem kl_key (k : Int) : WideAt.IsKeyLit (kl k) := by simp [kl, WideAt.IsKeyLit]
theorem kl_same (a b : Int) : (kl a).sameKey (kl b) = (a == b) := by
  simp [kl, Lit.sameKey]
  rfl
def ent (l : List Nt) (k : Int) : Lit × DataW Unit := (kl k, dv (of l k))
/-- The map holds just the estimates behind these notes. -/
def Is (D : DataW Unit) (l : List Nt) : Prop := ∃ es, D = .map es ∧ es.Perm ((keys l).map (ent l))
theorem is_keys {l : List Nt} (h : keys l = []) : Is (.map []) l := ⟨[], rfl, by rw [h]; exact .nil⟩
theorem keys_apart (l : List Nt) : ((keys l).map (ent l)).Pairwise fun p q => p.1 ≠ q.1 :=
  List.pairwise_map.2 ((keys_rise l).imp fun {a b} hlt e => by simp [ent, kl] at e; omega)
theorem Is.apart {l : List Nt} {es : List (Lit × DataW Unit)} (hp : es.Perm ((keys l).map (ent l))) : es.Pairwise fun p q => p.1 ≠ q.1 :=
  (hp.pairwise_iff (fun {_ _} hne => Ne.symm hne)).2 (keys_apart l)
theorem has_one (l : List Nt) (k : Int) : ((keys l).map (ent l)).any (fun p => p.1.sameKey (kl k)) = decide (of l k ≠ 0) := by
  rw [List.any_map]
  by_cases h : of l k ≠ 0
  · rw [decide_eq_true h]
    exact List.any_eq_true.2 ⟨k, (keys_mem l k).2 h, by simp [ent, kl_same]⟩
  · rw [decide_eq_false h]
    refine List.any_eq_false.2 fun x hx => ?_
    have : x ≠ k := by rintro rfl; exact h ((keys_mem l _).1 hx)
    simp [ent, kl_same, this]
theorem Is.has {D : DataW Unit} {l : List Nt} (h : Is D l) (k : Int) : Maps.has D (kl k) = decide (of l k ≠ 0) := by
  obtain ⟨es, rfl, hp⟩ := h
  rw [Maps.has_eq, hp.any_eq, has_one]
theorem Is.at {D : DataW Unit} {l : List Nt} (h : Is D l) (k : Int) : D.atKey (kl k) (dv 0) = dv (of l k) := by
  have hh := h.has k
  obtain ⟨es, rfl, hp⟩ := h
  by_cases hpl : of l k ≠ 0
  · exact WideAt.atKey_mem _ (kl_key k) (Is.apart hp) (hp.mem_iff.2 (List.mem_map.2 ⟨k, (keys_mem l k).2 hpl, rfl⟩))
  · rw [Maps.atKey_of_not_has (by rw [hh, decide_eq_false hpl]) _]
    have : of l k = 0 := by omega
    rw [this]
theorem Is.size {D : DataW Unit} {l : List Nt} (h : Is D l) : Maps.size D = (keys l).length := by
  obtain ⟨es, rfl, hp⟩ := h
  rw [Maps.size_eq, hp.length_eq, List.length_map]
theorem not_key (l : List Nt) (k : Int) (ks : List Int) : (ks.map (ent l)).filter (fun e => !e.1.sameKey (kl k)) = (ks.filter fun x => !(x == k)).map (ent l) := by
  rw [List.filter_map]
  congr 1
  refine List.filter_congr fun x _ => ?_
  simp [ent, kl_same]
theorem ent_other (l : List Nt) (k s : Int) (ks : List Int) : (ks.filter fun x => !(x == k)).map (ent l) = (ks.filter fun x => !(x == k)).map (ent (l ++ [⟨k, s⟩])) := by
  refine List.map_congr_left fun x hx => ?_
  have hne : x ≠ k := by simpa using (List.mem_filter.1 hx).2
  unfold ent
  rw [of_other l s (Ne.symm hne)]
theorem Is.del {D : DataW Unit} {l : List Nt} (h : Is D l) {k s : Int} (h0 : of (l ++ [⟨k, s⟩]) k = 0) : Is (D.del (kl k)) (l ++ [⟨k, s⟩]) := by
  obtain ⟨es, rfl, hp⟩ := h
  refine ⟨_, DataW.del_eq _ _, ?_⟩
  rw [keys_zero l h0, ← ent_other, ← not_key]
  exact hp.filter _
theorem nodup_rise {l : List Int} (h : l.Pairwise (· < ·)) : l.Nodup := h.imp fun {a b} hab e => by rw [e] at hab; omega
theorem kput_perm (k : Int) {ks : List Int} (h : ks.Pairwise (· < ·)) : (kput k ks).Perm (k :: ks.filter fun x => !(x == k)) := by
  obtain ⟨h1, h2⟩ := kput_rise k h
  refine (List.perm_ext_iff_of_nodup (nodup_rise h1) (List.nodup_cons.2 ⟨by simp, (nodup_rise h).filter _⟩)).2 fun x => ?_
  rw [h2, List.mem_cons, List.mem_filter]
  by_cases e : x = k <;> simp [e]
theorem Is.put {D : DataW Unit} {l : List Nt} (h : Is D l) {k s : Int} (h0 : of (l ++ [⟨k, s⟩]) k ≠ 0) : Is (D.put (kl k) (dv (of (l ++ [⟨k, s⟩]) k))) (l ++ [⟨k, s⟩]) := by
  obtain ⟨es, rfl, hp⟩ := h
  refine ⟨_, DataW.put_eq _ _ _, ?_⟩
  unfold ChangeMaps.putKey
  rw [keys_some l h0]
  refine (insert_perm _ _).trans (List.Perm.trans ?_ ((kput_perm k (keys_rise l)).map _).symm)
  rw [List.map_cons]
  refine List.Perm.cons _ ?_
  rw [← ent_other, ← not_key]
  exact hp.filter _
end Go.Proofs.YtbgdlokegibkmaaGreat.Demand

namespace Go.Proofs.YtbgdlokegibkmaaGreat.Demand
open Go.RowKit Go.Maps
open _root_.Go.Proofs.YtbgdlokegibkmaaGreat.Codec (lt_of_heap frozen_of heap_set)
open _root_.Go.Proofs.YtbgdlokegibkmaaGreat.Kit (Kept Off cell_on)
theorem int_key : Keyed Tryz.prog 3 := int_keyed Tryz.underlying3
theorem key_of {k : Int} (h : Num k) : keyOf Tryz.prog 3 (.int .i64 k) = some (kl k) := keyOf_int_mk Tryz.underlying3 (WalkArith.wf_i64 h)
theorem zero_map (w : World) : (zeroValue 3).run Tryz.prog w = .ok (.int .i64 0) w := by kernel_rfl
/-- The estimates' map, or none. -/
def Mw (B : Nat) (w : World) (m : Option Nat) (l : List Nt) : Prop :=
  (m = none ∧ keys l = []) ∨ ∃ b D, m = some b ∧ B ≤ b ∧ w.ownsMap Tryz.prog 3 rdi b (keys l).length D ∧ Is D l
theorem owns_size {w : World} {b n : Nat} {D : DataW Unit} (h : w.ownsMap Tryz.prog 3 rdi b n D) : w.ownsMap Tryz.prog 3 rdi b (Maps.size D) D := by
  obtain ⟨es, clock, hb, F, hs, rfl⟩ := h
  exact ⟨es, clock, hb, F, by simp [Maps.size, length_sorted], rfl⟩
theorem Mw.of {B : Nat} {w : World} {b n : Nat} {D : DataW Unit} {l : List Nt} (hB : B ≤ b) (h : w.ownsMap Tryz.prog 3 rdi b n D) (hi : Is D l) : Mw B w (some b) l :=
  .inr ⟨b, D, rfl, hB, by rw [← hi.size]; exact owns_size h, hi⟩
theorem Mw.below {B : Nat} {w w' : World} {m : Option Nat} {l : List Nt} (h : Mw B w m l) (hb : Below w.heap.size w w') : Mw B w' m l := by
  rcases h with h | ⟨b, D, rfl, hB, ho, hi⟩
  · exact .inl h
  · have hlt := ho.lt
    obtain ⟨es, clock, hh, rest⟩ := ho
    exact .inr ⟨b, D, rfl, hB, ⟨es, clock, (hb.block b hlt).trans hh, rest⟩, hi⟩
theorem Mw.map_at {B : Nat} {w : World} {b : Nat} {l : List Nt} (h : Mw B w (some b) l) : ∃ es clock, w.heap[b]? = some (.map es clock) := by
  rcases h with ⟨h, -⟩ | ⟨b, D, e, hB, ho, hi⟩
  · cases h
  · cases e
    obtain ⟨es, clock, hb, -⟩ := ho
    exact ⟨es, clock, hb⟩
theorem none_of {l : List Nt} (h : keys l = []) (k : Int) : Demand.of l k = 0 := by
  by_cases e : Demand.of l k = 0
  · exact e
  · have := (keys_mem l k).2 e
    rw [h] at this
    cases this
theorem Mw.get {B : Nat} {w : World} {m : Option Nat} {l : List Nt} (h : Mw B w m l) {k : Int} (hk : Num k) :
    (Instr.lookup 198 (.map m) (.int .i64 k) false).run Tryz.prog w = .ok (.int .i64 (Demand.of l k)) w := by
  rcases h with ⟨rfl, he⟩ | ⟨b, D, rfl, hB, ho, hi⟩
  · rw [Maps.look_nil false int_key Tryz.underlying198 (zero_map w) (key_of hk), none_of he]
    rfl
  · obtain ⟨v, ps, hrun, hv⟩ := ho.lookup int_key Tryz.underlying198 (zero_map w) (rdi_val 0) (key_of hk)
    rw [hi.at k] at hv
    obtain rfl := rdi_dv hv
    exact hrun
theorem grown_refl (w : World) (r : Option Nat) : w.grownBy w r := ⟨rfl, rfl, rfl, Nat.le_refl _, fun _ _ _ => rfl⟩
theorem Mw.cut {B : Nat} {w : World} {m : Option Nat} {l : List Nt} (h : Mw B w m l) {k s : Int} (hk : Num k) (h0 : Demand.of (l ++ [⟨k, s⟩]) k = 0) (ty : TypeId) :
    ∃ w', (Builtin.delete_ #[198, 3] ty #[.map m, .int .i64 k]).run Tryz.prog w = .ok (.tuple #[]) w' ∧ Mw B w' m (l ++ [⟨k, s⟩]) ∧ w.grownBy w' m := by
  rcases h with ⟨rfl, he⟩ | ⟨b, D, rfl, hB, ho, hi⟩
  · exact ⟨w, Maps.drop_nil int_key Tryz.underlying198 (key_of hk) ty, .inl ⟨rfl, by rw [keys_zero l h0, he]; rfl⟩, grown_refl _ _⟩
  · obtain ⟨w', hrun, ho', ht⟩ := ho.drop int_key Tryz.underlying198 (key_of hk) ty
    exact ⟨w', hrun, Mw.of hB ho' (hi.del h0), ht.grown⟩
/-- At the operation. -/
theorem step_cut {w : World} {ops : Array Oper} {rest : List Oper} {o : Oper} {a : Act} {Q : Exit → Act → World → Prop} (hg : o.guard = none) (m x : Operand)
    (hop : o.op = Op.call { callee := Callee.builtin Builtin.delete, args := #[m, x], argTypes := #[198, 3] })
    {B : Nat} {mp : Option Nat} {l : List Nt} (hm : a.eval m = .map mp) (h : Mw B w mp l) {k s : Int} (hk : Num k) (h0 : Demand.of (l ++ [⟨k, s⟩]) k = 0) (hx : a.eval x = .int .i64 k)
    (hK : ∀ w', Mw B w' mp (l ++ [⟨k, s⟩]) → w.grownBy w' mp → wpList Tryz.prog ops Q rest (a.put o.dst (.tuple #[])) w') : wpList Tryz.prog ops Q (o :: rest) a w := by
  refine wpList_plain hg fun K' hK' => ?_
  obtain ⟨w', hrun, r1, r2⟩ := h.cut hk h0 o.type
  unfold Oper.wp
  simp [execOp, hop, resolve, invoke, builtin, hm, hx, hrun, Result.andThen]
  exact hK' _ _ (hK w' r1 r2)
theorem Mw.put {B b : Nat} {w : World} {l : List Nt} (h : Mw B w (some b) l) (hn : (keys l).length < maxLen) {k s : Int} (hk : Num k) (h0 : Demand.of (l ++ [⟨k, s⟩]) k ≠ 0) :
    ∃ w', (Instr.mapUpdate 198 (.map (some b)) (.int .i64 k) (.int .i64 (Demand.of (l ++ [⟨k, s⟩]) k))).run Tryz.prog w = .ok () w' ∧ Mw B w' (some b) (l ++ [⟨k, s⟩]) ∧ w.grownBy w' (some b) := by
  rcases h with ⟨h, -⟩ | ⟨b', D, e, hB, ho, hi⟩
  · cases h
  · cases e
    obtain ⟨w', hrun, r1, r2⟩ := ho.update int_key Tryz.underlying198 hn (key_of hk) (rdi_val _)
    exact ⟨w', hrun, Mw.of hB r1 (hi.put h0), r2⟩
/-- The estimates. -/
def Pm : Pw := fun B w q l => B ≤ q ∧ ∃ m, w.heap[q]? = some (.cells #[.map m] 200 (0, 0)) ∧ Mw B w m l
section
variable {B q : Nat} {w w' : World} {l : List Nt}
theorem Pm.lt (h : Pm B w q l) : q < w.heap.size := by
  obtain ⟨_, m, h, _⟩ := h
  exact lt_of_heap h
theorem Pm.below (h : Pm B w q l) (hb : Below w.heap.size w w') : Pm B w' q l := by
  obtain ⟨h0, m, h1, h2⟩ := h
  exact ⟨h0, m, (hb.block q (lt_of_heap h1)).trans h1, h2.below hb⟩
/-- Their cell, and their map. -/
theorem Pm.cell (h : Pm B w q l) : ∃ m, w.cell? ⟨q, 0, none⟩ = some (.map m) ∧ w.frozen? ⟨q, 0, none⟩ = false ∧ Mw B w m l := by
  obtain ⟨_, m, h1, h2⟩ := h
  exact ⟨m, by rw [cell_of_row w q 0 _ _ (0, 0) h1]; rfl, frozen_of h1, h2⟩
/-- A step that turns the map, behind what only lays blocks. -/
theorem Pm.turned {u v : World} {m : Option Nat} {l' : List Nt} (h : Pm B w q l) (hB : B ≤ w.heap.size) (hc : w.cell? ⟨q, 0, none⟩ = some (.map m)) (hu : Below w.heap.size w u) (hm : Mw B w m l) (hv : u.grownBy v m) (hl : Mw B v m l') (hw : Below v.heap.size v w') : Moved Pm B w q l' w' := by
  obtain ⟨h0, m', h1, h2⟩ := h
  obtain rfl : m' = m := by
    rw [cell_of_row w q 0 _ _ (0, 0) h1] at hc
    simpa using hc
  have hq : q < w.heap.size := lt_of_heap h1
  have keep : ∀ (g : Nat) (cs : Array Value) (t : TypeId) (zz : Nat × Nat), w.heap[g]? = some (Obj.cells cs t zz) → w'.heap[g]? = some (Obj.cells cs t zz) := by
    intro g cs t zz e
    have hg := lt_of_heap e
    have e1 := (hu.block g hg).trans e
    have hg1 : g < u.heap.size := Nat.lt_of_lt_of_le hg hu.size
    have e2 := (hv.block g hg1 (fun ee => by
      rcases hm with ⟨rfl, -⟩ | ⟨b, D, rfl, hB', ⟨es, clock, hb, -⟩, -⟩
      · cases ee
      · cases ee
        rw [hb] at e
        cases e)).trans e1
    exact (hw.block g (Nat.lt_of_lt_of_le hg1 hv.size)).trans e2
  refine ⟨⟨h0, _, keep _ _ _ _ h1, hl.below hw⟩, ⟨Nat.le_trans hu.size (Nat.le_trans hv.size hw.size), fun g cs t zz e _ => keep g cs t zz e⟩, ?_⟩
  refine (((hu.mono hB).grown hv (Nat.le_trans hB hu.size) ?_).trans (hw.mono (Nat.le_trans hB (Nat.le_trans hu.size hv.size))))
  intro k e
  rcases hm with ⟨rfl, -⟩ | ⟨b, D, rfl, hB', -⟩
  · cases e
  · cases e
    exact hB'
/-- The first map. -/
theorem Pm.first {u v : World} {l' : List Nt} (h : Pm B w q l) (hB : B ≤ w.heap.size) (hu : Below w.heap.size w u) (hv : ((u.setCell ⟨q, 0, none⟩ (.map (some u.heap.size))).alloc (.map #[] 0)).grownBy v (some u.heap.size)) (hl : Mw B v (some u.heap.size) l') : Moved Pm B w q l' v := by
  obtain ⟨h0, m, h1, h2⟩ := h
  have hq : q < w.heap.size := lt_of_heap h1
  have hqu : q < u.heap.size := Nat.lt_of_lt_of_le hq hu.size
  have es : (u.setCell ⟨q, 0, none⟩ (.map (some u.heap.size))).heap.size = u.heap.size := by simp
  have keep : ∀ g : Nat, g < u.heap.size → v.heap[g]? = (u.setCell ⟨q, 0, none⟩ (.map (some u.heap.size))).heap[g]? := by
    intro g hg
    refine (hv.block g (by simp; omega) (fun e => by cases e; omega)).trans ?_
    exact ((Below.refl _ _).alloc (Nat.le_refl _) _).block g (by rw [es]; exact hg)
  have other : ∀ g : Nat, g < w.heap.size → g ≠ q → v.heap[g]? = w.heap[g]? := by
    intro g hg hne
    refine (keep g (Nat.lt_of_lt_of_le hg hu.size)).trans ?_
    exact (Below.heap_setCell _ _ _ _ hne).trans (hu.block g hg)
  have hqv : v.heap[q]? = some (.cells #[.map (some u.heap.size)] 200 (0, 0)) := by
    refine (keep q hqu).trans ?_
    rw [heap_set q 0 _ _ ((hu.block q hq).trans h1)]
    rfl
  refine ⟨⟨h0, _, hqv, hl⟩, ⟨?_, fun g cs t zz e ht => ?_⟩, ?_⟩
  · refine Nat.le_trans hu.size (Nat.le_trans ?_ hv.size)
    simp
  · refine (other g (lt_of_heap e) ?_).trans e
    rintro rfl
    rw [h1] at e
    cases e
    simp [mine] at ht
  · refine ((((hu.mono hB).setCell (p := ⟨q, 0, none⟩) h0 _).alloc (by rw [es]; exact Nat.le_trans hB hu.size) _).grown hv (by have := hu.size; simp; omega) ?_)
    intro k e
    cases e
    exact Nat.le_trans hB hu.size
end
theorem first_made {B q : Nat} (u : World) (hB : B ≤ u.heap.size) {l : List Nt} (hl : keys l = []) : Mw B ((u.setCell ⟨q, 0, none⟩ (.map (some u.heap.size))).alloc (.map #[] 0)) (some u.heap.size) l := by
  have h := World.ownsMap_made (u.setCell ⟨q, 0, none⟩ (.map (some u.heap.size))) Tryz.prog 3 rdi
  have es : (u.setCell ⟨q, 0, none⟩ (.map (some u.heap.size))).heap.size = u.heap.size := by simp
  rw [es] at h
  exact Mw.of hB h (is_keys hl)
set_option maxRecDepth 100000 in
theorem new_any (w : World) : Calls Tryz.prog 78 #[] w fun e w' => ∃ q, e = .returned (.pointer (some ⟨q, 0, none⟩)) ∧ Pm w.heap.size w' q [] ∧ Below w.heap.size w w' := by
  go_enter Tryz.func78, Tryz.ntmps78
  go_wp2
  go_ret
  exact ⟨_, rfl, ⟨Nat.le_refl _, none, (MapKept.heap_alloc w _).1, .inl ⟨rfl, rfl⟩⟩, (Below.refl _ w).alloc (Nat.le_refl _) _⟩
end Go.Proofs.YtbgdlokegibkmaaGreat.Demand
