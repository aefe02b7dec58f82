/-
  The program's wallet in memory (Pm): its block, and the map that it has, or none; look-up, length, deletion of that map. No conditions beyond those that each names.
-/
import Derived.Test.YtlipepbemofihaaLsMap
namespace Go.Proofs.Ytlipepbemofihaa.Lease
open Go.RowKit Go.Maps
open _root_.Go.Proofs.Ytlipepbemofihaa.Codec (lt_of_heap frozen_of heap_set below_new)

theorem int_key : Keyed Try.prog 3 := int_keyed Try.underlying3
theorem key_of {k : Int} (h : Num k) : keyOf Try.prog 3 (.int .i64 k) = some (kl k) := keyOf_int_mk Try.underlying3 (WalkArith.wf_i64 h)
theorem zero_map (w : World) : (zeroValue 33).run Try.prog w = .ok (val z) w := by kernel_rfl

/-- A wallet's map, or none. -/
def Mw (B : Nat) (w : World) (m : Option Nat) (l : List Lz) : Prop :=
  (m = none ∧ l = []) ∨ ∃ b D, m = some b ∧ B ≤ b ∧ w.ownsMap Try.prog 3 rdz b l.length D ∧ Is D l
theorem owns_size {w : World} {b n : Nat} {D : DataW Unit} (h : w.ownsMap Try.prog 3 rdz b n D) : w.ownsMap Try.prog 3 rdz b (Maps.size D) D := by
  obtain ⟨es, clock, hb, F, hs, rfl⟩ := h
  exact ⟨es, clock, hb, F, by simp [Maps.size, length_sorted], rfl⟩
theorem Mw.of {B : Nat} {w : World} {b n : Nat} {D : DataW Unit} {l : List Lz} (hB : B ≤ b) (h : w.ownsMap Try.prog 3 rdz b n D) (hi : Is D l) : Mw B w (some b) l :=
  .inr ⟨b, D, rfl, hB, by rw [← hi.size]; exact owns_size h, hi⟩
theorem Mw.kept {B : Nat} {w w' : World} {m : Option Nat} {l : List Lz} {row : Option Nat} (h : Mw B w m l) (hg : w.grownBy w' row) (hr : ∀ b, m = some b → some b ≠ row) : Mw B w' m l := by
  rcases h with h | ⟨b, D, rfl, hB, ho, hi⟩
  · exact .inl h
  · exact .inr ⟨b, D, rfl, hB, ho.kept hg (hr b rfl), hi⟩
theorem Mw.below {B : Nat} {w w' : World} {m : Option Nat} {l : List Lz} (h : Mw B w m l) (hb : Below w.heap.size w w') : Mw B w' m l := by
  rcases h with h | ⟨b, D, rfl, hB, ho, hi⟩
  · exact .inl h
  · have hlt := ho.lt
    obtain ⟨es, clock, hh, rest⟩ := ho
    exact .inr ⟨b, D, rfl, hB, ⟨es, clock, (hb.block b hlt).trans hh, rest⟩, hi⟩
theorem Mw.map_at {B : Nat} {w : World} {b : Nat} {l : List Lz} (h : Mw B w (some b) l) : ∃ es clock, w.heap[b]? = some (.map es clock) := by
  rcases h with ⟨h, -⟩ | ⟨b, D, e, hB, ho, hi⟩
  · cases h
  · cases e
    obtain ⟨es, clock, hb, -⟩ := ho
    exact ⟨es, clock, hb⟩
theorem Mw.look {B : Nat} {w : World} {m : Option Nat} {l : List Lz} (h : Mw B w m l) (hr : Rise l) {k : Int} (hk : Num k) :
    (Instr.lookup 48 (.map m) (.int .i64 k) true).run Try.prog w = .ok (.tuple #[val (found l k), .bool (decide (0 ≤ place l k))]) w := by
  rcases h with ⟨rfl, rfl⟩ | ⟨b, D, rfl, hB, ho, hi⟩
  · rw [Maps.look_nil true int_key Try.underlying48 (zero_map w) (key_of hk)]
    rfl
  · obtain ⟨v, ps, hrun, hv⟩ := ho.look_ok int_key Try.underlying48 (zero_map w) (rdz_val z) (key_of hk)
    rw [hi.at hr k] at hv
    obtain rfl := rdz_dat hv
    rw [hrun, hi.has k]
theorem Mw.get {B : Nat} {w : World} {m : Option Nat} {l : List Lz} (h : Mw B w m l) (hr : Rise l) {k : Int} (hk : Num k) :
    (Instr.lookup 48 (.map m) (.int .i64 k) false).run Try.prog w = .ok (val (found l k)) w := by
  rcases h with ⟨rfl, rfl⟩ | ⟨b, D, rfl, hB, ho, hi⟩
  · rw [Maps.look_nil false int_key Try.underlying48 (zero_map w) (key_of hk)]
    rfl
  · obtain ⟨v, ps, hrun, hv⟩ := ho.lookup int_key Try.underlying48 (zero_map w) (rdz_val z) (key_of hk)
    rw [hi.at hr k] at hv
    obtain rfl := rdz_dat hv
    exact hrun
theorem Mw.len {B : Nat} {w : World} {m : Option Nat} {l : List Lz} (h : Mw B w m l) (ty : TypeId) : (Builtin.len_ #[48] ty #[.map m]).run Try.prog w = .ok (.int .i64 l.length) w := by
  rcases h with ⟨rfl, rfl⟩ | ⟨b, D, rfl, hB, ho, hi⟩
  · exact Maps.len_nil Try.underlying48 ty
  · rw [ho.len Try.underlying48 ty, hi.size]
/-- Without a key's. -/
def without (l : List Lz) (k : Int) : List Lz := if place l k < 0 then l else l.eraseIdx (place l k).toNat
theorem grown_refl (w : World) (r : Option Nat) : w.grownBy w r := ⟨rfl, rfl, rfl, Nat.le_refl _, fun _ _ _ => rfl⟩
theorem Mw.cut {B : Nat} {w : World} {m : Option Nat} {l : List Lz} (h : Mw B w m l) (hr : Rise l) {k : Int} (hk : Num k) (ty : TypeId) :
    ∃ w', (Builtin.delete_ #[48, 3] ty #[.map m, .int .i64 k]).run Try.prog w = .ok (.tuple #[]) w' ∧ Mw B w' m (without l k) ∧ w.grownBy w' m := by
  rcases h with ⟨rfl, rfl⟩ | ⟨b, D, rfl, hB, ho, hi⟩
  · exact ⟨w, Maps.drop_nil int_key Try.underlying48 (key_of hk) ty, .inl ⟨rfl, rfl⟩, grown_refl _ _⟩
  · obtain ⟨w', hrun, ho', ht⟩ := ho.drop int_key Try.underlying48 (key_of hk) ty
    exact ⟨w', hrun, Mw.of hB ho' (hi.del hr k), ht.grown⟩
/-- At the operation. -/
theorem step_cut {w : World} {ops : Array Oper} {rest : List Oper} {o : Oper} {a : Act} {Q : Exit → Act → World → Prop} (hg : o.guard = none) (m x : Operand)
    (hop : o.op = Op.call { callee := Callee.builtin Builtin.delete, args := #[m, x], argTypes := #[48, 3] })
    {B : Nat} {mp : Option Nat} {l : List Lz} (hm : a.eval m = .map mp) (h : Mw B w mp l) (hr : Rise l) {k : Int} (hk : Num k) (hx : a.eval x = .int .i64 k)
    (hK : ∀ w', Mw B w' mp (without l k) → w.grownBy w' mp → wpList Try.prog ops Q rest (a.put o.dst (.tuple #[])) w') : wpList Try.prog ops Q (o :: rest) a w := by
  refine wpList_plain hg fun K' hK' => ?_
  obtain ⟨w', hrun, r1, r2⟩ := h.cut hr hk o.type
  unfold Oper.wp
  simp [execOp, hop, resolve, invoke, builtin, hm, hx, hrun, Result.andThen]
  exact hK' _ _ (hK w' r1 r2)
theorem Mw.put {B b : Nat} {w : World} {l : List Lz} (h : Mw B w (some b) l) (hr : Rise l) (hn : l.length < maxLen) (y : Lz) (hk : Num y.key) :
    ∃ w', (Instr.mapUpdate 48 (.map (some b)) (.int .i64 y.key) (val y)).run Try.prog w = .ok () w' ∧ Mw B w' (some b) (if place l y.key < 0 then ins y l else l.set (place l y.key).toNat y) ∧ w.grownBy w' (some b) := by
  rcases h with ⟨h, -⟩ | ⟨b', D, e, hB, ho, hi⟩
  · cases h
  · cases e
    obtain ⟨w', hrun, r1, r2⟩ := ho.update int_key Try.underlying48 hn (key_of hk) (rdz_val y)
    refine ⟨w', hrun, Mw.of hB r1 ?_, r2⟩
    split
    · rename_i h0
      exact hi.put h0
    · rename_i h0
      exact hi.more hr (by omega)

/-- The wallet. -/
def Pm : Pw := fun B w q l => B ≤ q ∧ ∃ m, w.heap[q]? = some (.cells #[.map m] 50 (0, 0)) ∧ Mw B w m l
section
variable {B q : Nat} {w w' : World} {l : List Lz}
theorem Pm.lt (h : Pm B w q l) : q < w.heap.size := by
  obtain ⟨_, m, h, _⟩ := h
  exact lt_of_heap h
theorem Pm.below (h : Pm B w q l) (hb : Below w.heap.size w w') : Pm B w' q l := by
  obtain ⟨h0, m, h1, h2⟩ := h
  exact ⟨h0, m, (hb.block q (lt_of_heap h1)).trans h1, h2.below hb⟩
theorem Pm.kept (h : Pm B w q l) (hk : Kept [29] w w') : Pm B w' q l := by
  obtain ⟨h0, m, h1, h2⟩ := h
  refine ⟨h0, m, hk.block q _ _ _ h1 (by decide), ?_⟩
  rcases h2 with h2 | ⟨b, D, rfl, hB, ⟨es, clock, hb, rest⟩, hi⟩
  · exact .inl h2
  · exact .inr ⟨b, D, rfl, hB, ⟨es, clock, hk.obj b _ hb (fun _ _ _ e => by cases e), rest⟩, hi⟩
/-- The wallet's cell, and its map. -/
theorem Pm.cell (h : Pm B w q l) : ∃ m, w.cell? ⟨q, 0, none⟩ = some (.map m) ∧ w.frozen? ⟨q, 0, none⟩ = false ∧ Mw B w m l := by
  obtain ⟨_, m, h1, h2⟩ := h
  exact ⟨m, by rw [cell_of_row w q 0 _ _ (0, 0) h1]; rfl, frozen_of h1, h2⟩
/-- A step that leaves the wallet as it was. -/
theorem Pm.same (h : Pm B w q l) (hB : B ≤ w.heap.size) (hb : Below w.heap.size w w') : Moved Pm B w q l w' :=
  ⟨h.below hb, ⟨hb.size, fun g _ _ _ e _ => (hb.block g (lt_of_heap e)).trans e⟩, hb.mono hB⟩
/-- A step that turns the map, behind what only lays blocks. -/
theorem Pm.turned {u v : World} {m : Option Nat} {l' : List Lz} (h : Pm B w q l) (hB : B ≤ w.heap.size) (hc : w.cell? ⟨q, 0, none⟩ = some (.map m)) (hu : Below w.heap.size w u) (hm : Mw B w m l) (hv : u.grownBy v m) (hl : Mw B v m l') (hw : Below v.heap.size v w') : Moved Pm B w q l' w' := by
  obtain ⟨h0, m', h1, h2⟩ := h
  obtain rfl : m' = m := by
    rw [cell_of_row w q 0 _ _ (0, 0) h1] at hc
    simpa using hc
  have hq : q < w.heap.size := lt_of_heap h1
  have keep : ∀ (g : Nat) (cs : Array Value) (t : TypeId) (zz : Nat × Nat), w.heap[g]? = some (Obj.cells cs t zz) → w'.heap[g]? = some (Obj.cells cs t zz) := by
    intro g cs t zz e
    have hg := lt_of_heap e
    have e1 := (hu.block g hg).trans e
    have hg1 : g < u.heap.size := Nat.lt_of_lt_of_le hg hu.size
    have e2 := (hv.block g hg1 (fun ee => by
      rcases hm with ⟨rfl, -⟩ | ⟨b, D, rfl, hB', ⟨es, clock, hb, -⟩, -⟩
      · cases ee
      · cases ee
        rw [hb] at e
        cases e)).trans e1
    exact (hw.block g (Nat.lt_of_lt_of_le hg1 hv.size)).trans e2
  refine ⟨⟨h0, _, keep _ _ _ _ h1, hl.below hw⟩, ⟨Nat.le_trans hu.size (Nat.le_trans hv.size hw.size), fun g cs t zz e _ => keep g cs t zz e⟩, ?_⟩
  refine (((hu.mono hB).grown hv (Nat.le_trans hB hu.size) ?_).trans (hw.mono (Nat.le_trans hB (Nat.le_trans hu.size hv.size))))
  intro k e
  rcases hm with ⟨rfl, -⟩ | ⟨b, D, rfl, hB', -⟩
  · cases e
  · cases e
    exact hB'
end
theorem pm_below : ∀ {B w q l w'}, Pm B w q l → Below w.heap.size w w' → Pm B w' q l := fun h hb => h.below hb
theorem pm_kept : ∀ {B w q l w'}, Pm B w q l → Kept [29] w w' → Below B w w' → Pm B w' q l := fun h hk _ => h.kept hk

set_option maxRecDepth 100000 in
theorem new_any (w : World) : Calls Try.prog 6 #[] w fun e w' => ∃ q, e = .returned (.pointer (some ⟨q, 0, none⟩)) ∧ Pm w.heap.size w' q [] ∧ Below w.heap.size w w' := by
  go_enter Try.func6, Try.ntmps6
  go_wp2
  go_ret
  exact ⟨_, rfl, ⟨Nat.le_refl _, none, (MapKept.heap_alloc w _).1, .inl ⟨rfl, rfl⟩⟩, (Below.refl _ w).alloc (Nat.le_refl _) _⟩
end Go.Proofs.Ytlipepbemofihaa.Lease
