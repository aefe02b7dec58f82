/-
  A ledger of memory: boxes, rows and leases that lie while calls come and go; ints that a call owns; all of it without package ledger. No conditions beyond those that each names.
-/
import Derived.Test.YtkdjhphakopfeaaChecked
import Derived.Test.YtkdjhphakopfeaaFrameSameTable
import Derived.Maps.AppendAt
import Derived.Outline
namespace Go.Proofs.Ytkdjhphakopfeaa.Token
open Go.RowKit
open _root_.Go.Proofs.Ytkdjhphakopfeaa.Frame (Rw Tb noRow LeasesAt RowAt RowsAt cell_on allTo_true sameTable)
open _root_.Go.Proofs.Ytkdjhphakopfeaa.Codec (lt_of_heap frozen_of heap_set)

def Num (x : Int) : Prop := -9223372036854775808 ≤ x ∧ x ≤ 9223372036854775807
theorem num_of {a : Int} (h : (Lit.int .i64 a).wf = true) : Num a := by simp [Lit.wf, IntKind.min, IntKind.max, IntKind.signed, IntKind.bits] at h; unfold Num; omega

/-- What lies: boxes (a block's number, its cells, its type), rows, leases. -/
structure Mem (w : World) (bs : List (Nat × Array Value × TypeId)) (rs : List (Option Addr × List Rw)) (ls : List (Option Addr × List (Int × Int))) (u : World) : Prop where
  boxes : ∀ (i : Nat) (g : Nat) (vs : Array Value) (T : TypeId), bs[i]? = some (g, vs, T) → u.heap[g]? = some (.cells vs T (0, 0))
  rows : ∀ (i : Nat) (p : Option Addr) (l : List Rw), rs[i]? = some (p, l) → RowsAt u p l
  leases : ∀ (i : Nat) (p : Option Addr) (l : List (Int × Int)), ls[i]? = some (p, l) → LeasesAt u p l
  below : Below w.heap.size w u
section
variable {w u u' : World} {bs : List (Nat × Array Value × TypeId)} {rs : List (Option Addr × List Rw)} {ls : List (Option Addr × List (Int × Int))}
theorem Mem.start (w : World) : Mem w [] [] [] w := ⟨fun i g vs T h => by simp at h, fun i p l h => by simp at h, fun i p l h => by simp at h, Below.refl _ _⟩
theorem Mem.on (h : Mem w bs rs ls u) (hb : Below u.heap.size u u') : Mem w bs rs ls u' :=
  ⟨fun i g vs T e => (hb.block _ (lt_of_heap (h.boxes i g vs T e))).trans (h.boxes i g vs T e), fun i p l e => (h.rows i p l e).below hb, fun i p l e => (h.leases i p l e).below hb, h.below.trans (hb.mono h.below.size)⟩
theorem Mem.drew (h : Mem w bs rs ls u) : Mem w bs rs ls u.drew := h.on (Below.refl _ _).drew
theorem Mem.box (h : Mem w bs rs ls u) (vs : Array Value) (T : TypeId) : Mem w ((u.heap.size, vs, T) :: bs) rs ls (u.alloc (.cells vs T)) := by
  have h' := h.on ((Below.refl _ _).alloc (Nat.le_refl _) (.cells vs T))
  refine ⟨fun i g vs' T' e => ?_, h'.rows, h'.leases, h'.below⟩
  cases i with
  | zero =>
    simp only [List.getElem?_cons_zero, Option.some.injEq, Prod.mk.injEq] at e
    obtain ⟨rfl, rfl, rfl⟩ := e
    exact heap_alloc_new _ _
  | succ i => exact h'.boxes i g vs' T' (by simpa using e)
theorem Mem.addRows (h : Mem w bs rs ls u) {p : Option Addr} {l : List Rw} (hr : RowsAt u p l) : Mem w bs ((p, l) :: rs) ls u := by
  refine ⟨h.boxes, fun i p' l' e => ?_, h.leases, h.below⟩
  cases i with
  | zero =>
    simp only [List.getElem?_cons_zero, Option.some.injEq, Prod.mk.injEq] at e
    obtain ⟨rfl, rfl⟩ := e
    exact hr
  | succ i => exact h.rows i p' l' (by simpa using e)
theorem Mem.addLeases (h : Mem w bs rs ls u) {p : Option Addr} {l : List (Int × Int)} (hr : LeasesAt u p l) : Mem w bs rs ((p, l) :: ls) u := by
  refine ⟨h.boxes, h.rows, fun i p' l' e => ?_, h.below⟩
  cases i with
  | zero =>
    simp only [List.getElem?_cons_zero, Option.some.injEq, Prod.mk.injEq] at e
    obtain ⟨rfl, rfl⟩ := e
    exact hr
  | succ i => exact h.leases i p' l' (by simpa using e)
theorem Mem.addBox (h : Mem w bs rs ls u) {g : Nat} {vs : Array Value} {T : TypeId} (hg : u.heap[g]? = some (.cells vs T (0, 0))) : Mem w ((g, vs, T) :: bs) rs ls u := by
  refine ⟨fun i g' vs' T' e => ?_, h.rows, h.leases, h.below⟩
  cases i with
  | zero =>
    simp only [List.getElem?_cons_zero, Option.some.injEq, Prod.mk.injEq] at e
    obtain ⟨rfl, rfl, rfl⟩ := e
    exact hg
  | succ i => exact h.boxes i g' vs' T' (by simpa using e)
end

/-- A box of four cells that was laid earlier is filled. -/
theorem heap_fill {u6 : World} {g : Nat} {z0 z1 z2 z3 : Value} {T : TypeId} (h : u6.heap[g]? = some (.cells #[z0, z1, z2, z3] T (0, 0))) (v0 v1 v2 v3 : Value) :
    ((((u6.setCell ⟨g, 0, none⟩ v0).setCell ⟨g, 1, none⟩ v1).setCell ⟨g, 2, none⟩ v2).setCell ⟨g, 3, none⟩ v3).heap[g]? = some (.cells #[v0, v1, v2, v3] T (0, 0)) := by
  have h1 : (u6.setCell ⟨g, 0, none⟩ v0).heap[g]? = some (.cells #[v0, z1, z2, z3] T (0, 0)) := by rw [heap_set _ 0 _ _ h]; rfl
  have h2 : ((u6.setCell ⟨g, 0, none⟩ v0).setCell ⟨g, 1, none⟩ v1).heap[g]? = some (.cells #[v0, v1, z2, z3] T (0, 0)) := by rw [heap_set _ 1 _ _ h1]; rfl
  have h3 : (((u6.setCell ⟨g, 0, none⟩ v0).setCell ⟨g, 1, none⟩ v1).setCell ⟨g, 2, none⟩ v2).heap[g]? = some (.cells #[v0, v1, v2, z3] T (0, 0)) := by rw [heap_set _ 2 _ _ h2]; rfl
  rw [heap_set _ 3 _ _ h3]; rfl
theorem Mem.fill {w u u6 : World} {bs : List (Nat × Array Value × TypeId)} {rs : List (Option Addr × List Rw)} {ls : List (Option Addr × List (Int × Int))} (h : Mem w bs rs ls u) {T : TypeId} {z0 z1 z2 z3 : Value} (hb : Below (u.heap.size + 1) (u.alloc (.cells #[z0, z1, z2, z3] T)) u6) (v0 v1 v2 v3 : Value) :
    Mem w ((u.heap.size, #[v0, v1, v2, v3], T) :: bs) rs ls ((((u6.setCell ⟨u.heap.size, 0, none⟩ v0).setCell ⟨u.heap.size, 1, none⟩ v1).setCell ⟨u.heap.size, 2, none⟩ v2).setCell ⟨u.heap.size, 3, none⟩ v3) := by
  have h0 : u6.heap[u.heap.size]? = some (.cells #[z0, z1, z2, z3] T (0, 0)) := (hb.block _ (by omega)).trans (heap_alloc_new _ _)
  have hB : Below u.heap.size u ((((u6.setCell ⟨u.heap.size, 0, none⟩ v0).setCell ⟨u.heap.size, 1, none⟩ v1).setCell ⟨u.heap.size, 2, none⟩ v2).setCell ⟨u.heap.size, 3, none⟩ v3) :=
    ((((((Below.refl _ _).alloc (Nat.le_refl _) _).trans (hb.mono (by omega))).setCell (Nat.le_refl _) _).setCell (Nat.le_refl _) _).setCell (Nat.le_refl _) _).setCell (Nat.le_refl _) _
  exact (h.on hB).addBox (heap_fill h0 v0 v1 v2 v3)
/-- Leases that lie in another block. -/
theorem leases_fill {u6 : World} {g : Nat} {p : Option Addr} {l : List (Int × Int)} (h : LeasesAt u6 p l) (hf : l = [] ∨ ∃ b o, p = some ⟨b, o, none⟩ ∧ b ≠ g) (v0 v1 v2 v3 : Value) :
    LeasesAt ((((u6.setCell ⟨g, 0, none⟩ v0).setCell ⟨g, 1, none⟩ v1).setCell ⟨g, 2, none⟩ v2).setCell ⟨g, 3, none⟩ v3) p l := by
  rcases hf with hf | ⟨b, o, rfl, hne⟩
  · exact .inl hf
  · rcases h with h | ⟨b', o', e, hc⟩
    · exact .inl h
    · simp only [Option.some.injEq, Addr.mk.injEq, and_true] at e
      obtain ⟨rfl, rfl⟩ := e
      have he : ∀ i, ((((u6.setCell ⟨g, 0, none⟩ v0).setCell ⟨g, 1, none⟩ v1).setCell ⟨g, 2, none⟩ v2).setCell ⟨g, 3, none⟩ v3).cell? ⟨b, i, none⟩ = u6.cell? ⟨b, i, none⟩ := fun i =>
        World.cell?_of_block (w := u6) ((Below.heap_setCell _ _ _ _ hne).trans ((Below.heap_setCell _ _ _ _ hne).trans ((Below.heap_setCell _ _ _ _ hne).trans (Below.heap_setCell _ _ _ _ hne))))
      exact .inr ⟨b, o, rfl, fun j hj => by rw [he, he]; exact hc j hj⟩

theorem size_alloc (u : World) (o : Obj) : (u.alloc o).heap.size = u.heap.size + 1 := by simp

/-- The cells of boxes. -/
theorem box2 {w : World} {b : Nat} {v0 v1 : Value} {T : TypeId} (h : w.heap[b]? = some (.cells #[v0, v1] T (0, 0))) : w.cell? ⟨b, 0, none⟩ = some v0 ∧ w.cell? ⟨b, 1, none⟩ = some v1 ∧ ∀ o, w.frozen? ⟨b, o, none⟩ = false :=
  ⟨by rw [cell_of_row w b 0 _ _ (0, 0) h]; rfl, by rw [cell_of_row w b 1 _ _ (0, 0) h]; rfl, fun _ => frozen_of h⟩
theorem box4 {w : World} {b : Nat} {v0 v1 v2 v3 : Value} {T : TypeId} (h : w.heap[b]? = some (.cells #[v0, v1, v2, v3] T (0, 0))) : w.cell? ⟨b, 0, none⟩ = some v0 ∧ w.cell? ⟨b, 1, none⟩ = some v1 ∧ w.cell? ⟨b, 2, none⟩ = some v2 ∧ w.cell? ⟨b, 3, none⟩ = some v3 ∧ ∀ o, w.frozen? ⟨b, o, none⟩ = false :=
  ⟨by rw [cell_of_row w b 0 _ _ (0, 0) h]; rfl, by rw [cell_of_row w b 1 _ _ (0, 0) h]; rfl, by rw [cell_of_row w b 2 _ _ (0, 0) h]; rfl, by rw [cell_of_row w b 3 _ _ (0, 0) h]; rfl, fun _ => frozen_of h⟩
theorem box5 {w : World} {b : Nat} {v0 v1 v2 v3 v4 : Value} {T : TypeId} (h : w.heap[b]? = some (.cells #[v0, v1, v2, v3, v4] T (0, 0))) : w.cell? ⟨b, 0, none⟩ = some v0 ∧ w.cell? ⟨b, 1, none⟩ = some v1 ∧ w.cell? ⟨b, 2, none⟩ = some v2 ∧ w.cell? ⟨b, 3, none⟩ = some v3 ∧ w.cell? ⟨b, 4, none⟩ = some v4 :=
  ⟨by rw [cell_of_row w b 0 _ _ (0, 0) h]; rfl, by rw [cell_of_row w b 1 _ _ (0, 0) h]; rfl, by rw [cell_of_row w b 2 _ _ (0, 0) h]; rfl, by rw [cell_of_row w b 3 _ _ (0, 0) h]; rfl, by rw [cell_of_row w b 4 _ _ (0, 0) h]; rfl⟩
theorem infoI : (Try.prog.info? 3).map (fun i => (i.zero, i.size, i.bytes)) = some (some (.int .i64 0), 1, 8) := by kernel_rfl
def cellsI (l : List Int) : List Value := l.map (Value.int .i64)
theorem cellsI_one (l : List Int) : ∀ u ∈ cellsI l, u.oneCell' = true := by
  intro u hu
  simp only [cellsI, List.mem_map] at hu
  obtain ⟨x, _, rfl⟩ := hu
  rfl
/-- Ints that a call owns. -/
def OwnI (B : Nat) (w : World) (v : Value) (l : List Int) : Prop := w.ownsRow B 3 1 v l.length (cellsI l)
theorem OwnI.app {B n : Nat} {w : World} {v : Value} {l xs : List Int} (h : w.ownsRow B 3 1 v (l.length + n) (cellsI l ++ cellsI xs)) (hn : xs.length = n) : OwnI B w v (l ++ xs) := by
  unfold OwnI
  rw [List.length_append, hn]
  simpa [cellsI] using h
theorem OwnI.ints {B : Nat} {w : World} {v : Value} {l : List Int} (h : OwnI B w v l) : ∃ p c, v = .slice p l.length c ∧ ∀ k : Nat, k < l.length → ∃ b o, p = some ⟨b, o, none⟩ ∧ w.cell? ⟨b, o + k, none⟩ = some (.int .i64 (l.getD k 0)) := by
  rcases h.2 with ⟨rfl, h0⟩ | ⟨g, cap, cur, rfl, h1, h2, h3, h4, h5, h6⟩
  · exact ⟨none, 0, by rw [h0], fun k hk => by omega⟩
  · refine ⟨_, cap, rfl, fun k hk => ⟨g, 0, rfl, ?_⟩⟩
    have := World.ownsRow.cells (g := g) h rfl k (.int .i64 (l.getD k 0)) (by simp [cellsI, List.getD, hk])
    rwa [Codec.add_at] at this

theorem own_heap {B : Nat} {u : World} {v : Value} {l : List Int} (h : OwnI B u v l) {b : Nat} (hb : v.ownBlock = some b) : ∃ cur, u.heap[b]? = some (.cells cur 3 (0, 0)) := by
  rcases h.2 with ⟨rfl, -⟩ | ⟨g, cap, cur, rfl, h1, h2, -⟩
  · simp [Value.ownBlock] at hb
  · simp only [Value.ownBlock, Option.some.injEq] at hb
    subst hb
    exact ⟨cur, h2⟩
theorem own_keep {B : Nat} {u u' : World} {v : Value} {l : List Int} (h : OwnI B u v l) (hk : ∀ b, v.ownBlock = some b → u'.heap[b]? = u.heap[b]?) : OwnI B u' v l := by
  refine ⟨h.1, ?_⟩
  rcases h.2 with h0 | ⟨g, cap, cur, rfl, h1, h2, h3⟩
  · exact .inl h0
  · exact .inr ⟨g, cap, cur, rfl, h1, (hk g rfl).trans h2, h3⟩
theorem push_int {u : World} {ops : Array Oper} {rest : List Oper} {o : Oper} {a : Act} {Q : Exit → Act → World → Prop} (hgd : o.guard = none) (s y : Operand)
    (ho : o.op = .call { callee := .builtin .append, args := #[s, y], argTypes := #[34, 34] })
    (B : Nat) (v : Value) (hs : a.eval s = v) (l : List Int) (n : Nat) (hn : l.length = n) (hown : OwnI B u v l) (hB : B ≤ u.heap.size)
    (g : Nat) (x : Int) (hy : a.eval y = .slice (some ⟨g, 0, Option.none⟩) 1 1) (hg : u.heap[g]? = some (.cells #[.int .i64 x] 3 (0, 0))) (hlen : n ≤ 100000)
    (h : ∀ p c w', Hid (OwnI B w' (.slice p (n + 1) c) (l ++ [x])) → u.grownBy w' v.ownBlock → ((Value.slice p (n + 1) c).ownBlock = v.ownBlock ∨ (Value.slice p (n + 1) c).ownBlock = some u.heap.size) → wpList Try.prog ops Q rest (a.put o.dst (.slice p (n + 1) c)) w') : wpList Try.prog ops Q (o :: rest) a u := by
  subst hn
  obtain ⟨i0, hi, hz0, hz1, hz2⟩ := info_parts infoI
  refine wpList_append_own_at _ hgd s y 34 ho B 3 i0 (.int .i64 0) 1 8 Try.underlying34 hi hz0 hz1 hz2 rfl (by decide) v l.length (cellsI l) hs hown ⟨g, 0, Option.none⟩ 1 1 [.int .i64 x] hy rfl (World.news_of_block hg) ?_ (by unfold maxLen; omega) (by omega) hB ?_
  · intro z hz
    simp at hz
    rw [hz]; rfl
  · intro v' w' ho2 hg2 _ hat
    have R : OwnI B w' v' (l ++ [x]) := OwnI.app (xs := [x]) ho2 rfl
    obtain ⟨p, c, rfl⟩ : ∃ p c, v' = .slice p (l.length + 1) c := by
      rcases ho2.2 with ⟨_, h0⟩ | ⟨g, cap, cur, rfl, _⟩
      · omega
      · exact ⟨_, cap, rfl⟩
    exact h p c w' R hg2 hat
theorem same_leases (l : List (Int × Int)) : Frame.sameLeases l l = true := by
  unfold Frame.sameLeases
  exact allTo_true fun j _ => by simp [Frame.samePair]
theorem same_row (r : Rw) : Frame.sameRow r r = true := by
  simp [Frame.sameRow, same_leases]
theorem same_table (t : Tb) : sameTable t t = true := by
  unfold sameTable
  rw [beq_self_eq_true, beq_self_eq_true, Bool.true_and, Bool.true_and]
  exact allTo_true fun j _ => same_row _

end Go.Proofs.Ytkdjhphakopfeaa.Token
