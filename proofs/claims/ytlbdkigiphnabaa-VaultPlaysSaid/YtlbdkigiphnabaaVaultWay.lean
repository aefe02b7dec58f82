/-
  What is asked of the program's vault, whatever its block is: a predicate on memory, and what each call tells and leaves; with it the laws of layer 7 are walked.
-/
import Derived.Test.YtlbdkigiphnabaaVaultAsks
import Derived.Test.YtlbdkigiphnabaaVaultKept
namespace Go.Proofs.Ytlbdkigiphnabaa.Vault
open Go.RowKit
open _root_.Go.Proofs.Ytlbdkigiphnabaa.Codec (IsBytes)
open _root_.Go.Proofs.Ytlbdkigiphnabaa.Disk (Sl Ref Dsk Holds all)

/-- What a step of the program leaves alone: all blocks but disks', vaults', and its disk's file's. -/
structure Off (w w' : World) (x x' : Option Nat) : Prop where
  block : ∀ (g : Nat) (cs : Array Value) (t : TypeId) (z : Nat × Nat), w.heap[g]? = some (Obj.cells cs t z) → (t ≠ 65 ∧ t ≠ 70) → some g ≠ x → w'.heap[g]? = some (Obj.cells cs t z)
  fresh : x' = x ∨ ∀ g, x' = some g → w.heap.size ≤ g
  size : w.heap.size ≤ w'.heap.size

section
variable {w w' : World} {B v m d : Nat} {room : Int} {y : Vs} {s : Sl} {x x' : Option Nat}
theorem Off.below (hb : Below w.heap.size w w') : Off w w' x x := ⟨fun g _ _ _ h _ _ => (hb.block g (Codec.lt_of_heap h)).trans h, .inl rfl, hb.size⟩
/-- A step of the program's disk. -/
theorem Off.aside (hd : Dsk 65 5 B w d room s x) (ha : Disk.Aside w w' d x x') : Off w w' x x' := by
  refine ⟨fun g cs t z h ht hx => (ha.block g (Codec.lt_of_heap h) ?_ hx).trans h, ha.fresh, ha.size⟩
  rintro rfl
  obtain ⟨_, p, c, hh, _⟩ := hd
  rw [h] at hh
  simp only [Option.some.injEq, Obj.cells.injEq] at hh
  exact ht.1 hh.2.1
theorem Off.ref (ho : Off w w' x x') (h : Ref 41 5 B w m room s x) (hx : ∀ g, x = some g → ∃ cs z, w.heap[g]? = some (Obj.cells cs 5 z)) : Ref 41 5 B w' m room s x' := by
  obtain ⟨h0, p, c, q, k, h1, h2, h3⟩ := h
  refine ⟨h0, p, c, q, k, ho.block m _ _ (0, 0) h1 ⟨by decide, by decide⟩ ?_, h2.on (fun g cs z hg hne => ho.block g cs _ z hg ⟨by decide, by decide⟩ hne) ho.fresh, h3.on (fun g cs z hg hne => ho.block g cs _ z hg ⟨by decide, by decide⟩ hne) ho.fresh⟩
  intro e
  obtain ⟨cs, z, hh⟩ := hx m e.symm
  rw [h1] at hh
  simp at hh
theorem Off.vlt {l : List Sv} (ho : Off w w' x x') (h : Vlt 52 47 B w v m l) (hx : ∀ g, x = some g → ∃ cs z, w.heap[g]? = some (Obj.cells cs 5 z)) : Vlt 52 47 B w' v m l := by
  obtain ⟨h0, p, c, h1, h2⟩ := h
  refine ⟨h0, p, c, ho.block v _ _ (0, 0) h1 ⟨by decide, by decide⟩ ?_, h2.1, ?_⟩
  · intro e
    obtain ⟨cs, z, hh⟩ := hx v e.symm
    rw [h1] at hh
    simp at hh
  · rcases h2.2 with h2 | ⟨g, cap, cur, e, k1, k2, k3⟩
    · exact .inl h2
    · refine .inr ⟨g, cap, cur, e, k1, ho.block g cur _ (0, 0) k2 ⟨by decide, by decide⟩ ?_, k3⟩
      intro e
      obtain ⟨cs, z, hh⟩ := hx g e.symm
      rw [k2] at hh
      simp at hh
/-- The file's block is one of bytes. -/
theorem file_block (h : Dsk 65 5 B w d room s x) : ∀ g, x = some g → ∃ cs z, w.heap[g]? = some (Obj.cells cs 5 z) := by
  obtain ⟨_, p, c, _, ho, hx⟩ := h
  intro g e
  rcases ho.2 with ⟨e2, _⟩ | ⟨g', cap, cur, e2, _, k2, _⟩
  · rw [e2] at hx
    simp [Value.ownBlock] at hx
    rw [e] at hx
    cases hx
  · rw [e2] at hx
    simp [Value.ownBlock] at hx
    rw [e] at hx
    simp only [Option.some.injEq] at hx
    subst hx
    exact ⟨cur, (0, 0), k2⟩
theorem file_lt (h : Dsk 65 5 B w d room s x) : ∀ g, x = some g → g < w.heap.size := fun g e => by
  obtain ⟨cs, z, hh⟩ := file_block h g e
  exact Codec.lt_of_heap hh
/-- A block that is neither a disk's, nor a vault's, nor of bytes. -/
theorem Off.box (ho : Off w w' x x') (hd : Dsk 65 5 B w d room s x) {g : Nat} {cs : Array Value} {t : TypeId} {z : Nat × Nat} (h : w.heap[g]? = some (Obj.cells cs t z)) (h1 : t ≠ 65) (h2 : t ≠ 70) (h3 : t ≠ 5) : w'.heap[g]? = some (Obj.cells cs t z) := by
  refine ho.block g cs t z h ⟨h1, h2⟩ ?_
  intro e
  obtain ⟨cs', z', hh⟩ := file_block hd g e.symm
  rw [h] at hh
  simp only [Option.some.injEq, Obj.cells.injEq] at hh
  exact h3 hh.2.1
theorem Off.rv (ho : Off w w' x x') (hd : Dsk 65 5 B w d room s x) (h : Rv B w v m room y x) : Rv B w' v m room y x' :=
  ⟨ho.vlt h.vlt (file_block hd), ho.ref h.ref (file_block hd)⟩
end

/-- The program's vault moves. -/
def Moved (PV : Nat → World → Nat → Nat → Int → Vs → Option Nat → Prop) (B : Nat) (w : World) (q d : Nat) (room : Int) (y : Vs) (x : Option Nat) (w' : World) : Prop := ∃ x', PV B w' q d room y x' ∧ Off w w' x x' ∧ Below B w w'
structure Way (PV : Nat → World → Nat → Nat → Int → Vs → Option Nat → Prop) : Prop where
  dsk : ∀ {B w q d room y x}, PV B w q d room y x → Dsk 65 5 B w d room y.1 x
  below : ∀ {B w q d room y x w'}, PV B w q d room y x → Below w.heap.size w w' → PV B w' q d room y x
  kept : ∀ {B w q d room y x w'}, PV B w q d room y x → Kept own7 w w' → PV B w' q d room y x
  state : ∀ {B w q d room y x}, PV B w q d room y x → Calls Try.prog 21 #[.pointer (some ⟨q, 0, none⟩)] w fun e w' => e = .returned (val (last y.2)) ∧ Below w.heap.size w w'
  recs : ∀ {B w q d room y x}, PV B w q d room y x → Calls Try.prog 22 #[.pointer (some ⟨q, 0, none⟩)] w fun e w' => e = .returned (.int .i64 (y.2.length : Int)) ∧ Below w.heap.size w w'
  put : ∀ {B w q d room y x}, PV B w q d room y x → B ≤ w.heap.size → Good room y → room ≤ 16777216 → ∀ s, Nums s → Calls Try.prog 11 #[.pointer (some ⟨q, 0, none⟩), val s] w fun e w' => e = .returned (.int .i64 (ePut room y s)) ∧ Moved PV B w q d room (vPut room y s) x w'
  sync : ∀ {B w q d room y x}, PV B w q d room y x → B ≤ w.heap.size → Good room y → room ≤ 16777216 → Calls Try.prog 14 #[.pointer (some ⟨q, 0, none⟩)] w fun e w' => e = .returned (.tuple #[]) ∧ Moved PV B w q d room (vSync room y) x w'
  opens : ∀ {B w d room} {s : Sl} {x}, Dsk 65 5 B w d room s x → B ≤ w.heap.size → Holds room s → room ≤ 16777216 → IsBytes (all s) → Calls Try.prog 8 #[.pointer (some ⟨d, 0, none⟩)] w fun e w' =>
    (states (all s) = none ∧ e = .returned (.tuple #[.pointer none, .int .i64 2]) ∧ Below w.heap.size w w') ∨
    (∃ l q, states (all s) = some l ∧ e = .returned (.tuple #[.pointer (some ⟨q, 0, none⟩), .int .i64 0]) ∧ Moved PV B w q d room (cut room s, l) x w')
  rises : ∀ (a b : Sv) (w : World), Calls Try.prog 19 #[val a, val b] w fun e w' => e = .returned (.bool (rises a b)) ∧ Below w.heap.size w w'
end Go.Proofs.Ytlbdkigiphnabaa.Vault
