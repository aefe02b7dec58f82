/-
  What is asked of the program's election, whatever its blocks are: a predicate on memory, and what each call tells and leaves (Way17); results that are one; the live question.
-/
import Derived.Test.YthehbphpchmdiaaElectRef2
import Derived.Laws.StructEq
import Derived.IntWalk
namespace Go.Proofs.Ythehbphpchmdiaa.Elect
open Go.RowKit
open _root_.Go.Proofs.Ythehbphpchmdiaa.Codec (lt_of_heap frozen_of heap_set below_new)
open _root_.Go.Proofs.Ythehbphpchmdiaa.Kit (cell_on lt_heap below_drewN)
open _root_.Go.Proofs.Ythehbphpchmdiaa.Ring (has put okRing)

/-- These blocks stay. -/
structure Stays (F : Nat → Prop) (w w' : World) : Prop where
  size : w.heap.size ≤ w'.heap.size
  same : ∀ g, F g → g < w.heap.size → w'.heap[g]? = w.heap[g]?
/-- What is none of F's blocks stays. -/
structure Spare (F : Nat → Prop) (w w' : World) : Prop where
  size : w.heap.size ≤ w'.heap.size
  same : ∀ g, ¬ F g → g < w.heap.size → w'.heap[g]? = w.heap[g]?
section
variable {F G : Nat → Prop} {w w' u : World}
theorem Stays.refl (F : Nat → Prop) (w : World) : Stays F w w := ⟨Nat.le_refl _, fun _ _ _ => rfl⟩
theorem Stays.trans (h : Stays F w w') (k : Stays F w' u) : Stays F w u := ⟨Nat.le_trans h.size k.size, fun g hg hl => (k.same g hg (Nat.lt_of_lt_of_le hl h.size)).trans (h.same g hg hl)⟩
theorem Stays.below (hb : Below w.heap.size w w') : Stays F w w' := ⟨hb.size, fun g _ hl => hb.block g hl⟩
theorem Spare.below (hb : Below w.heap.size w w') : Spare F w w' := ⟨hb.size, fun g _ hl => hb.block g hl⟩
theorem Spare.one {b : Nat} (hb : F b) (hs : w.heap.size ≤ w'.heap.size) (h : ∀ g, g ≠ b → g < w.heap.size → w'.heap[g]? = w.heap[g]?) : Spare F w w' := ⟨hs, fun g hg hl => h g (fun e => hg (e ▸ hb)) hl⟩
end
abbrev Pw := (Nat → Prop) → Nat → World → Nat → El → Prop
/-- The program's election moves; the blocks of F stay, and the program's other elections. -/
structure Moved (PW : Pw) (F : Nat → Prop) (B : Nat) (w : World) (q : Nat) (e : El) (w' : World) : Prop where
  pw : PW F B w' q e
  others : ∀ q' e', q' ≠ q → PW F B w q' e' → PW F B w' q' e'
  below : Below B w w'
  rest : Stays F w w'
structure Way17 (PW : Pw) : Prop where
  lt : ∀ {F B w q e}, PW F B w q e → B ≤ q ∧ q < w.heap.size
  lower : ∀ {F B B' w q e}, PW F B w q e → B' ≤ B → PW F B' w q e
  turned : ∀ {F G B w q e w'}, PW F B w q e → Spare F w w' → (∀ g, G g → F g ∨ w.heap.size ≤ g) → PW G B w' q e
  new : ∀ n node promised round w, okNew n node promised round = true → Calls Try.prog 6 #[.int .i64 n, .int .i64 node, .int .i64 promised, .int .i64 round] w fun x w' => ∃ q, x = .returned (.tuple #[.pointer (some ⟨q, 0, none⟩), .int .i64 0]) ∧ PW (fun g => g < w.heap.size) w.heap.size w' q (start n node promised round) ∧ Below w.heap.size w w'
  bad : ∀ n node promised round w, okNew n node promised round = false → Num n → Num node → Num promised → Num round → Calls Try.prog 6 #[.int .i64 n, .int .i64 node, .int .i64 promised, .int .i64 round] w fun x w' => x = .returned (.tuple #[.pointer none, .int .i64 1]) ∧ Below w.heap.size w w'
  stand : ∀ {F B w q e}, PW F B w q e → B ≤ w.heap.size → Calls Try.prog 12 #[.pointer (some ⟨q, 0, none⟩)] w fun x w' => x = .returned (.tuple #[rsVal (stand e).2.1, .int .i64 (stand e).2.2]) ∧ Moved PW F B w q (stand e).1 w'
  take : ∀ {F B w q e}, PW F B w q e → B ≤ w.heap.size → ∀ gen x, Num gen → Set64 x → Calls Try.prog 13 #[.pointer (some ⟨q, 0, none⟩), .int .i64 gen, .int .u64 x] w fun y w' => y = .returned (rsVal (take e gen x).2) ∧ Moved PW F B w q (take e gen x).1 w'
  raise : ∀ {F B w q e}, PW F B w q e → B ≤ w.heap.size → ∀ gen, Num gen → Calls Try.prog 14 #[.pointer (some ⟨q, 0, none⟩), .int .i64 gen] w fun y w' => y = .returned (.bool (raise e gen).2) ∧ Moved PW F B w q (raise e gen).1 w'
  promised : ∀ {F B w q e}, PW F B w q e → Calls Try.prog 8 #[.pointer (some ⟨q, 0, none⟩)] w fun y w' => y = .returned (.int .i64 e.promised) ∧ Below w.heap.size w w'
  round : ∀ {F B w q e}, PW F B w q e → Calls Try.prog 10 #[.pointer (some ⟨q, 0, none⟩)] w fun y w' => y = .returned (.int .i64 e.round) ∧ Below w.heap.size w w'
  standing : ∀ {F B w q e}, PW F B w q e → Calls Try.prog 11 #[.pointer (some ⟨q, 0, none⟩)] w fun y w' => y = .returned (.int .i64 e.ballot) ∧ Below w.heap.size w w'
  nstand : ∀ w, Calls Try.prog 12 #[.pointer none] w fun x w' => x = .returned (.tuple #[rsVal noRs, .int .i64 1]) ∧ Below w.heap.size w w'
  ntake : ∀ gen x w, Calls Try.prog 13 #[.pointer none, .int .i64 gen, .int .u64 x] w fun y w' => y = .returned (rsVal noRs) ∧ Below w.heap.size w w'
  nraise : ∀ gen w, Calls Try.prog 14 #[.pointer none, .int .i64 gen] w fun y w' => y = .returned (.bool false) ∧ Below w.heap.size w w'
  npromised : ∀ w, Calls Try.prog 8 #[.pointer none] w fun y w' => y = .returned (.int .i64 0) ∧ Below w.heap.size w w'
  nround : ∀ w, Calls Try.prog 10 #[.pointer none] w fun y w' => y = .returned (.int .i64 0) ∧ Below w.heap.size w w'
  nstanding : ∀ w, Calls Try.prog 11 #[.pointer none] w fun y w' => y = .returned (.int .i64 0) ∧ Below w.heap.size w w'
section
variable {PW : Pw} {F : Nat → Prop} {B q : Nat} {w w' u : World} {e e' : El}
theorem Way17.below (P : Way17 PW) (h : PW F B w q e) (hb : Below w.heap.size w w') : PW F B w' q e := P.turned h (Spare.below hb) fun _ hg => .inl hg
/-- The object of a result. -/
def rsObj (r : Rs) : Obj := .cells #[.bool r.send, .int .i64 r.gen, .int .u64 r.bits, .bool r.won] 40 (0, 0)
/-- An election of the program's, while it is used alone; results that were laid in boxes. -/
def Al (PW : Pw) (w : World) (q : Nat) (e : El) (bs : List (Nat × Rs)) (u : World) : Prop := ∃ F, PW F w.heap.size u q e ∧ (∀ x ∈ bs, F x.1 ∧ u.heap[x.1]? = some (rsObj x.2)) ∧ Below w.heap.size w u
theorem Al.on {bs : List (Nat × Rs)} (P : Way17 PW) (h : Al PW w q e bs u) (hb : Below u.heap.size u w') : Al PW w q e bs w' := by
  obtain ⟨F, h1, h2, h3⟩ := h
  exact ⟨F, P.below h1 hb, fun x hx => ⟨(h2 x hx).1, (hb.block _ (lt_heap (h2 x hx).2)).trans (h2 x hx).2⟩, h3.trans (hb.mono h3.size)⟩
theorem Al.box {bs : List (Nat × Rs)} (P : Way17 PW) (h : Al PW w q e bs u) (r : Rs) : Al PW w q e ((u.heap.size, r) :: bs) (u.alloc (rsObj r)) := by
  obtain ⟨F, h1, h2, h3⟩ := h
  refine ⟨fun g => F g ∨ g = u.heap.size, P.turned h1 (Spare.below (lay u _)) (fun g hg => hg.imp id fun e => by omega), fun x hx => ?_, h3.trans ((lay u _).mono h3.size)⟩
  rcases List.mem_cons.1 hx with rfl | hx
  · exact ⟨.inr rfl, heap_alloc_new u _⟩
  · exact ⟨.inl (h2 x hx).1, ((lay u _).block _ (lt_heap (h2 x hx).2)).trans (h2 x hx).2⟩
theorem Al.cells {bs : List (Nat × Rs)} (h : Al PW w q e bs u) {b : Nat} {r : Rs} (hx : (b, r) ∈ bs) : u.cell? ⟨b, 0, none⟩ = some (.bool r.send) ∧ u.cell? ⟨b, 1, none⟩ = some (.int .i64 r.gen) ∧ u.cell? ⟨b, 2, none⟩ = some (.int .u64 r.bits) ∧ u.cell? ⟨b, 3, none⟩ = some (.bool r.won) := by
  obtain ⟨F, h1, h2, h3⟩ := h
  have k := (h2 _ hx).2
  exact ⟨by rw [cell_of_row u b 0 _ _ (0, 0) k]; rfl, by rw [cell_of_row u b 1 _ _ (0, 0) k]; rfl, by rw [cell_of_row u b 2 _ _ (0, 0) k]; rfl, by rw [cell_of_row u b 3 _ _ (0, 0) k]; rfl⟩
theorem Al.below {bs : List (Nat × Rs)} (h : Al PW w q e bs u) : Below w.heap.size w u := by
  obtain ⟨F, h1, h2, h3⟩ := h
  exact h3
end
/-- Two results that are one. -/
def same4 (a b : Rs) : Bool := a.send == b.send && a.gen == b.gen && a.bits == b.bits && a.won == b.won
theorem same4_self (a : Rs) : same4 a a = true := by simp [same4]
theorem eq4 (a b : Rs) (w : World) : (Op.equalIn 10000 40 (rsVal a) (rsVal b)).run Try.prog w = .ok (same4 a b) w := by
  unfold rsVal
  rw [run_equalIn_agg w 9999 _ _ _ (by kernel_rfl) (by kernel_rfl)]
  have e : ∀ (a b : Int) (w : World), (Op.equalIn 9999 3 (.int .i64 a) (.int .i64 b)).run Try.prog w = .ok (a == b) w := fun a b w => run_equalIn_int w 9998 _ _ _ a b Try.underlying3
  have e' : ∀ (a b : Int) (w : World), (Op.equalIn 9999 34 (.int .u64 a) (.int .u64 b)).run Try.prog w = .ok (a == b) w := fun a b w => run_equalIn_int w 9998 _ _ _ a b Try.underlying34
  have e2 : ∀ (a b : Bool) (w : World), (Op.equalIn 9999 4 (.bool a) (.bool b)).run Try.prog w = .ok (a == b) w := fun a b w => run_equalIn_bool' w 9998 _ a b Try.underlying4
  unfold same4
  cases h1 : (a.send == b.send) <;> cases h2 : (a.gen == b.gen) <;> cases h3 : (a.bits == b.bits) <;> cases h4 : (a.won == b.won) <;> simp [Program.fieldsOf, Try.underlying40, Op.eqFields, part, isAgg, run_underlying Try.underlying3, run_underlying Try.underlying34, run_underlying Try.underlying4, e, e', e2, h1, h2, h3, h4]
theorem eq4r (a b : Rs) (w : World) : (Op.equalIn 10000 62 (rsVal a) (rsVal b)).run Try.prog w = .ok (same4 a b) w := by
  unfold rsVal
  rw [run_equalIn_agg w 9999 _ _ _ (by kernel_rfl) (by kernel_rfl)]
  have e : ∀ (a b : Int) (w : World), (Op.equalIn 9999 3 (.int .i64 a) (.int .i64 b)).run Try.prog w = .ok (a == b) w := fun a b w => run_equalIn_int w 9998 _ _ _ a b Try.underlying3
  have e' : ∀ (a b : Int) (w : World), (Op.equalIn 9999 34 (.int .u64 a) (.int .u64 b)).run Try.prog w = .ok (a == b) w := fun a b w => run_equalIn_int w 9998 _ _ _ a b Try.underlying34
  have e2 : ∀ (a b : Bool) (w : World), (Op.equalIn 9999 4 (.bool a) (.bool b)).run Try.prog w = .ok (a == b) w := fun a b w => run_equalIn_bool' w 9998 _ a b Try.underlying4
  unfold same4
  cases h1 : (a.send == b.send) <;> cases h2 : (a.gen == b.gen) <;> cases h3 : (a.bits == b.bits) <;> cases h4 : (a.won == b.won) <;> simp [Program.fieldsOf, Try.underlying62, Op.eqFields, part, isAgg, run_underlying Try.underlying3, run_underlying Try.underlying34, run_underlying Try.underlying4, e, e', e2, h1, h2, h3, h4]
theorem eql4 (a b : Rs) (w : World) : (binOp .eql 40 (rsVal a) (rsVal b)).run Try.prog w = .ok (.bool (same4 a b)) w := by
  have := eq4 a b w
  unfold rsVal at this ⊢
  rw [run_eql_struct, this]; rfl
theorem eql4r (a b : Rs) (w : World) : (binOp .eql 62 (rsVal a) (rsVal b)).run Try.prog w = .ok (.bool (same4 a b)) w := by
  have := eq4r a b w
  unfold rsVal at this ⊢
  rw [run_eql_struct, this]; rfl
end Go.Proofs.Ythehbphpchmdiaa.Elect
