/-
  What is asked of the program's queue, whatever its blocks are: a predicate on memory, and what each call tells and leaves (Way12); the live question.
  Words for memory: the program's queue (Pq): a block with a room and a slice of items that it owns; how it moves.
  The program's closures over one number, named, right, head, picked; slices.IndexFunc, ContainsFunc and Clone at items. Of slices of up to 1000 items.
  slices.DeleteFunc at items, of a slice that a call owns: what is not struck stays in its place's block, the rest of it is zero. Of up to 1000 items.
  The program's leave, head, Take, Expire and Put, of any queue of up to 16 items, and of none.
  In turn: what taking the first one of a key, again and again, does to the items; their order, their places. Plain functions, no program.
-/
import Derived.Deep.RegionHeld3
import Derived.Shelf.Abstract
import Derived.Lib.SliceRun
import Derived.Deep.MidRow
import Derived.Test.YtbgdlokegibkmaaGreatMmAk
import Derived.Test.YtbgdlokegibkmaaGreatMmAb
namespace Go.Proofs.YtbgdlokegibkmaaGreat.Queue
open Go.RowKit
open _root_.Go.Proofs.YtbgdlokegibkmaaGreat.Codec (lt_of_heap frozen_of heap_set own_below)
open _root_.Go.Proofs.YtbgdlokegibkmaaGreat.Kit (Enc Lies Own At Kept Laid Off cell_on lt_heap take_snoc below_drewN box5 ints)
/-- The document's blocks. -/
abbrev mine : List TypeId := [90, 113]
/-- The first one of a list. -/
def head : List It → It × Bool
  | [] => (z, false)
  | x :: _ => (x, true)
/-- Of: blocks that are none of the queue's, where these begin, the world, the queue's address, its room, its items. -/
abbrev Pw := (Nat → Prop) → Nat → World → Nat → Int → List It → Prop
/-- The program's queue moves. -/
structure Moved (PW : Pw) (F : Nat → Prop) (B : Nat) (w : World) (q : Nat) (room : Int) (l : List It) (w' : World) : Prop where
  pw : PW F B w' q room l
  off : Off mine w w'
  below : Below B w w'
  rest : ∀ g, F g → g < w.heap.size → w'.heap[g]? = w.heap[g]?
structure Way12 (PW : Pw) : Prop where
  below : ∀ {F B w q room l w'}, PW F B w q room l → Below w.heap.size w w' → PW F B w' q room l
  kept : ∀ {F B w q room l w'}, PW F B w q room l → Kept [90] w w' → Below B w w' → PW F B w' q room l
  sub : ∀ {F G B w q room l}, PW F B w q room l → (∀ g, G g → F g) → PW G B w q room l
  grow : ∀ {F B w q room l w'}, PW F B w q room l → Below w.heap.size w w' → PW (fun g => F g ∨ w.heap.size ≤ g ∧ g < w'.heap.size) B w' q room l
  new : ∀ room w, 0 ≤ room → room ≤ 16 → Calls Tryz.prog 79 #[.int .i64 room] w fun e w' => ∃ q, e = .returned (.tuple #[.pointer (some ⟨q, 0, none⟩), .int .i64 0]) ∧ PW (fun g => g < w.heap.size) w.heap.size w' q room [] ∧ Below w.heap.size w w'
  newno : ∀ room w, (room < 0 ∨ 16 < room) → Calls Tryz.prog 79 #[.int .i64 room] w fun e w' => e = .returned (.tuple #[.pointer none, .int .i64 1]) ∧ Below w.heap.size w w'
  put : ∀ {F B w q room l}, PW F B w q room l → B ≤ w.heap.size → Good room l → l.length ≤ 16 → ∀ x, Nums x → Calls Tryz.prog 89 #[.pointer (some ⟨q, 0, none⟩), val x] w fun e w' => e = .returned (.int .i64 (put room l x).2) ∧ Moved PW F B w q room (put room l x).1 w'
  take : ∀ {F B w q room l}, PW F B w q room l → B ≤ w.heap.size → Good room l → l.length ≤ 16 → ∀ id, Num id → Calls Tryz.prog 162 #[.pointer (some ⟨q, 0, none⟩), .int .i64 id] w fun e w' => e = .returned (.tuple #[val (take l id).2.1, .bool (take l id).2.2]) ∧ Moved PW F B w q room (take l id).1 w'
  first : ∀ {F B w q room l}, PW F B w q room l → Good room l → l.length ≤ 16 → ∀ key, Num key → Calls Tryz.prog 86 #[.pointer (some ⟨q, 0, none⟩), .int .i64 key] w fun e w' => e = .returned (.tuple #[val (head (of l key)).1, .bool (head (of l key)).2]) ∧ Below w.heap.size w w'
  of : ∀ {F B w q room l}, PW F B w q room l → Good room l → l.length ≤ 16 → ∀ key, Num key → Calls Tryz.prog 138 #[.pointer (some ⟨q, 0, none⟩), .int .i64 key] w fun e w' => ∃ p c, e = .returned (.slice p (of l key).length c) ∧ Lies item w' p (of l key) ∧ Below w.heap.size w w'
  keys : ∀ {F B w q room l}, PW F B w q room l → Good room l → l.length ≤ 16 → Calls Tryz.prog 159 #[.pointer (some ⟨q, 0, none⟩)] w fun e w' => ∃ p c, e = .returned (.slice p (keys l).length c) ∧ Lies ints w' p (keys l) ∧ Below w.heap.size w w'
  sum : ∀ {F B w q room l}, PW F B w q room l → Good room l → l.length ≤ 16 → ∀ key, Num key → Calls Tryz.prog 200 #[.pointer (some ⟨q, 0, none⟩), .int .i64 key] w fun e w' => e = .returned (.int .i64 (sum l key)) ∧ Below w.heap.size w w'
  all : ∀ {F B w q room l}, PW F B w q room l → Good room l → l.length ≤ 16 → Calls Tryz.prog 36 #[.pointer (some ⟨q, 0, none⟩)] w fun e w' => ∃ p c, e = .returned (.slice p l.length c) ∧ Lies item w' p l ∧ Below w.heap.size w w'
  nput : ∀ x w, Calls Tryz.prog 89 #[.pointer none, val x] w fun e w' => e = .returned (.int .i64 1) ∧ Below w.heap.size w w'
  ntake : ∀ id w, Calls Tryz.prog 162 #[.pointer none, .int .i64 id] w fun e w' => e = .returned (.tuple #[val z, .bool false]) ∧ Below w.heap.size w w'
  nfirst : ∀ key w, Calls Tryz.prog 86 #[.pointer none, .int .i64 key] w fun e w' => e = .returned (.tuple #[val z, .bool false]) ∧ Below w.heap.size w w'
  nof : ∀ key w, Calls Tryz.prog 138 #[.pointer none, .int .i64 key] w fun e w' => ∃ p c, e = .returned (.slice p 0 c) ∧ Below w.heap.size w w'
  nkeys : ∀ w, Calls Tryz.prog 159 #[.pointer none] w fun e w' => ∃ p c, e = .returned (.slice p 0 c) ∧ Below w.heap.size w w'
  nsum : ∀ key w, Calls Tryz.prog 200 #[.pointer none, .int .i64 key] w fun e w' => e = .returned (.int .i64 0) ∧ Below w.heap.size w w'
  nall : ∀ w, Calls Tryz.prog 36 #[.pointer none] w fun e w' => ∃ p c, e = .returned (.slice p 0 c) ∧ Below w.heap.size w w'
theorem lay (w : World) (o : Obj) : Below w.heap.size w (w.alloc o) := (Below.refl _ _).alloc (Nat.le_refl _) o
def x1 : It := ⟨1, 5, 3, 2, 9⟩
def x2 : It := ⟨2, 5, 4, 0, 7⟩
def x3 : It := ⟨3, 5, 4, 0, 7⟩
end Go.Proofs.YtbgdlokegibkmaaGreat.Queue

namespace Go.Proofs.YtbgdlokegibkmaaGreat.Queue
open Go.RowKit
open _root_.Go.Proofs.YtbgdlokegibkmaaGreat.Codec (lt_of_heap frozen_of heap_set own_below)
open _root_.Go.Proofs.YtbgdlokegibkmaaGreat.Kit (Enc Lies Own At Kept Laid Off cell_on lt_heap take_snoc below_drewN box5 ints own_keep own_lt)
theorem laidP : Laid Tryz.prog item 136 69 := ⟨Tryz.underlying69, .agg #[.int .i64 0, .int .i64 0, .int .i64 0, .int .i64 0, .int .i64 0], 40, by kernel_rfl, rfl, by decide⟩
/-- The program's queue, whose slice is y. -/
structure Pqy (F : Nat → Prop) (B : Nat) (w : World) (q : Nat) (room : Int) (l : List It) (y : Value) : Prop where
  ge : B ≤ q
  nf : ¬ F q
  blk : w.heap[q]? = some (.cells #[.int .i64 room, y] 152 (0, 0))
  own : Own item 136 B w y l
  nfy : ∀ g, y.ownBlock = some g → ¬ F g
  fl : ∀ g, F g → g < w.heap.size
def Pq : Pw := fun F B w q room l => ∃ y, Pqy F B w q room l y
section
variable {F G : Nat → Prop} {B q : Nat} {w w' u : World} {room : Int} {l l' : List It} {y y' : Value}
theorem Pqy.lt (h : Pqy F B w q room l y) : q < w.heap.size := lt_of_heap h.blk
theorem Pqy.below (h : Pqy F B w q room l y) (hb : Below w.heap.size w w') : Pqy F B w' q room l y :=
  ⟨h.ge, h.nf, (hb.block q h.lt).trans h.blk, h.own.on hb, h.nfy, fun g hg => Nat.lt_of_lt_of_le (h.fl g hg) hb.size⟩
theorem Pqy.kept (h : Pqy F B w q room l y) (hk : Kept [90] w w') : Pqy F B w' q room l y :=
  ⟨h.ge, h.nf, hk.block q _ _ _ h.blk (by simp), Own.kept h.own hk (by simp), h.nfy, fun g hg => Nat.lt_of_lt_of_le (h.fl g hg) hk.size⟩
theorem Pqy.sub (h : Pqy F B w q room l y) (hg : ∀ g, G g → F g) : Pqy G B w q room l y :=
  ⟨h.ge, fun e => h.nf (hg _ e), h.blk, h.own, fun g e e2 => h.nfy g e (hg _ e2), fun g e => h.fl g (hg _ e)⟩
theorem Pqy.grow (h : Pqy F B w q room l y) (hb : Below w.heap.size w w') : Pqy (fun g => F g ∨ w.heap.size ≤ g ∧ g < w'.heap.size) B w' q room l y := by
  have h' := h.below hb
  refine ⟨h.ge, fun e => ?_, h'.blk, h'.own, fun g e e2 => ?_, fun g e => ?_⟩
  · rcases e with e | e
    · exact h.nf e
    · have := h.lt; omega
  · rcases e2 with e2 | e2
    · exact h.nfy g e e2
    · have := own_lt h.own e; omega
  · rcases e with e | e
    · exact h'.fl g e
    · exact e.2
theorem Pqy.cell (h : Pqy F B w q room l y) : ∃ p c, y = .slice p l.length c ∧ w.cell? ⟨q, 1, none⟩ = some (.slice p l.length c) ∧ Lies item w p l ∧ (p = none → c = 0) ∧ w.cell? ⟨q, 0, none⟩ = some (.int .i64 room) := by
  obtain ⟨p, c, rfl, hl⟩ := h.own.lies
  refine ⟨p, c, rfl, by rw [cell_of_row w q 1 _ _ (0, 0) h.blk]; rfl, hl, ?_, by rw [cell_of_row w q 0 _ _ (0, 0) h.blk]; rfl⟩
  rintro rfl
  rcases h.own.2 with ⟨e, -⟩ | ⟨g, cap, cur, e, -⟩
  · simp only [Value.slice.injEq] at e
    exact e.2.2
  · simp at e
theorem own_type {B : Nat} {w : World} {v : Value} {l : List It} {T : TypeId} (h : Own item T B w v l) {b : Nat} (hb : v.ownBlock = some b) : ∃ cur, w.heap[b]? = some (.cells cur T (0, 0)) := by
  rcases h.2 with ⟨rfl, -⟩ | ⟨g, cap, cur, rfl, h1, h2, -⟩
  · simp [Value.ownBlock] at hb
  · simp only [Value.ownBlock, Option.some.injEq] at hb
    subst hb
    exact ⟨cur, h2⟩
/-- The slice's own block is not the queue's. -/
theorem Pqy.apart (h : Pqy F B w q room l y) : y.ownBlock ≠ some q := by
  intro e
  obtain ⟨cur, hc⟩ := own_type h.own e
  rw [h.blk] at hc
  simp only [Option.some.injEq, Obj.cells.injEq] at hc
  exact absurd hc.2.1 (by decide)
/-- The slice's block may have turned, and a new slice is stored. -/
theorem Pqy.turn (h : Pqy F B w q room l y) (hB : B ≤ w.heap.size) (hg : w.grownBy u y.ownBlock) (ho : Own item 136 B u y' l') (hy : ∀ g, y'.ownBlock = some g → y.ownBlock = some g ∨ w.heap.size ≤ g) :
    u.frozen? ⟨q, 1, none⟩ = false ∧ u.cell? ⟨q, 1, none⟩ = some y ∧ Hid (Moved Pq F B w q room l' (u.setCell ⟨q, 1, none⟩ y')) := by
  have hq : u.heap[q]? = _ := (hg.block q h.lt (fun e => h.apart e.symm)).trans h.blk
  have ne1 : ∀ g, y'.ownBlock = some g → g ≠ q := fun g e => by
    rintro rfl
    rcases hy g e with e | e
    · exact h.apart e
    · have := h.lt; omega
  have hb : Below B w u := (Below.refl B w).grown hg hB (fun k e => (World.ownsRow.lt h.own k e).1)
  refine ⟨frozen_of hq, by rw [cell_of_row u q 1 _ _ (0, 0) hq]; rfl, ⟨⟨y', ⟨h.ge, h.nf, ?_, ?_, fun g e e2 => ?_, fun g e => ?_⟩⟩, ⟨Nat.le_trans hg.size (by simp), fun g cs t z e ht => ?_⟩, hb.setCell (p := ⟨q, 1, none⟩) h.ge _, fun g hf hl => ?_⟩⟩
  · rw [heap_set q 1 _ _ hq]; rfl
  · exact own_keep ho (fun b e => Below.heap_setCell _ _ _ _ (ne1 b e))
  · rcases hy g e with e | e
    · exact h.nfy g e e2
    · have := h.fl g e2; omega
  · exact Nat.lt_of_lt_of_le (h.fl g e) (Nat.le_trans hg.size (by simp))
  · have hne : g ≠ q := by
      rintro rfl
      rw [h.blk] at e
      simp only [Option.some.injEq, Obj.cells.injEq] at e
      rw [← e.2.1] at ht
      exact absurd ht (by decide)
    refine (Below.heap_setCell _ _ _ _ hne).trans ((hg.block g (lt_heap e) (fun e2 => ?_)).trans e)
    obtain ⟨cur, hc⟩ := own_type h.own e2.symm
    rw [e] at hc
    simp only [Option.some.injEq, Obj.cells.injEq] at hc
    rw [hc.2.1] at ht
    exact absurd ht (by decide)
  · have hne : g ≠ q := fun e => h.nf (e ▸ hf)
    exact (Below.heap_setCell _ _ _ _ hne).trans (hg.block g hl (fun e => h.nfy g e.symm hf))
theorem Pqy.same (h : Pqy F B w q room l y) (hB : B ≤ w.heap.size) (hb : Below w.heap.size w w') : Moved Pq F B w q room l w' :=
  ⟨⟨y, h.below hb⟩, Off.of_below hb, hb.mono hB, fun g _ hl => hb.block g hl⟩
end
theorem Moved.lift {PW : Pw} {F : Nat → Prop} {B q : Nat} {w u w' : World} {room : Int} {l : List It} (hB : B ≤ w.heap.size) (hb : Below w.heap.size w u) (h : Moved PW F B u q room l w') : Moved PW F B w q room l w' :=
  ⟨h.pw, (Off.of_below hb).trans h.off, (hb.mono hB).trans h.below, fun g hf hl => (h.rest g hf (Nat.lt_of_lt_of_le hl hb.size)).trans (hb.block g hl)⟩
theorem Moved.on {F : Nat → Prop} {B q : Nat} {w u w' : World} {room : Int} {l : List It} (hB : B ≤ w.heap.size) (h : Moved Pq F B w q room l u) (hb : Below u.heap.size u w') : Moved Pq F B w q room l w' :=
  ⟨by obtain ⟨y, hy⟩ := h.pw; exact ⟨y, hy.below hb⟩, h.off.trans (Off.of_below hb), h.below.trans (hb.mono (Nat.le_trans hB h.off.size)), fun g hf hl => (hb.block g (Nat.lt_of_lt_of_le hl h.off.size)).trans (h.rest g hf hl)⟩
set_option maxRecDepth 100000 in
set_option maxHeartbeats 1000000 in
theorem new_no (room : Int) (w : World) (h : room < 0 ∨ 16 < room) : Calls Tryz.prog 79 #[.int .i64 room] w fun e w' => e = .returned (.tuple #[.pointer none, .int .i64 1]) ∧ Below w.heap.size w w' := by
  have hc : decide (room < 0) = true ∨ decide (room < 0) = false ∧ decide (16 < room) = true := by
    by_cases h1 : room < 0
    · exact .inl (by simpa using h1)
    · exact .inr ⟨by simpa using h1, by simp; omega⟩
  rcases hc with h1 | ⟨h1, h2⟩
  all_goals
    go_enter Tryz.func79, Tryz.ntmps79
    go_wp2
    refine bodyPost_ret (v := .tuple #[.pointer none, .int .i64 1]) (by simp [results, Tryz.results79, go_sem]) rfl ⟨rfl, Below.refl _ _⟩
set_option maxRecDepth 100000 in
set_option maxHeartbeats 1000000 in
theorem new_ok (room : Int) (w : World) (h0 : 0 ≤ room) (h1 : room ≤ 16) : Calls Tryz.prog 79 #[.int .i64 room] w fun e w' => ∃ q, e = .returned (.tuple #[.pointer (some ⟨q, 0, none⟩), .int .i64 0]) ∧ Pq (fun g => g < w.heap.size) w.heap.size w' q room [] ∧ Below w.heap.size w w' := by
  have h2 : decide (room < 0) = false := by simp; omega
  have h3 : decide (16 < room) = false := by simp; omega
  have HB := Lib.hid (lay w (.cells #[.int .i64 room, .slice none 0 0] 152))
  have HK := Lib.hid (heap_alloc_new w (.cells #[.int .i64 room, .slice none 0 0] 152))
  go_enter Tryz.func79, Tryz.ntmps79
  go_wp2
  refine bodyPost_ret (v := .tuple #[.pointer (some ⟨w.heap.size, 0, none⟩), .int .i64 0]) (by simp [results, Tryz.results79, go_sem]) rfl ⟨w.heap.size, rfl, ⟨_, ⟨Nat.le_refl _, by simp, HK.out, Own.none _ _ _ _, fun g e => by simp [Value.ownBlock] at e, fun g e => Nat.lt_of_lt_of_le e HB.out.size⟩⟩, HB.out⟩
end Go.Proofs.YtbgdlokegibkmaaGreat.Queue

namespace Go.Proofs.YtbgdlokegibkmaaGreat.Queue
open Go.RowKit
open _root_.Go.Proofs.YtbgdlokegibkmaaGreat.Codec (lt_of_heap frozen_of heap_set own_below)
open _root_.Go.Proofs.YtbgdlokegibkmaaGreat.Kit (Enc Lies Own At Kept Laid Off cell_on lt_heap take_snoc below_drewN box5 ints own_keep own_lt)
open _root_.Go.Proofs.YtbgdlokegibkmaaGreat.Ledger (spot spot_at spot_none spot_cases)
/-- A function value over one captured number tells f of each item, and makes memory alone. -/
def Gives (c : Nat) (id : Int) (g : Nat) (f : It → Bool) : Prop := ∀ (u : World) (x : It), u.cell? ⟨c, 0, none⟩ = some (.int .i64 id) → Calls Tryz.prog g #[val x, .pointer (some ⟨c, 0, none⟩)] u fun e w' => e = .returned (.bool (f x)) ∧ Below u.heap.size u w'
abbrev fnv (g c : Nat) : Value := .func (.func g) #[] #[.pointer (some ⟨c, 0, none⟩)]
abbrev Ent (g : Nat) : Prop := ∀ args w, (callFunc g args).run Tryz.prog w = .ok (.enter g args) w
theorem ent_named : Ent 184 := _root_.Go.Proofs.enters_of Tryz.func184 (by kernel_rfl) rfl
theorem ent_of : Ent 180 := _root_.Go.Proofs.enters_of Tryz.func180 (by kernel_rfl) rfl
def isId (id : Int) (x : It) : Bool := x.id == id
def isKey (k : Int) (x : It) : Bool := x.key == k
set_option maxRecDepth 100000 in
set_option maxHeartbeats 1000000 in
theorem gives_named (c : Nat) (id : Int) : Gives c id 184 (isId id) := by
  intro u x hc
  have hl := World.block_lt_of_cell? _ _ hc
  obtain ⟨xi, xk, xc, xs, xt⟩ := x
  simp only [val, isId]
  go_enter Tryz.func184, Tryz.ntmps184
  go_wp2
  go_ret
  exact ⟨rfl, lay _ _⟩
set_option maxRecDepth 100000 in
set_option maxHeartbeats 1000000 in
theorem gives_of (c : Nat) (key : Int) : Gives c key 180 (isKey key) := by
  intro u x hc
  have hl := World.block_lt_of_cell? _ _ hc
  obtain ⟨xi, xk, xc, xs, xt⟩ := x
  simp only [val, isKey]
  go_enter Tryz.func180, Tryz.ntmps180
  go_wp2
  go_ret
  exact ⟨rfl, lay _ _⟩
set_option maxRecDepth 100000 in
set_option maxHeartbeats 1000000 in
theorem named_any (id : Int) (w : World) : Calls Tryz.prog 141 #[.int .i64 id] w fun e w' => e = .returned (fnv 184 w.heap.size) ∧ w'.cell? ⟨w.heap.size, 0, none⟩ = some (.int .i64 id) ∧ Below w.heap.size w w' := by
  have HB := Lib.hid (lay w (.cells #[.int .i64 id] 3))
  have HK := Lib.hid (cell_of_row _ w.heap.size 0 _ _ (0, 0) (heap_alloc_new w (.cells #[.int .i64 id] 3)))
  go_enter Tryz.func141, Tryz.ntmps141
  go_wp2
  refine bodyPost_ret (v := fnv 184 w.heap.size) (by simp [results, Tryz.results141, go_sem]) rfl ⟨rfl, HK.out, HB.out⟩
set_option maxRecDepth 100000 in
set_option maxHeartbeats 1000000 in
theorem right_any (x : It) (w : World) : Calls Tryz.prog 140 #[val x] w fun e w' => e = .returned (.bool (decide (¬ wrong x))) ∧ Below w.heap.size w w' := by
  have hc : (¬ 1 ≤ x.cost ∧ decide (¬ wrong x) = false) ∨ 1 ≤ x.cost ∧ ((¬ 0 ≤ x.cls ∧ decide (¬ wrong x) = false) ∨ 0 ≤ x.cls ∧ ((¬ x.cls ≤ 2 ∧ decide (¬ wrong x) = false) ∨ x.cls ≤ 2 ∧ (¬ 0 ≤ x.til ∧ decide (¬ wrong x) = false ∨ 0 ≤ x.til ∧ decide (¬ wrong x) = true))) := by
    simp only [decide_eq_false_iff_not, decide_eq_true_eq]
    unfold wrong
    omega
  generalize decide (¬ wrong x) = R at *
  obtain ⟨xi, xk, xc, xs, xt⟩ := x
  simp only [val] at *
  rcases hc with ⟨h1, rfl⟩ | ⟨h1, ⟨h2, rfl⟩ | ⟨h2, ⟨h3, rfl⟩ | ⟨h3, ⟨h4, rfl⟩ | ⟨h4, rfl⟩⟩⟩⟩
  all_goals
    go_enter Tryz.func140, Tryz.ntmps140
    go_wp2
    go_ret
    exact ⟨rfl, lay _ _⟩
set_option maxRecDepth 100000 in
set_option maxHeartbeats 4000000 in
theorem index_any {c g : Nat} {id : Int} {f : It → Bool} (eg : Ent g) (hg : Gives c id g f) {l : List It} {p : Option Addr} {d : Nat} {w : World} (h : Lies item w p l) (hl : l.length ≤ 1000) (hc : w.cell? ⟨c, 0, none⟩ = some (.int .i64 id)) :
    Calls Tryz.prog 178 #[.slice p l.length d, fnv g c] w fun e w' => e = .returned (.int .i64 (spot f l)) ∧ Below w.heap.size w w' := by
  have HG := Lib.hid (fun u x (hu : Below w.heap.size w u) => hg u x (cell_on hc hu))
  have HL := Lib.hid h
  have HS := Lib.hid (fun (j : Nat) (hj : j < l.length) (hn : ∀ i, i < j → f (l.getD i z) = false) (hy : f (l.getD j z) = true) => spot_at f z l j hj hn hy)
  have HN := Lib.hid (fun (hn : ∀ i, i < l.length → f (l.getD i z) = false) => spot_none f z l hn)
  generalize spot f l = R at *
  clear h hc hg
  go_enter Tryz.func178, Tryz.ntmps178
  go_wp2
  go_loopw [8] (fun i wr => ∃ j : Nat, j ≤ l.length ∧ i = .int .i64 (j : Int) ∧ Hid (∀ i, i < j → f (l.getD i z) = false) ∧ Hid (Below w.heap.size w wr)) (fun i _ => l.length - (intOf i).toNat)
  case atStart => exact ⟨0, by omega, rfl, Lib.hid fun i hi => by omega, Lib.hid (Below.refl _ _)⟩
  case round =>
    obtain ⟨j, hj, rfl, HNE, HB⟩ := hrel
    by_cases hlt : j < l.length
    · have hlt' : (j : Int) < (l.length : Int) := by omega
      obtain ⟨b, o, rfl, ha⟩ := lies_at (HL.out.below HB.out) hlt
      obtain ⟨k0, k1, k2, k3, k4⟩ := at5 ha
      have HC := HG.out wr (l.getD j z) HB.out
      have HY := Lib.hid (fun hy => HS.out j hlt HNE.out hy)
      have HO := Lib.hid (fun (hy : f (l.getD j z) = false) (i : Nat) (hi : i < j + 1) => show f (l.getD i z) = false by
        by_cases e : i = j
        · rw [e]; exact hy
        · exact HNE.out i (by omega))
      generalize f (l.getD j z) = B at *
      generalize l.getD j z = x at *
      obtain ⟨xi, xk, xc, xs, xt⟩ := x
      simp only [val] at k0 k1 k2 k3 k4 HC
      clear ha HL HNE HS HN
      cases B
      · have HO2 := Lib.hid (HO.out rfl)
        go_wp2_with (go_at_fn g; (with_reducible refine HC.mono ?_); rintro e w2 ⟨rfl, hb⟩; have HB2 := Lib.hid (HB.out.trans (hb.mono HB.out.size)); clear hb HC)
        go_roundw
        case rel => exact ⟨j + 1, by omega, by go_num, HO2, HB2⟩
        case measure => simp only [intOf]; omega
      · have HY2 := Lib.hid (HY.out rfl)
        go_wp2_with (go_at_fn g; (with_reducible refine HC.mono ?_); rintro e w2 ⟨rfl, hb⟩; have HB2 := Lib.hid (HB.out.trans (hb.mono HB.out.size)); clear hb HC)
        go_ret
        exact ⟨by rw [HY2.out]; rfl, HB2.out⟩
    · have hlt' : ¬ (j : Int) < (l.length : Int) := by omega
      have HE := Lib.hid (HN.out (fun i hi => HNE.out i (by omega)))
      clear HL HNE HS HN
      go_wp2
      go_ret
      exact ⟨by rw [HE.out]; rfl, HB.out⟩
set_option maxRecDepth 100000 in
set_option maxHeartbeats 1000000 in
theorem contains_any {c g : Nat} {id : Int} {f : It → Bool} (eg : Ent g) (hg : Gives c id g f) {l : List It} {p : Option Addr} {d : Nat} {w : World} (h : Lies item w p l) (hl : l.length ≤ 1000) (hc : w.cell? ⟨c, 0, none⟩ = some (.int .i64 id)) :
    Calls Tryz.prog 135 #[.slice p l.length d, fnv g c] w fun e w' => e = .returned (.bool (decide (0 ≤ spot f l))) ∧ Below w.heap.size w w' := by
  have hi := index_any eg hg (d := d) h hl hc
  generalize spot f l = R at *
  clear h hc hg
  go_enter Tryz.func135, Tryz.ntmps135
  go_wp2_with (go_at_call 178; (with_reducible refine hi.mono ?_); rintro e w2 ⟨rfl, hb⟩; have HB2 := Lib.hid hb; clear hb hi)
  go_ret
  exact ⟨rfl, HB2.out⟩
set_option maxRecDepth 100000 in
set_option maxHeartbeats 4000000 in
theorem picked_any {c g : Nat} {id : Int} {f : It → Bool} (eg : Ent g) (hg : Gives c id g f) {l : List It} {p : Option Addr} {d : Nat} {w : World} (h : Lies item w p l) (hl : l.length ≤ 1000) (hc : w.cell? ⟨c, 0, none⟩ = some (.int .i64 id)) :
    Calls Tryz.prog 179 #[.slice p l.length d, fnv g c] w fun e w' => ∃ y, e = .returned y ∧ Own item 136 w.heap.size w' y (l.filter f) ∧ Below w.heap.size w w' := by
  have HG := Lib.hid (fun u x (hu : Below w.heap.size w u) => hg u x (cell_on hc hu))
  have HL := Lib.hid h
  have HF := Lib.hid (show l.filter f = (l.take l.length).filter f by rw [List.take_length])
  generalize l.filter f = R at *
  clear h hc hg
  go_enter Tryz.func179, Tryz.ntmps179
  go_wp2
  go_loopw [5, 10] (fun y k wr => ∃ (j : Nat) (q : Option Addr) (c' n : Nat), j ≤ l.length ∧ k = .int .i64 (j : Int) ∧ y = .slice q n c' ∧ Hid (Own item 136 w.heap.size wr y ((l.take j).filter f)) ∧ Hid (((l.take j).filter f).length = n) ∧ Hid (Below w.heap.size w wr)) (fun _ k _ => l.length - (intOf k).toNat)
  case atStart => exact ⟨0, none, 0, 0, by omega, rfl, rfl, Lib.hid (Own.none _ _ _ _), Lib.hid rfl, Lib.hid (Below.refl _ _)⟩
  case round =>
    obtain ⟨j, q, c', n, hj, rfl, rfl, HO, HN, HB⟩ := hrel
    by_cases hlt : j < l.length
    · have hlt' : (j : Int) < (l.length : Int) := by omega
      obtain ⟨b, o, rfl, ha⟩ := lies_at (HL.out.below HB.out) hlt
      obtain ⟨k0, k1, k2, k3, k4⟩ := at5 ha
      have hn : n ≤ 1000 := by
        rw [← HN.out]
        exact Nat.le_trans (List.length_filter_le _ _) (by simp; omega)
      have HY := Lib.hid (fun h => filter_yes (f := f) hlt h)
      have HX := Lib.hid (fun h => filter_no (f := f) hlt h)
      generalize (l.take j).filter f = L at *
      generalize l.getD j z = x at *
      have HC := HG.out (wr.alloc (.cells #[.int .i64 x.id, .int .i64 x.key, .int .i64 x.cost, .int .i64 x.cls, .int .i64 x.til] 136)) x (HB.out.trans ((lay wr _).mono HB.out.size))
      have K := Lib.hid (heap_alloc_new wr (.cells #[.int .i64 x.id, .int .i64 x.key, .int .i64 x.cost, .int .i64 x.cls, .int .i64 x.til] 136))
      have HA := Lib.hid (lay wr (.cells #[.int .i64 x.id, .int .i64 x.key, .int .i64 x.cost, .int .i64 x.cls, .int .i64 x.til] 136))
      generalize hfx : f x = fx at *
      obtain ⟨xi, xk, xc, xs, xt⟩ := x
      simp only [val] at k0 k1 k2 k3 k4 HC
      clear ha HL HG HF
      cases fx
      · have HE := Lib.hid (HX.out rfl)
        clear hfx HY HX
        go_wp2_with (go_at_fn g; (with_reducible refine HC.mono ?_); rintro e w2 ⟨rfl, hb⟩; have HB2 := Lib.hid (HA.out.trans (hb.mono HA.out.size)); clear hb HC)
        go_roundw
        case rel => exact ⟨j + 1, q, c', n, by omega, by go_num, rfl, by rw [HE.out]; exact Lib.hid (HO.out.on HB2.out), by rw [HE.out]; exact HN, Lib.hid (HB.out.trans (HB2.out.mono HB.out.size))⟩
        case measure => simp only [intOf]; omega
      · have HE := Lib.hid (HY.out rfl)
        clear hfx HY HX
        go_wp2_with (first
          | (go_at_fn g; (with_reducible refine HC.mono ?_); rintro e w2 ⟨rfl, hb⟩; have HB2 := Lib.hid (HA.out.trans (hb.mono HA.out.size)); obtain ⟨b0, b1, b2, b3, b4⟩ := box5 ((hb.block _ (lt_heap K.out)).trans K.out); clear hb HC)
          | (at_builtin; refine Kit.push laidP rfl _ _ rfl w wr (.slice q n c') rfl L n HN.out HO.out HB.out (HB2.out.alloc HB2.out.size _) w2.heap.size ⟨xi, xk, xc, xs, xt⟩ rfl (heap_alloc_new _ _) (by omega) ?_; intro p4 c4 w4 R4 B4))
        go_roundw
        case rel => exact ⟨j + 1, p4, c4, n + 1, by omega, by go_num, rfl, by rw [HE.out]; exact R4, by rw [HE.out]; exact Lib.hid (by simp [HN.out]), Lib.hid B4⟩
        case measure => simp only [intOf]; omega
    · have hlt' : ¬ (j : Int) < (l.length : Int) := by omega
      obtain rfl : j = l.length := by omega
      rw [← HF.out] at HO
      clear HL HG HF HN
      go_wp2
      go_ret
      exact ⟨_, rfl, HO.out, HB.out⟩
theorem eq_nil (w : World) (a : Option Addr) (n c n' c' : Nat) : (binOp .eql 69 (.slice a n c) (.slice none n' c')).run Tryz.prog w = .ok (.bool a.isNone) w := Lib.run_eql_slice_nil w _ _ a n c n' c' Tryz.underlying69
theorem own_slice {T : TypeId} {B : Nat} {w : World} {v : Value} {l : List It} (h : Own item T B w v l) : ∃ p c, v = .slice p l.length c ∧ Lies item w p l ∧ (p = none → c = 0) := by
  obtain ⟨p, c, rfl, hl⟩ := h.lies
  refine ⟨p, c, rfl, hl, ?_⟩
  rintro rfl
  rcases h.2 with ⟨e, -⟩ | ⟨g, cap, cur, e, -⟩
  · simp only [Value.slice.injEq] at e
    exact e.2.2
  · simp at e
set_option maxRecDepth 100000 in
set_option maxHeartbeats 1000000 in
theorem clone_items {l : List It} {p : Option Addr} {d : Nat} {w : World} (h : Lies item w p l) (hn : p = none → d = 0) (hl : l.length ≤ 1000) :
    Calls Tryz.prog 82 #[.slice p l.length d] w fun e w' => ∃ y, e = .returned y ∧ Own item 136 w.heap.size w' y l ∧ Below w.heap.size w w' := by
  have HL := Lib.hid h
  have HN := Lib.hid hn
  have hq := fun (w : World) a n c n' c' => eq_nil w a n c n' c'
  clear h hn
  cases p with
  | none =>
    have hl0 := HL.out.resolve_right (fun ⟨b, o, e, _⟩ => by cases e)
    subst hl0
    obtain rfl := HN.out rfl
    go_enter Tryz.func82, Tryz.ntmps82
    go_wp2
    go_ret
    exact ⟨_, rfl, Own.none _ _ _ _, Below.refl _ _⟩
  | some a =>
    have OM := Lib.hid (Kit.own_made (E := item) (T := 136) w w.heap.size (Nat.le_refl _))
    have HB := Lib.hid (lay w (.cells #[] 136))
    have LX := Lib.hid (HL.out.below HB.out)
    go_enter Tryz.func82, Tryz.ntmps82
    go_wp2_with (at_builtin; refine Kit.pushes laidP rfl _ _ rfl w _ _ rfl [] 0 rfl OM.out HB.out (Below.refl _ _) l l.length d (some a) rfl rfl LX.out (fun e => nomatch e) (by omega) ?_; intro p4 c4 w4 R4 B4; have R5 := Lib.hid (show Own item 136 w.heap.size w4 (.slice p4 l.length c4) l from by (have := R4.out; rw [Nat.zero_add] at this; exact this)); have B5 := Lib.hid B4; clear R4 B4)
    go_ret
    exact ⟨_, rfl, R5.out, B5.out⟩
set_option maxRecDepth 100000 in
set_option maxHeartbeats 1000000 in
theorem pall_any {F : Nat → Prop} {B q : Nat} {w : World} {room : Int} {l : List It} (h : Pq F B w q room l) (hl : l.length ≤ 16) :
    Calls Tryz.prog 36 #[.pointer (some ⟨q, 0, none⟩)] w fun e w' => ∃ y, e = .returned y ∧ Own item 136 w.heap.size w' y l ∧ Below w.heap.size w w' := by
  obtain ⟨y, hy⟩ := h
  obtain ⟨p, c, rfl, c1, hlies, hn, -⟩ := hy.cell
  have HC := clone_items (d := c) hlies hn (by omega)
  clear hy hlies hn
  go_enter Tryz.func36, Tryz.ntmps36
  go_wp2_with (go_at_call 82; (with_reducible refine HC.mono ?_); rintro e w2 ⟨y, rfl, ho, hb⟩; have HO := Lib.hid ho; have HB2 := Lib.hid hb; clear ho hb HC)
  go_ret
  exact ⟨_, rfl, HO.out, HB2.out⟩
set_option maxRecDepth 100000 in
set_option maxHeartbeats 1000000 in
theorem nall_any (w : World) : Calls Tryz.prog 36 #[.pointer none] w fun e w' => e = .returned (.slice none 0 0) ∧ Below w.heap.size w w' := by
  go_enter Tryz.func36, Tryz.ntmps36
  go_wp2
  go_ret
  exact ⟨rfl, Below.refl _ _⟩
end Go.Proofs.YtbgdlokegibkmaaGreat.Queue

namespace Go.Proofs.YtbgdlokegibkmaaGreat.Queue
open Go.RowKit
open _root_.Go.Proofs.YtbgdlokegibkmaaGreat.Codec (lt_of_heap frozen_of heap_set own_below)
open _root_.Go.Proofs.YtbgdlokegibkmaaGreat.Kit (Enc Lies Own At Kept Laid Off cell_on lt_heap take_snoc below_drewN box5 ints own_keep own_lt cells)
open _root_.Go.Proofs.YtbgdlokegibkmaaGreat.Ledger (spot spot_at spot_none spot_cases)
/-! Rows that a call owns, cell by cell. -/
theorem row_set {w : World} {B g n c o s : Nat} {T : TypeId} {xs : List Value} (h : w.ownsRow B T s (.slice (some ⟨g, 0, none⟩) n c) n xs) (u : Value) : (w.setCell ⟨g, o, none⟩ u).ownsRow B T s (.slice (some ⟨g, 0, none⟩) n c) n (xs.set o u) := by
  refine ⟨by simpa using h.1, ?_⟩
  rcases h.2 with ⟨e, -⟩ | ⟨g', cap, cur, e, h1, h2, h3, h4, h5, h6⟩
  · simp at e
  · simp only [Value.slice.injEq, Option.some.injEq, Addr.mk.injEq, and_true, true_and] at e
    obtain ⟨rfl, rfl⟩ := e
    exact .inr ⟨g, c, _, rfl, h1, heap_set g o _ _ h2, h3, h4, by simpa using h5, by rw [Array.toList_setIfInBounds, List.take_set, h6]⟩
theorem row_far {w : World} {B g n c o s : Nat} {T : TypeId} {xs : List Value} (h : w.ownsRow B T s (.slice (some ⟨g, 0, none⟩) n c) n xs) (ho : n * s ≤ o) (u : Value) : (w.setCell ⟨g, o, none⟩ u).ownsRow B T s (.slice (some ⟨g, 0, none⟩) n c) n xs := by
  have := row_set h (o := o) u
  rwa [List.set_eq_of_length_le (by rw [h.1]; exact ho)] at this
theorem row_fars {B g n c s : Nat} {T : TypeId} {xs : List Value} : ∀ (us : List Value) {w : World} {o : Nat}, w.ownsRow B T s (.slice (some ⟨g, 0, none⟩) n c) n xs → n * s ≤ o → (w.setCells g o us).ownsRow B T s (.slice (some ⟨g, 0, none⟩) n c) n xs
  | [], _, _, h, _ => h
  | u :: us, _, _, h, ho => row_fars us (row_far h ho u) (by omega)
theorem row_cut {w : World} {B g n c i s : Nat} {T : TypeId} {xs : List Value} (h : w.ownsRow B T s (.slice (some ⟨g, 0, none⟩) n c) n xs) (hi : i ≤ n) : w.ownsRow B T s (.slice (some ⟨g, 0, none⟩) i c) i (xs.take (i * s)) := by
  have hm : i * s ≤ n * s := Nat.mul_le_mul_right s hi
  refine ⟨by rw [List.length_take, h.1]; omega, ?_⟩
  rcases h.2 with ⟨e, -⟩ | ⟨g', cap, cur, e, h1, h2, h3, h4, h5, h6⟩
  · simp at e
  · simp only [Value.slice.injEq, Option.some.injEq, Addr.mk.injEq, and_true, true_and] at e
    obtain ⟨rfl, rfl⟩ := e
    exact .inr ⟨g, c, cur, rfl, h1, h2, by omega, h4, h5, by rw [← h6, List.take_take]; congr 1; omega⟩
theorem cells_take (m : List It) (i : Nat) : (cells item m).take (i * 5) = cells item (m.take i) := by
  induction m generalizing i with
  | nil => simp [cells]
  | cons x m ih =>
    cases i with
    | zero => simp [cells]
    | succ i =>
      rw [Kit.cells_cons, List.take_succ_cons, Kit.cells_cons, ← ih i, show (i + 1) * 5 = (item.cs x).length + i * 5 by rw [show (item.cs x).length = 5 from rfl]; omega, List.take_length_add_append]
theorem cells_set (x : It) : ∀ (m : List It) (i : Nat), i < m.length → cells item (m.set i x) = ((((((cells item m).set (i * 5) (.int .i64 x.id)).set (i * 5 + 1) (.int .i64 x.key)).set (i * 5 + 2) (.int .i64 x.cost)).set (i * 5 + 3) (.int .i64 x.cls)).set (i * 5 + 4) (.int .i64 x.til))
  | [], _, h => by simp at h
  | y :: m, 0, _ => rfl
  | y :: m, i + 1, h => by
    have ih := cells_set x m i (by simpa using h)
    rw [List.set_cons_succ, Kit.cells_cons, ih, Kit.cells_cons]
    show _ = ((((((item.cs y ++ cells item m).set ((i + 1) * 5) _).set ((i + 1) * 5 + 1) _).set ((i + 1) * 5 + 2) _).set ((i + 1) * 5 + 3) _).set ((i + 1) * 5 + 4) _)
    have e : ∀ (k : Nat) (L : List Value) (u : Value), (item.cs y ++ L).set ((i + 1) * 5 + k) u = item.cs y ++ L.set (i * 5 + k) u := fun k L u => by
      rw [List.set_append_right _ _ (by rw [show (item.cs y).length = 5 from rfl]; omega)]
      congr 2
      rw [show (item.cs y).length = 5 from rfl]; omega
    rw [show (i + 1) * 5 = (i + 1) * 5 + 0 by omega, e 0, e 1, e 2, e 3, e 4, Nat.add_zero]
    rfl
/-- An item is stored at a place. -/
def setAt (w : World) (g o : Nat) (x : It) : World := ((((w.setCell ⟨g, o, none⟩ (.int .i64 x.id)).setCell ⟨g, o + 1, none⟩ (.int .i64 x.key)).setCell ⟨g, o + 2, none⟩ (.int .i64 x.cost)).setCell ⟨g, o + 3, none⟩ (.int .i64 x.cls)).setCell ⟨g, o + 4, none⟩ (.int .i64 x.til)
theorem own_setAt {w : World} {B g c : Nat} {T : TypeId} {m : List It} (h : Own item T B w (.slice (some ⟨g, 0, none⟩) m.length c) m) {i : Nat} (hi : i < m.length) (x : It) : Own item T B (setAt w g (i * 5) x) (.slice (some ⟨g, 0, none⟩) m.length c) (m.set i x) := by
  unfold Own at h ⊢
  rw [cells_set x m i hi, List.length_set]
  exact row_set (row_set (row_set (row_set (row_set h _) _) _) _) _
theorem grown_setAt {w0 w : World} {g : Nat} (h : w0.grownBy w (some g)) (o : Nat) (x : It) : w0.grownBy (setAt w g o x) (some g) := by
  have one : ∀ {u : World} (k : Nat) (v : Value), w0.grownBy u (some g) → w0.grownBy (u.setCell ⟨g, k, none⟩ v) (some g) := fun {u} k v hu =>
    ⟨hu.os, hu.tape, hu.output, by simpa [World.setCell] using hu.size, fun j hj hn => (Below.heap_setCell _ _ _ _ (by rintro rfl; exact hn rfl)).trans (hu.block j hj hn)⟩
  exact one _ _ (one _ _ (one _ _ (one _ _ (one _ _ h))))
theorem grown_cells {w0 : World} {g : Nat} : ∀ (us : List Value) {w : World} {o : Nat}, w0.grownBy w (some g) → w0.grownBy (w.setCells g o us) (some g)
  | [], _, _, h => h
  | v :: us, w, o, hu => grown_cells us ⟨hu.os, hu.tape, hu.output, by simpa [World.setCell] using hu.size, fun j hj hn => (Below.heap_setCell _ _ _ _ (by rintro rfl; exact hn rfl)).trans (hu.block j hj hn)⟩
theorem own_there {w : World} {B g n c : Nat} {T : TypeId} {m : List It} (h : Own item T B w (.slice (some ⟨g, 0, none⟩) n c) m) {o : Nat} (ho : o < m.length * 5) : (w.cell? ⟨g, o, none⟩).isSome = true ∧ w.frozen? ⟨g, o, none⟩ = false := by
  rcases h.2 with ⟨e, -⟩ | ⟨g', cap, cur, e, h1, h2, h3, h4, h5, h6⟩
  · simp at e
  · simp only [Value.slice.injEq, Option.some.injEq, Addr.mk.injEq, and_true] at e
    obtain ⟨rfl, -, rfl⟩ := e
    have hk : o < cur.size := by
      rw [h5]
      exact Nat.lt_of_lt_of_le ho (Nat.mul_le_mul_right 5 h3)
    refine ⟨by rw [cell_of_row w g o _ _ (0, 0) h2]; simp [hk], frozen_of h2⟩
theorem own_five {w : World} {B g n c : Nat} {T : TypeId} {m : List It} (h : Own item T B w (.slice (some ⟨g, 0, none⟩) n c) m) {i : Nat} (hi : i < m.length) :
    ∃ u0 u1 u2 u3 u4, (w.cell? ⟨g, i * 5, none⟩ = some u0 ∧ w.cell? ⟨g, i * 5 + 1, none⟩ = some u1 ∧ w.cell? ⟨g, i * 5 + 2, none⟩ = some u2 ∧ w.cell? ⟨g, i * 5 + 3, none⟩ = some u3 ∧ w.cell? ⟨g, i * 5 + 4, none⟩ = some u4) ∧
      w.frozen? ⟨g, i * 5, none⟩ = false ∧ w.frozen? ⟨g, i * 5 + 1, none⟩ = false ∧ w.frozen? ⟨g, i * 5 + 2, none⟩ = false ∧ w.frozen? ⟨g, i * 5 + 3, none⟩ = false ∧ w.frozen? ⟨g, i * 5 + 4, none⟩ = false := by
  obtain ⟨a0, f0⟩ := own_there h (o := i * 5) (by omega)
  obtain ⟨a1, f1⟩ := own_there h (o := i * 5 + 1) (by omega)
  obtain ⟨a2, f2⟩ := own_there h (o := i * 5 + 2) (by omega)
  obtain ⟨a3, f3⟩ := own_there h (o := i * 5 + 3) (by omega)
  obtain ⟨a4, f4⟩ := own_there h (o := i * 5 + 4) (by omega)
  obtain ⟨u0, e0⟩ := Option.isSome_iff_exists.1 a0
  obtain ⟨u1, e1⟩ := Option.isSome_iff_exists.1 a1
  obtain ⟨u2, e2⟩ := Option.isSome_iff_exists.1 a2
  obtain ⟨u3, e3⟩ := Option.isSome_iff_exists.1 a3
  obtain ⟨u4, e4⟩ := Option.isSome_iff_exists.1 a4
  exact ⟨u0, u1, u2, u3, u4, ⟨e0, e1, e2, e3, e4⟩, f0, f1, f2, f3, f4⟩
/-- clear, of items. -/
theorem run_clear {w : World} {B g c i : Nat} {m : List It} (h : Own item 136 B w (.slice (some ⟨g, 0, none⟩) m.length c) m) (hi : i < m.length) (c' : Nat) (ty : TypeId) :
    (Builtin.clear_ #[69] ty #[.slice (some ⟨g, i * 5, none⟩) (m.length - i) c']).run Tryz.prog w = .ok (.tuple #[]) (w.setCells g (i * 5) (List.replicate ((m.length - i) * 5) (.int .i64 0))) := by
  have hzv : ∀ w, (zeroValue 136).run Tryz.prog w = .ok (val z) w := fun w => by kernel_rfl
  have hzc : ∀ n, (Builtin.zeroCells (val z).cells n).toList = List.replicate (n * 5) (.int .i64 0) := fun n => by
    apply List.ext_getElem
    · simp [Builtin.zeroCells, val, Value.cells]
    · intro k h1 h2
      have hm : k % 5 = 0 ∨ k % 5 = 1 ∨ k % 5 = 2 ∨ k % 5 = 3 ∨ k % 5 = 4 := by omega
      simp only [Builtin.zeroCells, val, Value.cells, z]
      rcases hm with e | e | e | e | e <;> simp [e]
  have hst := run_storeCells_cells (P := Tryz.prog) g (i * 5) (List.replicate ((m.length - i) * 5) (.int .i64 0)) 0 w (fun j hj => (own_there h (by simp at hj; omega)).1) (fun j hj => (own_there h (by simp at hj; omega)).2) (fun v hv => by rw [List.eq_of_mem_replicate hv]; rfl)
  simp only [Nat.add_zero] at hst
  obtain ⟨k, hk⟩ : ∃ k, m.length - i = k + 1 := ⟨m.length - i - 1, by omega⟩
  rw [hk] at hst ⊢
  simp [Builtin.clear_, run_underlying Tryz.underlying69, hzv, hzc, hst]
theorem below_grown {w w' : World} (hb : Below w.heap.size w w') (r : Option Nat) : w.grownBy w' r := ⟨hb.os, hb.tape, hb.output, hb.size, fun i hi _ => hb.block i hi⟩
theorem grown_then {a b c : World} {r : Option Nat} (h : a.grownBy b r) (k : Below b.heap.size b c) : a.grownBy c r := ⟨k.os.trans h.os, k.tape.trans h.tape, k.output.trans h.output, Nat.le_trans h.size k.size, fun i hi hn => (k.block i (Nat.lt_of_lt_of_le hi h.size)).trans (h.block i hi hn)⟩
/-- Behind j items, of which i stayed. -/
structure Keep (f : It → Bool) (l m : List It) (i j : Nat) : Prop where
  len : m.length = l.length
  lt : i < j
  le : j ≤ l.length
  low : m.take i = (l.take j).filter fun x => !f x
  high : m.drop j = l.drop j
theorem Keep.at_ {f : It → Bool} {l m : List It} {i j : Nat} (h : Keep f l m i j) (_ : j < l.length) : m.getD j z = l.getD j z := by
  have := congrArg (fun t => t.getD 0 z) h.high
  simpa [List.getD] using this
theorem Keep.skip {f : It → Bool} {l m : List It} {i j : Nat} (h : Keep f l m i j) (hj : j < l.length) (hf : f (l.getD j z) = true) : Keep f l m i (j + 1) := by
  refine ⟨h.len, by have := h.lt; omega, hj, ?_, ?_⟩
  · rw [h.low, filter_no (f := fun x => !f x) hj (by show (!f (l.getD j z)) = false; rw [hf]; rfl)]
  · have := congrArg (fun t => t.drop 1) h.high
    simpa [List.drop_drop] using this
theorem Keep.keep {f : It → Bool} {l m : List It} {i j : Nat} (h : Keep f l m i j) (hj : j < l.length) (hf : f (l.getD j z) = false) : Keep f l (m.set i (l.getD j z)) (i + 1) (j + 1) := by
  have hi : i < m.length := by have := h.len; have := h.lt; omega
  have h1 := h.lt
  refine ⟨by simpa using h.len, by omega, hj, ?_, ?_⟩
  · rw [filter_yes (f := fun x => !f x) hj (by show (!f (l.getD j z)) = true; rw [hf]; rfl), ← h.low, take_snoc z (by simpa using hi), List.take_set_of_le (Nat.le_refl i)]
    simp [List.getD, hi]
  · have := congrArg (fun t => t.drop 1) h.high
    simp only [List.drop_drop] at this
    rw [List.drop_set_of_lt (by omega)]
    exact this
theorem Keep.start {f : It → Bool} {l : List It} {k : Nat} (hk : k < l.length) (hn : ∀ i, i < k → f (l.getD i z) = false) (hy : f (l.getD k z) = true) : Keep f l l k (k + 1) := by
  refine ⟨rfl, by omega, hk, ?_, rfl⟩
  rw [filter_no (f := fun x => !f x) hk (by show (!f (l.getD k z)) = false; rw [hy]; rfl)]
  have key : ∀ j, j ≤ k → (l.take j).filter (fun x => !f x) = l.take j := by
    intro j
    induction j with
    | zero => intro _; rfl
    | succ j ih =>
      intro hj
      rw [filter_yes (f := fun x => !f x) (by omega) (by show (!f (l.getD j z)) = true; rw [hn j (by omega)]; rfl), ih (by omega), ← take_snoc z (by omega)]
  exact (key k (Nat.le_refl _)).symm
theorem filter_all {f : It → Bool} {l : List It} (hn : ∀ i, i < l.length → f (l.getD i z) = false) : l.filter (fun x => !f x) = l := by
  rw [List.filter_eq_self]
  intro x hx
  obtain ⟨i, hi, rfl⟩ := List.getElem_of_mem hx
  have := hn i hi
  simp only [List.getD, List.getElem?_eq_getElem hi, Option.getD_some] at this
  simp [this]
set_option maxRecDepth 100000 in
set_option maxHeartbeats 8000000 in
theorem delete_any {c g0 : Nat} {id : Int} {f : It → Bool} (eg : Ent g0) (hg : Gives c id g0 f) {l : List It} {y : Value} {B : Nat} {w : World} (h : Own item 136 B w y l) (hl : l.length ≤ 1000) (hc : w.cell? ⟨c, 0, none⟩ = some (.int .i64 id)) (hcy : y.ownBlock ≠ some c) :
    Calls Tryz.prog 228 #[y, fnv g0 c] w fun e w' => ∃ y', e = .returned y' ∧ Own item 136 B w' y' (l.filter fun x => !f x) ∧ y'.ownBlock = y.ownBlock ∧ w.grownBy w' y.ownBlock := by
  obtain ⟨p, d, rfl, hlies, -⟩ := own_slice h
  have hi := index_any eg hg (d := d) hlies hl hc
  rcases spot_cases f z l with ⟨e, hn⟩ | ⟨k, e, hk, hy, hn⟩
  · rw [e] at hi
    rw [filter_all hn]
    have HO := Lib.hid h
    clear h hc hg hlies hn hcy
    go_enter Tryz.func228, Tryz.ntmps228
    go_wp2_with (go_at_call 178; (with_reducible refine hi.mono ?_); rintro e w2 ⟨rfl, hb⟩; have HB2 := Lib.hid hb; clear hb hi)
    go_ret
    exact ⟨_, rfl, HO.out.on HB2.out, rfl, below_grown HB2.out _⟩
  · rw [e] at hi
    have hne1 : ((k : Int) == -1) = false := beq_eq_false_iff_ne.2 (by omega)
    obtain ⟨g, rfl⟩ : ∃ g, p = some ⟨g, 0, none⟩ := by
      rcases h.2 with ⟨e, e0⟩ | ⟨g, cap, cur, e, -⟩
      · omega
      · simp only [Value.slice.injEq] at e
        exact ⟨g, e.1⟩
    have HK := Lib.hid (Keep.start hk hn hy)
    have HO := Lib.hid h
    have hgc : c ≠ g := fun e => hcy (by rw [e]; rfl)
    have HC := Lib.hid (fun (u : World) (x : It) (hu : w.grownBy u (some g)) => hg u x ((World.cell?_of_block (hu.block c (World.block_lt_of_cell? _ _ hc) (by simpa using hgc))).trans hc))
    have hlt := own_lt h (b := g) rfl
    clear h hc hg hlies hn hy hcy
    go_enter Tryz.func228, Tryz.ntmps228
    go_wp2_with (go_at_call 178; (with_reducible refine hi.mono ?_); rintro e w2 ⟨rfl, hb⟩; have HB2 := Lib.hid hb; clear hb hi)
    have HD := Lib.hid (show l.filter (fun x => !f x) = l.filter (fun x => !f x) from rfl)
    generalize hn : l.length = n at *
    go_loopw [5, 6] (fun a1 a2 wr => ∃ (i j : Nat) (m : List It), a1 = .int .i64 (i : Int) ∧ a2 = .int .i64 (j : Int) ∧ j ≤ n ∧ i < j ∧ Hid (Keep f l m i j) ∧ Hid (Own item 136 B wr (.slice (some ⟨g, 0, none⟩) n d) m) ∧ Hid (w.grownBy wr (some g))) (fun _ a2 _ => n - (intOf a2).toNat)
    case atStart => exact ⟨k, k + 1, l, rfl, by go_num, by omega, by omega, HK, Lib.hid (HO.out.on HB2.out), Lib.hid (below_grown HB2.out _)⟩
    case round =>
      obtain ⟨i, j, m, rfl, rfl, hj, hij, HI, HM, HG⟩ := hrel
      have hm : m.length = n := by rw [HI.out.len, hn]
      by_cases hlt : j < n
      · have hlt' : (j : Int) < (n : Int) := by omega
        have hit : (i : Int) < (n : Int) := by omega
        obtain ⟨p', c', ep, hlies⟩ := HM.out.lies
        simp only [Value.slice.injEq] at ep
        obtain ⟨rfl, -, -⟩ := ep
        obtain ⟨b, o, eb, ha⟩ := lies_at hlies (show j < m.length by omega)
        simp only [Option.some.injEq, Addr.mk.injEq, and_true] at eb
        obtain ⟨rfl, rfl⟩ := eb
        rw [HI.out.at_ (by omega), Nat.zero_add] at ha
        obtain ⟨k0, k1, k2, k3, k4⟩ := at5 ha
        have HY := Lib.hid (fun h => HI.out.skip (by omega) h)
        have HN := Lib.hid (fun h => HI.out.keep (by omega) h)
        generalize l.getD j z = x at *
        have hbx := lay wr (.cells #[.int .i64 x.id, .int .i64 x.key, .int .i64 x.cost, .int .i64 x.cls, .int .i64 x.til] 136)
        have hg1 : w.grownBy (wr.alloc (.cells #[.int .i64 x.id, .int .i64 x.key, .int .i64 x.cost, .int .i64 x.cls, .int .i64 x.til] 136)) (some g) := grown_then HG.out hbx
        have HCx := HC.out _ x hg1
        have K := Lib.hid (heap_alloc_new wr (.cells #[.int .i64 x.id, .int .i64 x.key, .int .i64 x.cost, .int .i64 x.cls, .int .i64 x.til] 136))
        have HA := Lib.hid hbx
        have HG1 := Lib.hid hg1
        generalize hfx : f x = fx at *
        obtain ⟨xi, xk, xc, xs, xt⟩ := x
        simp only [val] at k0 k1 k2 k3 k4 HCx
        clear ha hlies hbx hg1 HC HD
        cases fx
        · have HE := Lib.hid (HN.out rfl)
          clear hfx HY HN
          go_wp2_with (first
            | (go_at_fn g0; (with_reducible refine HCx.mono ?_); rintro e w3 ⟨rfl, hb⟩; have HO3 := Lib.hid ((HM.out.on HA.out).on hb); have HG3 := Lib.hid (grown_then HG1.out hb); obtain ⟨b0, b1, b2, b3, b4⟩ := box5 ((hb.block _ (lt_heap K.out)).trans K.out); obtain ⟨u0, u1, u2, u3, u4, ⟨c0, c1, c2, c3, c4⟩, f0, f1, f2, f3, f4⟩ := own_five HO3.out (i := i) (by omega); clear hb HCx))
          have HS := Lib.hid (own_setAt (i := i) (show Own item 136 B w3 (.slice (some ⟨g, 0, none⟩) m.length d) m by rw [hm]; exact HO3.out) (by omega) ⟨xi, xk, xc, xs, xt⟩)
          rw [hm] at HS
          have HGS := Lib.hid (grown_setAt HG3.out (i * 5) ⟨xi, xk, xc, xs, xt⟩)
          rw [show ((((w3.setCell ⟨g, i * 5, none⟩ (.int .i64 xi)).setCell ⟨g, i * 5 + 1, none⟩ (.int .i64 xk)).setCell ⟨g, i * 5 + 2, none⟩ (.int .i64 xc)).setCell ⟨g, i * 5 + 3, none⟩ (.int .i64 xs)).setCell ⟨g, i * 5 + 4, none⟩ (.int .i64 xt) = setAt w3 g (i * 5) ⟨xi, xk, xc, xs, xt⟩ from rfl]
          generalize setAt w3 g (i * 5) ⟨xi, xk, xc, xs, xt⟩ = w4 at *
          go_roundw
          case rel => exact ⟨i + 1, j + 1, _, by go_num, by go_num, by omega, by omega, HE, HS, HGS⟩
          case measure => simp only [intOf]; omega
        · have HE := Lib.hid (HY.out rfl)
          clear hfx HY HN
          go_wp2_with (first
            | (go_at_fn g0; (with_reducible refine HCx.mono ?_); rintro e w3 ⟨rfl, hb⟩; have HO3 := Lib.hid ((HM.out.on HA.out).on hb); have HG3 := Lib.hid (grown_then HG1.out hb); clear hb HCx))
          go_roundw
          case rel => exact ⟨i, j + 1, m, rfl, by go_num, by omega, by omega, HE, HO3, HG3⟩
          case measure => simp only [intOf]; omega
      · have hlt' : ¬ (j : Int) < (n : Int) := by omega
        have hij' : (i : Int) < (n : Int) := by omega
        obtain rfl : j = n := by omega
        have hlow := HI.out.low
        rw [show l.take j = l from List.take_of_length_le (by omega)] at hlow
        have hrow : wr.ownsRow B 136 5 (.slice (some ⟨g, 0, none⟩) j d) j (cells item m) := by
          have := HM.out
          unfold Own at this
          rwa [hm] at this
        have hcut := row_fars (List.replicate ((j - i) * 5) (.int .i64 0)) (row_cut hrow (i := i) (by omega)) (Nat.le_refl _)
        rw [cells_take, hlow] at hcut
        have hil : (l.filter fun x => !f x).length = i := by rw [← hlow, List.length_take, hm]; omega
        have HF := Lib.hid (show Own item 136 B (wr.setCells g (i * 5) (List.replicate ((j - i) * 5) (.int .i64 0))) (.slice (some ⟨g, 0, none⟩) i d) (l.filter fun x => !f x) by unfold Own; rw [hil]; exact hcut)
        have HG2 := Lib.hid (grown_cells (List.replicate ((j - i) * 5) (.int .i64 0)) (o := i * 5) HG.out)
        have hclr := fun c' ty => run_clear (g := g) (c := d) (i := i) (B := B) (m := m) (by rw [hm]; exact HM.out) (by omega) c' ty
        rw [hm] at hclr
        generalize wr.setCells g (i * 5) (List.replicate ((j - i) * 5) (.int .i64 0)) = w5 at *
        have hcap : j ≤ d := by
          rcases hrow.2 with ⟨e, -⟩ | ⟨g', cap, cur, e, h1, h2, h3, -⟩
          · simp at e
          · simp only [Value.slice.injEq] at e
            omega
        have hd1 : (i : Int) ≤ (d : Int) := by omega
        have hd2 : ¬ d = i := by omega
        clear hrow hcut hlow
        go_wp2
        go_ret
        exact ⟨_, rfl, HF.out, rfl, HG2.out⟩
end Go.Proofs.YtbgdlokegibkmaaGreat.Queue

namespace Go.Proofs.YtbgdlokegibkmaaGreat.Queue
open Go.RowKit
open _root_.Go.Proofs.YtbgdlokegibkmaaGreat.Codec (lt_of_heap frozen_of heap_set own_below)
open _root_.Go.Proofs.YtbgdlokegibkmaaGreat.Kit (Enc Lies Own At Kept Laid Off cell_on lt_heap take_snoc below_drewN box5 ints own_keep own_lt cells)
open _root_.Go.Proofs.YtbgdlokegibkmaaGreat.Ledger (spot spot_at spot_none spot_cases)
theorem filter_none_id {l : List It} {id : Int} (h : ∀ x ∈ l, x.id ≠ id) : l.filter (isId id) = [] ∧ l.filter (fun x => !isId id x) = l := by
  refine ⟨List.filter_eq_nil_iff.2 fun x hx => by simp [isId, h x hx], List.filter_eq_self.2 fun x hx => by simp [isId, h x hx]⟩
theorem place_cons (x : It) (l : List It) (id : Int) : place (x :: l) id = if x.id = id then 0 else if place l id < 0 then -1 else place l id + 1 := by
  unfold place
  rw [spot]
  by_cases h : x.id = id <;> simp [h]
/-- What goes by its name. -/
theorem take_filter {id : Int} : ∀ {l : List It}, (l.Pairwise fun a b => a.id ≠ b.id) → (take l id).1 = l.filter (fun x => !isId id x) ∧ (take l id).2 = head (l.filter (isId id))
  | [], _ => ⟨rfl, rfl⟩
  | x :: l, h => by
    obtain ⟨h1, h2⟩ := List.pairwise_cons.1 h
    obtain ⟨i1, i2⟩ := take_filter h2
    by_cases hx : x.id = id
    · have hp : place (x :: l) id = 0 := by rw [place_cons, if_pos hx]
      obtain ⟨f1, f2⟩ := filter_none_id (l := l) (id := id) (fun y hy => by have := h1 y hy; omega)
      unfold take
      rw [if_neg (by omega)]
      have e : (the (x :: l) id) = x := by unfold the; rw [hp]; rfl
      rw [e, hp]
      simp only [List.filter_cons, isId, hx, beq_self_eq_true, if_true, Bool.not_true, Bool.false_eq_true, if_false]
      exact ⟨f2.symm, rfl⟩
    · have hb : isId id x = false := by simp [isId, hx]
      simp only [List.filter_cons, hb, Bool.false_eq_true, if_false, Bool.not_false, if_true]
      unfold take at i1 i2 ⊢
      have hp := place_cons x l id
      rw [if_neg hx] at hp
      by_cases hl : place l id < 0
      · rw [if_pos hl] at hp i1 i2
        rw [if_pos (by omega)]
        exact ⟨congrArg (x :: ·) i1, i2⟩
      · rw [if_neg hl] at hp i1 i2
        rw [if_neg (by omega)]
        have ht : (place (x :: l) id).toNat = (place l id).toNat + 1 := by omega
        have e : the (x :: l) id = the l id := by unfold the; rw [ht]; rfl
        rw [e, ht, List.eraseIdx_cons_succ]
        exact ⟨congrArg (x :: ·) i1, i2⟩
set_option maxRecDepth 100000 in
set_option maxHeartbeats 2000000 in
theorem head_any {l : List It} {p : Option Addr} {d : Nat} {w : World} (h : Lies item w p l) :
    Calls Tryz.prog 137 #[.slice p l.length d] w fun e w' => e = .returned (.tuple #[val (head l).1, .bool (head l).2]) ∧ Below w.heap.size w w' := by
  have hb := lay w (.cells #[.int .i64 0, .int .i64 0, .int .i64 0, .int .i64 0, .int .i64 0] 136)
  have K := heap_alloc_new w (.cells #[.int .i64 0, .int .i64 0, .int .i64 0, .int .i64 0, .int .i64 0] 136)
  cases l with
  | nil =>
    go_enter Tryz.func137, Tryz.ntmps137
    go_wp2
    refine bodyPost_ret (v := .tuple #[val z, .bool false]) (by simp [results, Tryz.results137, go_sem, val, z]) rfl ⟨rfl, lay _ _⟩
  | cons x l =>
    obtain ⟨b, o, rfl, ha⟩ := lies_at (h.below hb) (show 0 < (x :: l).length by simp)
    obtain ⟨k0, k1, k2, k3, k4⟩ := at5 ha
    simp only [List.getD_cons_zero, Nat.zero_mul, Nat.add_zero] at k0 k1 k2 k3 k4
    simp only [head]
    have hne : (((x :: l).length : Int) == 0) = false := by simp only [List.length_cons, beq_eq_false_iff_ne]; omega
    have hpos : (0 : Int) < ((x :: l).length : Int) := by simp
    generalize (x :: l).length = n at *
    obtain ⟨xi, xk, xc, xs, xt⟩ := x
    simp only [val] at *
    clear h ha
    go_enter Tryz.func137, Tryz.ntmps137
    go_wp2
    refine bodyPost_ret (v := .tuple #[val ⟨xi, xk, xc, xs, xt⟩, .bool true]) (by simp [results, Tryz.results137, go_sem, val]) rfl ⟨rfl, lay _ _⟩
set_option maxRecDepth 100000 in
set_option maxHeartbeats 4000000 in
theorem leave_any {F : Nat → Prop} {B q : Nat} {w : World} {room : Int} {l : List It} {y : Value} (h : Pqy F B w q room l y) (hB : B ≤ w.heap.size) (hl : l.length ≤ 16) {c g0 : Nat} {id : Int} {f : It → Bool} (eg : Ent g0) (hg : Gives c id g0 f) (hc : w.cell? ⟨c, 0, none⟩ = some (.int .i64 id)) (hcy : y.ownBlock ≠ some c) :
    Calls Tryz.prog 201 #[.pointer (some ⟨q, 0, none⟩), fnv g0 c] w fun e w' => ∃ p d, e = .returned (.slice p (l.filter f).length d) ∧ Lies item w' p (l.filter f) ∧ Moved Pq F B w q room (l.filter fun x => !f x) w' := by
  obtain ⟨p, d, rfl, c1, hlies, -, -⟩ := h.cell
  have HH := Lib.hid h
  have hp := picked_any eg hg (d := d) hlies (by omega) hc
  have HD := Lib.hid (fun (u : World) (hu : Below w.heap.size w u) => delete_any eg hg (h.own.on hu) (by omega) (cell_on hc hu) hcy)
  have HLT := Lib.hid (fun b (e : (Value.slice p l.length d).ownBlock = some b) => own_lt h.own e)
  clear h hg hc hcy hlies
  generalize l.filter f = R1 at *
  generalize (l.filter fun x => !f x) = R2 at *
  have hqlt := HH.out.lt
  go_enter Tryz.func201, Tryz.ntmps201
  go_wp2_with (first
    | (go_at_call 179; (with_reducible refine hp.mono ?_); rintro e u1 ⟨y0, rfl, ho, hb⟩; have HO := Lib.hid ho; have HB1 := Lib.hid hb; have c2 := cell_on c1 hb; clear ho hb hp c1)
    | (go_at_call 228; (with_reducible refine (HD.out _ HB1.out).mono ?_); rintro e u2 ⟨y', rfl, ho2, hown, hg2⟩; obtain ⟨p2, d2, rfl, -, -⟩ := own_slice ho2; obtain ⟨f0, c3, D⟩ := (HH.out.below HB1.out).turn (Nat.le_trans hB HB1.out.size) hg2 ho2 (fun g e => .inl (hown ▸ e)); have HO2 := Lib.hid (Own.set (b := q) (o := 1) (u := .slice p2 R2.length d2) (own_keep HO.out (fun b e => hg2.block b (own_lt HO.out e) (fun e2 => Nat.lt_irrefl b (Nat.lt_of_lt_of_le (HLT.out b e2.symm) (World.ownsRow.lt HO.out b e).1)))) hqlt); clear c2 HD ho2 hown hg2))
  have HM := Lib.hid (D.out.lift hB HB1.out)
  obtain ⟨p0, d0, rfl, hl0, -⟩ := own_slice HO2.out
  have HL0 := Lib.hid hl0
  clear hl0
  go_ret
  exact ⟨_, _, rfl, HL0.out, HM.out⟩
set_option maxRecDepth 100000 in
set_option maxHeartbeats 1000000 in
theorem nleave_any (fv : Value) (w : World) : Calls Tryz.prog 201 #[.pointer none, fv] w fun e w' => e = .returned (.slice none 0 0) ∧ Below w.heap.size w w' := by
  go_enter Tryz.func201, Tryz.ntmps201
  go_wp2
  go_ret
  exact ⟨rfl, Below.refl _ _⟩
/-- An item is stored into a box that is none of the queue's. -/
theorem moved_set5 {F G : Nat → Prop} {B q g : Nat} {w u u' : World} {room : Int} {l : List It} (h : Moved Pq G B u q room l u') (hB : B ≤ w.heap.size) (hb : Below w.heap.size w u) (hF : ∀ k, F k → G k) (hF2 : ∀ k, F k → k < w.heap.size) (hx : G g) (hg : w.heap.size ≤ g) (x : It) : Moved Pq F B w q room l (set5 u' g x) := by
  obtain ⟨y, hy⟩ := h.pw
  have hbel : Below B w (set5 u' g x) := set5_below ((hb.mono hB).trans h.below) (by omega) x
  refine ⟨⟨y, hy.ge, fun e => hy.nf (hF _ e), (set5_off x (show q ≠ g by rintro rfl; exact hy.nf hx)).trans hy.blk, own_keep hy.own (fun b e => set5_off x (show b ≠ g by rintro rfl; exact hy.nfy _ e hx)), fun k e e2 => hy.nfy k e (hF _ e2), fun k e => Nat.lt_of_lt_of_le (hF2 k e) hbel.size⟩, ⟨hbel.size, fun k cs t z e ht => ?_⟩, hbel, fun k e hk => ?_⟩
  · have hk := lt_heap e
    exact (set5_off x (by omega)).trans (h.off.block k cs t z ((hb.block k hk).trans e) ht)
  · exact (set5_off x (by omega)).trans ((h.rest k (hF k e) (Nat.lt_of_lt_of_le hk hb.size)).trans (hb.block k hk))
theorem Pqy.box {F : Nat → Prop} {B q : Nat} {w : World} {room : Int} {l : List It} {y : Value} (h : Pqy F B w q room l y) (o : Obj) : Pqy (fun g => F g ∨ g = w.heap.size) B (w.alloc o) q room l y :=
  (h.grow (lay w o)).sub (fun g hg => hg.elim .inl (fun e => .inr (by subst e; simp)))
set_option maxRecDepth 100000 in
set_option maxHeartbeats 2000000 in
theorem ptake_any {F : Nat → Prop} {B q : Nat} {w : World} {room : Int} {l : List It} (h : Pq F B w q room l) (hB : B ≤ w.heap.size) (hg : Good room l) (hl : l.length ≤ 16) (id : Int) :
    Calls Tryz.prog 162 #[.pointer (some ⟨q, 0, none⟩), .int .i64 id] w fun e w' => e = .returned (.tuple #[val (take l id).2.1, .bool (take l id).2.2]) ∧ Moved Pq F B w q room (take l id).1 w' := by
  obtain ⟨y, hy⟩ := h
  obtain ⟨e1, e2⟩ := take_filter (id := id) hg.names
  rw [e1, e2]
  have HZ := Lib.hid (lay w (.cells #[.int .i64 0, .int .i64 0, .int .i64 0, .int .i64 0, .int .i64 0] 136))
  have KZ := Lib.hid (heap_alloc_new w (.cells #[.int .i64 0, .int .i64 0, .int .i64 0, .int .i64 0, .int .i64 0] 136))
  have hn := named_any id (w.alloc (.cells #[.int .i64 0, .int .i64 0, .int .i64 0, .int .i64 0, .int .i64 0] 136))
  have hyz := hy.box (.cells #[.int .i64 0, .int .i64 0, .int .i64 0, .int .i64 0, .int .i64 0] 136)
  have HLV := Lib.hid (fun (u : World) (hu : Below (w.alloc (.cells #[.int .i64 0, .int .i64 0, .int .i64 0, .int .i64 0, .int .i64 0] 136)).heap.size (w.alloc (.cells #[.int .i64 0, .int .i64 0, .int .i64 0, .int .i64 0, .int .i64 0] 136)) u) (hc : u.cell? ⟨w.heap.size + 1, 0, none⟩ = some (.int .i64 id)) => leave_any (hyz.below hu) (Nat.le_trans (Nat.le_trans hB HZ.out.size) hu.size) hl ent_named (gives_named (w.heap.size + 1) id) hc (fun e => by have := own_lt hy.own e; omega))
  have HFL := Lib.hid hy.fl
  have HBB := Lib.hid hB
  clear hy e1 e2 hyz
  generalize l.filter (isId id) = R1 at *
  generalize (l.filter fun x => !isId id x) = R2 at *
  have HH := Lib.hid (fun (u : World) (p : Option Addr) (d : Nat) (hp : Lies item u p R1) => head_any (d := d) hp)
  generalize head R1 = hd at *
  obtain ⟨⟨xi, xk, xc, xs, xt⟩, ok⟩ := hd
  simp only [val] at *
  go_enter Tryz.func162, Tryz.ntmps162
  go_wp2_with (first
    | (go_at_call 141; (with_reducible refine hn.mono ?_); rintro e u1 ⟨rfl, hc, hb⟩; have HB1 := Lib.hid hb; have HC := Lib.hid (show u1.cell? ⟨w.heap.size + 1, 0, none⟩ = some (.int .i64 id) from by simpa using hc); have HK1 := Lib.hid ((hb.block _ (lt_heap KZ.out)).trans KZ.out); clear hb hc hn)
    | (go_at_call 201; (with_reducible refine (HLV.out _ HB1.out HC.out).mono ?_); rintro e u2 ⟨p2, d2, rfl, hl2, hm⟩; have HM := Lib.hid hm; have HL2 := Lib.hid hl2; have HK2 := Lib.hid ((hm.rest w.heap.size (.inr rfl) (lt_heap HK1.out)).trans HK1.out); clear hl2 hm HLV)
    | (go_at_call 137; (with_reducible refine (HH.out _ _ _ HL2.out).mono ?_); rintro e u3 ⟨rfl, hb⟩; have HK3 := Lib.hid ((hb.block _ (lt_heap HK2.out)).trans HK2.out); have HM3 := Lib.hid (HM.out.on (Nat.le_trans (Nat.le_trans HBB.out HZ.out.size) HB1.out.size) hb); obtain ⟨b0, b1, b2, b3, b4⟩ := box5 HK3.out; obtain ⟨f0, f1, f2, f3, f4⟩ := Kit.frozen5 HK3.out; clear hb HH))
  rw [show ((((u3.setCell ⟨w.heap.size, 0, none⟩ (.int .i64 xi)).setCell ⟨w.heap.size, 1, none⟩ (.int .i64 xk)).setCell ⟨w.heap.size, 2, none⟩ (.int .i64 xc)).setCell ⟨w.heap.size, 3, none⟩ (.int .i64 xs)).setCell ⟨w.heap.size, 4, none⟩ (.int .i64 xt) = set5 u3 w.heap.size ⟨xi, xk, xc, xs, xt⟩ from rfl]
  obtain ⟨e0, e1, e2, e3, e4⟩ := box5 (set5_block HK3.out ⟨xi, xk, xc, xs, xt⟩)
  have HE := Lib.hid (moved_set5 HM3.out HBB.out (HZ.out.trans (HB1.out.mono HZ.out.size)) (fun k hk => .inl hk) HFL.out (.inr rfl) (Nat.le_refl _) ⟨xi, xk, xc, xs, xt⟩)
  generalize set5 u3 w.heap.size ⟨xi, xk, xc, xs, xt⟩ = u4 at *
  refine bodyPost_ret (v := .tuple #[val ⟨xi, xk, xc, xs, xt⟩, .bool ok]) (by simp [results, Tryz.results162, go_sem, val, e0, e1, e2, e3, e4]) rfl ⟨rfl, HE.out⟩
set_option maxRecDepth 100000 in
set_option maxHeartbeats 2000000 in
theorem ntake_any (id : Int) (w : World) : Calls Tryz.prog 162 #[.pointer none, .int .i64 id] w fun e w' => e = .returned (.tuple #[val z, .bool false]) ∧ Below w.heap.size w w' := by
  have HZ := Lib.hid (lay w (.cells #[.int .i64 0, .int .i64 0, .int .i64 0, .int .i64 0, .int .i64 0] 136))
  have KZ := Lib.hid (heap_alloc_new w (.cells #[.int .i64 0, .int .i64 0, .int .i64 0, .int .i64 0, .int .i64 0] 136))
  have hn := named_any id (w.alloc (.cells #[.int .i64 0, .int .i64 0, .int .i64 0, .int .i64 0, .int .i64 0] 136))
  have HLV := Lib.hid nleave_any
  have HH := Lib.hid (fun (u : World) => head_any (l := []) (p := none) (d := 0) (w := u) (.inl rfl))
  simp only [head, val, z, List.length_nil] at *
  go_enter Tryz.func162, Tryz.ntmps162
  go_wp2_with (first
    | (go_at_call 141; (with_reducible refine hn.mono ?_); rintro e u1 ⟨rfl, hc, hb⟩; have HB1 := Lib.hid (HZ.out.trans (hb.mono HZ.out.size)); have HK1 := Lib.hid ((hb.block _ (lt_heap KZ.out)).trans KZ.out); clear hb hc hn)
    | (go_at_call 201; (with_reducible refine (HLV.out _ _).mono ?_); rintro e u2 ⟨rfl, hb⟩; have HB2 := Lib.hid (HB1.out.trans (hb.mono HB1.out.size)); have HK2 := Lib.hid ((hb.block _ (lt_heap HK1.out)).trans HK1.out); clear hb HLV)
    | (go_at_call 137; (with_reducible refine (HH.out _).mono ?_); rintro e u3 ⟨rfl, hb⟩; have HK3 := Lib.hid ((hb.block _ (lt_heap HK2.out)).trans HK2.out); have HB3 := Lib.hid (HB2.out.trans (hb.mono HB2.out.size)); obtain ⟨b0, b1, b2, b3, b4⟩ := box5 HK3.out; obtain ⟨f0, f1, f2, f3, f4⟩ := Kit.frozen5 HK3.out; clear hb HH))
  rw [show ((((u3.setCell ⟨w.heap.size, 0, none⟩ (.int .i64 0)).setCell ⟨w.heap.size, 1, none⟩ (.int .i64 0)).setCell ⟨w.heap.size, 2, none⟩ (.int .i64 0)).setCell ⟨w.heap.size, 3, none⟩ (.int .i64 0)).setCell ⟨w.heap.size, 4, none⟩ (.int .i64 0) = set5 u3 w.heap.size ⟨0, 0, 0, 0, 0⟩ from rfl]
  obtain ⟨e0, e1, e2, e3, e4⟩ := box5 (set5_block HK3.out ⟨0, 0, 0, 0, 0⟩)
  have HE := Lib.hid (set5_below HB3.out (Nat.le_refl _) ⟨0, 0, 0, 0, 0⟩)
  generalize set5 u3 w.heap.size ⟨0, 0, 0, 0, 0⟩ = u4 at *
  refine bodyPost_ret (v := .tuple #[val z, .bool false]) (by simp [results, Tryz.results162, go_sem, val, z, e0, e1, e2, e3, e4]) rfl ⟨rfl, HE.out⟩
end Go.Proofs.YtbgdlokegibkmaaGreat.Queue

namespace Go.Proofs.YtbgdlokegibkmaaGreat.Queue
def other (k : Int) (x : It) : Bool := !(x.key == k)
theorem uniq {l : List It} (h : l.Pairwise fun a b => a.id ≠ b.id) : ∀ {a b : It}, a ∈ l → b ∈ l → a.id = b.id → a = b := by
  induction l with
  | nil => intro a b ha; cases ha
  | cons x t ih =>
    intro a b ha hb e
    obtain ⟨h1, h2⟩ := List.pairwise_cons.1 h
    rcases List.mem_cons.1 ha with rfl | ha'
    · rcases List.mem_cons.1 hb with rfl | hb'
      · rfl
      · exact absurd e (h1 b hb')
    · rcases List.mem_cons.1 hb with rfl | hb'
      · exact absurd e.symm (h1 a ha')
      · exact ih h2 ha' hb' e
theorem mem_ofc {l : List It} {k c : Int} {x : It} : x ∈ ofc l k c ↔ x ∈ l ∧ x.key = k ∧ x.cls = c := by
  simp [ofc, isOf]
theorem mem_of {l : List It} {k : Int} {x : It} (h : x ∈ of l k) : x ∈ l ∧ x.key = k := by
  simp only [of, List.mem_append, mem_ofc] at h
  rcases h with (h | h) | h <;> exact ⟨h.1, h.2.1⟩
theorem filter_comm (p q : It → Bool) (l : List It) : (l.filter p).filter q = (l.filter q).filter p := by
  rw [List.filter_filter, List.filter_filter]
  exact List.filter_congr fun x _ => Bool.and_comm _ _
theorem of_filter (p : It → Bool) (l : List It) (k : Int) : of (l.filter p) k = (of l k).filter p := by
  simp only [of, ofc, List.filter_append]
  rw [filter_comm p, filter_comm p, filter_comm p]
theorem take_mem {l : List It} (hn : l.Pairwise fun a b => a.id ≠ b.id) {x : It} (hx : x ∈ l) : take l x.id = (l.filter (fun y => !isId x.id y), x, true) ∧ (l.filter fun y => !isId x.id y).length + 1 = l.length := by
  have hp : 0 ≤ place l x.id := by
    apply Int.not_lt.1
    intro h
    exact place_none h x hx rfl
  obtain ⟨h1, h2, h3⟩ := place_some hp
  have e := (take_filter (id := x.id) hn).1
  unfold take at e ⊢
  rw [if_neg (by omega)] at e ⊢
  simp only at e
  refine ⟨by rw [e, uniq hn h3 hx h2], ?_⟩
  rw [← e, List.length_eraseIdx, if_pos h1]
  omega
/-- The first one of a key is taken. -/
theorem turn_one {room : Int} {l t : List It} (hg : Good room l) {k : Int} {x : It} (h : of l k = x :: t) :
    x.key = k ∧ x ∈ l ∧ take l x.id = (l.filter (fun y => !isId x.id y), x, true) ∧ of (l.filter fun y => !isId x.id y) k = t ∧ (l.filter fun y => !isId x.id y).filter (other k) = l.filter (other k) ∧ (l.filter fun y => !isId x.id y).length + 1 = l.length ∧ Good room (l.filter fun y => !isId x.id y) := by
  obtain ⟨hx, hk⟩ := mem_of (l := l) (k := k) (x := x) (by rw [h]; exact List.mem_cons_self)
  obtain ⟨h1, h2⟩ := take_mem hg.names hx
  refine ⟨hk, hx, h1, ?_, ?_, h2, good_sub hg List.filter_sublist⟩
  · have hn : (of l k).Pairwise fun a b => a.id ≠ b.id := by
      have hs : ∀ c, (ofc l k c).Pairwise fun a b => a.id ≠ b.id := fun c => hg.names.sublist List.filter_sublist
      have hd : ∀ c d, c ≠ d → ∀ a ∈ ofc l k c, ∀ b ∈ ofc l k d, a.id ≠ b.id := fun c d hcd a ha b hb e => by
        rw [mem_ofc] at ha hb
        have := uniq hg.names ha.1 hb.1 e
        rw [this] at ha
        exact hcd (ha.2.2.symm.trans hb.2.2)
      unfold of
      rw [List.pairwise_append, List.pairwise_append]
      refine ⟨⟨hs 0, hs 1, hd 0 1 (by decide)⟩, hs 2, fun a ha b hb => ?_⟩
      rcases List.mem_append.1 ha with ha | ha
      · exact hd 0 2 (by decide) a ha b hb
      · exact hd 1 2 (by decide) a ha b hb
    rw [of_filter, h]
    rw [h] at hn
    obtain ⟨n1, -⟩ := List.pairwise_cons.1 hn
    rw [List.filter_cons]
    simp only [isId, beq_self_eq_true, Bool.not_true, Bool.false_eq_true, if_false]
    exact List.filter_eq_self.2 fun y hy => by
      have := n1 y hy
      simp only [Bool.not_eq_true', beq_eq_false_iff_ne]
      exact fun e => this e.symm
  · rw [filter_comm]
    exact List.filter_eq_self.2 fun y hy => by
      obtain ⟨hy1, hy2⟩ := List.mem_filter.1 hy
      simp only [isId, Bool.not_eq_true', beq_eq_false_iff_ne]
      intro e
      rw [uniq hg.names hy1 hx e] at hy2
      simp [other, hk] at hy2
theorem head_drop (l : List It) {j : Nat} (hj : j ≤ l.length) : head (l.drop j) = (l.getD j z, decide (j < l.length)) := by
  by_cases h : j < l.length
  · rw [List.drop_eq_getElem_cons h]
    simp [head, List.getD, h]
  · have : j = l.length := by omega
    subst this
    simp [head, List.getD]
end Go.Proofs.YtbgdlokegibkmaaGreat.Queue
