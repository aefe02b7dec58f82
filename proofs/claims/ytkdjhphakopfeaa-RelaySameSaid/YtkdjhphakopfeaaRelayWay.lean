/-
  What is asked of the program's relay, whatever its blocks are: a predicate on memory, and what each call tells and leaves (Way15); the live question.
-/
import Derived.Test.YtkdjhphakopfeaaRelayWords
import Derived.Test.YtkdjhphakopfeaaFrmFits
import Derived.Deep.RegionHeld3
namespace Go.Proofs.Ytkdjhphakopfeaa.Relay
open Go.RowKit
open _root_.Go.Proofs.Ytkdjhphakopfeaa.Codec (lt_of_heap frozen_of heap_set below_new Ints)
open _root_.Go.Proofs.Ytkdjhphakopfeaa.Frame (Fr Tk Tb Rw frameOk Lying frameVal fitsTk)
open _root_.Go.Proofs.Ytkdjhphakopfeaa.Kit (Kept Off cell_on)

/-- The document's blocks, and those of the law. -/
abbrev mine : List TypeId := [30, 41, 43]
abbrev Pw := (Nat → Prop) → Nat → World → Nat → Rl → Prop
/-- The program's relay moves; the blocks of F stay. -/
structure Moved (PW : Pw) (F : Nat → Prop) (B : Nat) (w : World) (q : Nat) (r : Rl) (w' : World) : Prop where
  pw : PW F B w' q r
  off : Off mine w w'
  below : Below B w w'
  rest : Stays F w w'
/-- What is told lies wherever what is none of the document's relays, and F, stays. -/
def Told (F : Nat → Prop) (w : World) (f : Fr) (ps p : Option Addr) : Prop := ∀ u, Kept [30] w u → Stays F w u → Lying u f ps p
structure Way15 (PW : Pw) : Prop where
  below : ∀ {F B w q r w'}, PW F B w q r → Below w.heap.size w w' → PW F B w' q r
  kept : ∀ {F B w q r w'}, PW F B w q r → Kept [30] w w' → Stays F w w' → Below B w w' → PW F B w' q r
  grow : ∀ {F B w q r w'}, PW F B w q r → Below w.heap.size w w' → PW (fun g => F g ∨ (w.heap.size ≤ g ∧ g < w'.heap.size)) B w' q r
  new : ∀ w, Calls Try.prog 7 #[] w fun e w' => ∃ q, e = .returned (.pointer (some ⟨q, 0, none⟩)) ∧ PW (fun g => g < w.heap.size) w.heap.size w' q r0 ∧ Below w.heap.size w w'
  hold : ∀ {F B w q r}, PW F B w q r → B ≤ w.heap.size → ∀ f ps p cs c, (Lit.int .i64 f.kind).wf = true → fitsTk f.token = true → LyF F w f ps p → Calls Try.prog 11 #[.pointer (some ⟨q, 0, none⟩), frameVal f ps p cs c] w fun e w' => e = .returned (.int .i64 (hold r f).2) ∧ Moved PW F B w q (hold r f).1 w'
  held : ∀ {F B w q r}, PW F B w q r → B ≤ w.heap.size → r.sent ≤ 1000 → Calls Try.prog 10 #[.pointer (some ⟨q, 0, none⟩)] w fun e w' => ∃ ps p cs c, e = .returned (.tuple #[frameVal (heldF r) ps p cs c, .bool (isHeld r)]) ∧ Told F w' (heldF r) ps p ∧ Moved PW F B w q (sends r) w'
  ack : ∀ {F B w q r}, PW F B w q r → B ≤ w.heap.size → ∀ f ps p cs c, (Lit.int .i64 f.kind).wf = true → fitsTk f.token = true → Lying w f ps p → Calls Try.prog 12 #[.pointer (some ⟨q, 0, none⟩), frameVal f ps p cs c] w fun e w' => e = .returned (.bool (acks r f)) ∧ Moved PW F B w q (ack r f) w'
  drop : ∀ {F B w q r}, PW F B w q r → B ≤ w.heap.size → ∀ g h, Num g → Num h → Calls Try.prog 13 #[.pointer (some ⟨q, 0, none⟩), .agg #[.int .i64 g, .int .i64 h]] w fun e w' => e = .returned (.bool (drops r g h)) ∧ Moved PW F B w q (drop r g h) w'
  sent : ∀ {F B w q r}, PW F B w q r → r.sent ≤ 1000 → Calls Try.prog 9 #[.pointer (some ⟨q, 0, none⟩)] w fun e w' => e = .returned (.int .i64 (r.sent : Int)) ∧ Below w.heap.size w w'
  nhold : ∀ w, Calls Try.prog 11 #[.pointer none, frameVal noFr none none 0 0] w fun e w' => e = .returned (.int .i64 1) ∧ Below w.heap.size w w'
  nheld : ∀ w, Calls Try.prog 10 #[.pointer none] w fun e w' => ∃ f ps p cs c, e = .returned (.tuple #[frameVal f ps p cs c, .bool false]) ∧ Below w.heap.size w w'
  nack : ∀ w, Calls Try.prog 12 #[.pointer none, frameVal noFr none none 0 0] w fun e w' => e = .returned (.bool false) ∧ Below w.heap.size w w'
  ndrop : ∀ g h w, Calls Try.prog 13 #[.pointer none, .agg #[.int .i64 g, .int .i64 h]] w fun e w' => e = .returned (.bool false) ∧ Below w.heap.size w w'
  nsent : ∀ w, Calls Try.prog 9 #[.pointer none] w fun e w' => e = .returned (.int .i64 0) ∧ Below w.heap.size w w'
end Go.Proofs.Ytkdjhphakopfeaa.Relay
