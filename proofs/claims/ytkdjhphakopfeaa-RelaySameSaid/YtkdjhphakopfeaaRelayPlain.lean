/-
  A relay as data (a frame that is held, or none; how often frames were sent), and what each of its calls makes and tells. Plain functions, no program.
-/
import Derived.Test.YtkdjhphakopfeaaFramePlain
namespace Go.Proofs.Ytkdjhphakopfeaa.Relay
open _root_.Go.Proofs.Ytkdjhphakopfeaa.Frame (Fr Tk Tb frameOk)

def Num (x : Int) : Prop := -9223372036854775808 ≤ x ∧ x ≤ 9223372036854775807
def noFr : Fr := ⟨0, 0, 0, 0, 0, 0, ⟨0, 0, [], ⟨0, []⟩⟩⟩
/-- Which place is newer. -/
def newer (a b : Int × Int) : Bool := decide (b.1 < a.1) || (a.1 == b.1 && decide (b.2 < a.2))
/-- A relay. -/
structure Rl where
  held : Option Fr
  sent : Nat
def r0 : Rl := ⟨none, 0⟩
def hold (r : Rl) (f : Fr) : Rl × Int := if frameOk f = true ∧ f.kind = 0 then (match r.held with | some _ => (r, 5) | none => (⟨some f, r.sent⟩, 0)) else (r, 1)
def heldF (r : Rl) : Fr := r.held.getD noFr
def isHeld (r : Rl) : Bool := r.held.isSome
def sends (r : Rl) : Rl := if isHeld r = true then ⟨r.held, r.sent + 1⟩ else r
/-- Does an ack answer a frame? -/
def answers (x f : Fr) : Bool := f.src == x.dst && f.dst == x.src && f.gen == x.token.gen && f.hop == x.token.hop
def acks (r : Rl) (f : Fr) : Bool := frameOk f && f.kind == 1 && (match r.held with | some x => answers x f | none => false)
def ack (r : Rl) (f : Fr) : Rl := if acks r f = true then ⟨none, r.sent⟩ else r
def drops (r : Rl) (g p : Int) : Bool := match r.held with | some x => newer (g, p) (x.token.gen, x.token.hop) | none => false
def drop (r : Rl) (g p : Int) : Rl := if drops r g p = true then ⟨none, r.sent⟩ else r
/-- An act: its kind, a frame, a place. -/
structure Ac where
  kind : Int
  f : Fr
  gen : Int
  hop : Int
/-- What an act makes. -/
def actOf (r : Rl) (a : Ac) : Rl :=
  if a.kind % 7 = 2 ∨ a.kind % 7 = 3 then sends r
  else if a.kind % 7 = 4 ∨ a.kind % 7 = 5 then ack r a.f
  else if a.kind % 7 = 6 then drop r a.gen a.hop
  else (hold r a.f).1
theorem sent_act (r : Rl) (a : Ac) : (actOf r a).sent ≤ r.sent + 1 := by
  unfold actOf sends ack drop hold
  split
  · split <;> simp
  · split
    · split <;> simp
    · split
      · split <;> simp
      · split
        · split <;> simp
        · simp
end Go.Proofs.Ytkdjhphakopfeaa.Relay
