/-
  No cell of these rows narrows 'for every input' (looked for: loops, veiled, ifaces, maps, wideKeys, modest, calm, conditions, laid).
  DERIVED. THE GIVEN ROWS OF THIS SEAT. 3 by the template 'for every input the law returns true; each argument reads behind the call as it read before'; 0 by the template 'total and deterministic' (their statements: YtbgdlokegibkmaaGreatTotals.lean).
  GIVEN WITH THE SEED: the statements are not yours to turn. If you find one false, say at which input.
  Laid BY PROGRAM, IN A SANDBOX (cutbox-rows.mjs): the forced cells as the released guide's own fill.sh prints them over the translation 1be6c713603e3d7e… (all of the seat's roots in one cut). By AI agents, Wed Nov 11 2026. No macro, syntax, notation, axiom, sorry.
-/
import Derived.Test.YtbgdlokegibkmaaGreatChecked
import GoSem.Claim
import GoSem.ClaimJoined
import GoSem.ClaimMapViews
import Derived.JoinedTies
import Derived.KernelRfl
namespace Go.Proofs.YtbgdlokegibkmaaGreat
/- THE CELL 'sum', in the pinned program and in every row, IS THE sha256 OF THE DUMP (.gsa) THAT YtbgdlokegibkmaaGreatProg.lean LOADS. Nothing in Lean hashes anything: it is a label: what it is worth is what the hold of that sum in a sandbox is worth. -/
noncomputable def Tryz.pinned : Pinned := { name := "ytbgdlokegibkmaagreat", sum := "1be6c713603e3d7e6d336c2df4041952b9315b37d913bab882c06257291b4be6", checked := Tryz.checked }
namespace Rows
def none {H : Type} : Left H := { results := [], args := [] }

/-- 'annonalaw18.VisitPlays': WHATEVER THE INPUT: true; the input reads as it did. -/
def visitPlaysSpec : ChangeSpec := { name := "visitPlays", fn := fun _ => fun
  | [d1, d2, d3] => { results := [.lit (.bool true)], args := [d1, d2, d3] }
  | _ => none }
def visitPlaysRow : OpenClaim := { program := "ytbgdlokegibkmaagreat", sum := "1be6c713603e3d7e6d336c2df4041952b9315b37d913bab882c06257291b4be6", func := "annona/annonalaw18.VisitPlays", spec := "visitPlays", unfollowed := true, recurses := true, apart := false }
def VisitPlaysSaid : Prop := visitPlaysRow.holds Tryz.pinned (OpenSpec.ofChange visitPlaysSpec)

/-- ITS FALSE NEIGHBOUR: 'it returns false'. Refute it at one input. -/
def visitPlaysWrong : ChangeSpec := { name := "visitPlays", fn := fun _ => fun
  | [d1, d2, d3] => { results := [.lit (.bool false)], args := [d1, d2, d3] }
  | _ => none }
def VisitPlaysWrongFalsely : Prop := visitPlaysRow.holds Tryz.pinned (OpenSpec.ofChange visitPlaysWrong)

/-- 'annonalaw18.VisitMakes': WHATEVER THE INPUT: true; the input reads as it did. -/
def visitMakesSpec : ChangeSpec := { name := "visitMakes", fn := fun _ => fun
  | [d1, d2, d3] => { results := [.lit (.bool true)], args := [d1, d2, d3] }
  | _ => none }
def visitMakesRow : OpenClaim := { program := "ytbgdlokegibkmaagreat", sum := "1be6c713603e3d7e6d336c2df4041952b9315b37d913bab882c06257291b4be6", func := "annona/annonalaw18.VisitMakes", spec := "visitMakes", unfollowed := true, recurses := true, apart := false }
def VisitMakesSaid : Prop := visitMakesRow.holds Tryz.pinned (OpenSpec.ofChange visitMakesSpec)

/-- ITS FALSE NEIGHBOUR: 'it returns false'. Refute it at one input. -/
def visitMakesWrong : ChangeSpec := { name := "visitMakes", fn := fun _ => fun
  | [d1, d2, d3] => { results := [.lit (.bool false)], args := [d1, d2, d3] }
  | _ => none }
def VisitMakesWrongFalsely : Prop := visitMakesRow.holds Tryz.pinned (OpenSpec.ofChange visitMakesWrong)

/-- 'annonalaw18.VisitNever': WHATEVER THE INPUT: true; the input reads as it did. -/
def visitNeverSpec : ChangeSpec := { name := "visitNever", fn := fun _ => fun
  | [d1, d2, d3] => { results := [.lit (.bool true)], args := [d1, d2, d3] }
  | _ => none }
def visitNeverRow : OpenClaim := { program := "ytbgdlokegibkmaagreat", sum := "1be6c713603e3d7e6d336c2df4041952b9315b37d913bab882c06257291b4be6", func := "annona/annonalaw18.VisitNever", spec := "visitNever", unfollowed := true, recurses := true, apart := false }
def VisitNeverSaid : Prop := visitNeverRow.holds Tryz.pinned (OpenSpec.ofChange visitNeverSpec)

/-- ITS FALSE NEIGHBOUR: 'it returns false'. Refute it at one input. -/
def visitNeverWrong : ChangeSpec := { name := "visitNever", fn := fun _ => fun
  | [d1, d2, d3] => { results := [.lit (.bool false)], args := [d1, d2, d3] }
  | _ => none }
def VisitNeverWrongFalsely : Prop := visitNeverRow.holds Tryz.pinned (OpenSpec.ofChange visitNeverWrong)

/- THE SECOND FORM. 'bulk': how many values and letters a reading holds, each counted each time it is reached (what is shared counts as often as it is met; a slice's spare places count too). A statement '..UptoSaid' is the law's where the arguments, and the package variables that the reading takes, are together of bulk at most 1048576: NARROWER than '..Said'. Prove '..Said' where nothing that the law and all that it calls make is longer than what came in: it says more and counts as full. Else prove '..UptoSaid'. A law counts once. -/
mutual
def uptoBulk {H : Type} : DataW H → Nat
  | .lit (.string bytes) => bytes.length + 1
  | .lit _ => 1
  | .nil => 1
  | .ptr d => uptoBulk d + 1
  | .slice elems spare => uptoBulkAll elems + uptoBulkAll spare + 1
  | .agg parts => uptoBulkAll parts + 1
  | .iface _ d => uptoBulk d + 1
  | .map entries => uptoBulkEntries entries + 1
  | .held _ => 1
def uptoBulkAll {H : Type} : List (DataW H) → Nat
  | [] => 0
  | d :: r => uptoBulk d + uptoBulkAll r
def uptoBulkEntries {H : Type} : List (Lit × DataW H) → Nat
  | [] => 0
  | x :: r => uptoBulkEntry x + uptoBulkEntries r
def uptoBulkEntry {H : Type} : Lit × DataW H → Nat
  | (.string bytes, d) => bytes.length + uptoBulk d + 1
  | (_, d) => uptoBulk d + 1
 end
def uptoSmall : (H : Type) → List (DataW H) → Bool := fun _ ds => decide (uptoBulkAll ds ≤ 1048576)
def OpenSpec.upto (s : _root_.Go.ChangeSpec) : _root_.Go.OpenSpec := { _root_.Go.OpenSpec.ofChange s with cond := some uptoSmall }

/-- 'annonalaw18.VisitPlays', WHERE WHAT IT READS IS OF BULK AT MOST 1048576: true; the input reads as it did. -/
def visitPlaysUptoRow : OpenClaim := { program := "ytbgdlokegibkmaagreat", sum := "1be6c713603e3d7e6d336c2df4041952b9315b37d913bab882c06257291b4be6", func := "annona/annonalaw18.VisitPlays", spec := "visitPlays", unfollowed := true, recurses := true, apart := false, narrowed := true }
def VisitPlaysUptoSaid : Prop := visitPlaysUptoRow.holds Tryz.pinned (OpenSpec.upto visitPlaysSpec)

/-- 'annonalaw18.VisitMakes', WHERE WHAT IT READS IS OF BULK AT MOST 1048576: true; the input reads as it did. -/
def visitMakesUptoRow : OpenClaim := { program := "ytbgdlokegibkmaagreat", sum := "1be6c713603e3d7e6d336c2df4041952b9315b37d913bab882c06257291b4be6", func := "annona/annonalaw18.VisitMakes", spec := "visitMakes", unfollowed := true, recurses := true, apart := false, narrowed := true }
def VisitMakesUptoSaid : Prop := visitMakesUptoRow.holds Tryz.pinned (OpenSpec.upto visitMakesSpec)

/-- 'annonalaw18.VisitNever', WHERE WHAT IT READS IS OF BULK AT MOST 1048576: true; the input reads as it did. -/
def visitNeverUptoRow : OpenClaim := { program := "ytbgdlokegibkmaagreat", sum := "1be6c713603e3d7e6d336c2df4041952b9315b37d913bab882c06257291b4be6", func := "annona/annonalaw18.VisitNever", spec := "visitNever", unfollowed := true, recurses := true, apart := false, narrowed := true }
def VisitNeverUptoSaid : Prop := visitNeverUptoRow.holds Tryz.pinned (OpenSpec.upto visitNeverSpec)

end Rows
end Go.Proofs.YtbgdlokegibkmaaGreat
