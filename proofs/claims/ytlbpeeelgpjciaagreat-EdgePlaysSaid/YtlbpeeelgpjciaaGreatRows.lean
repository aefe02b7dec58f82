/-
  No cell of these rows narrows 'for every input' (looked for: loops, veiled, ifaces, maps, wideKeys, modest, calm, conditions, laid).
  DERIVED. THE GIVEN ROWS OF THIS SEAT. 2 by the template 'for every input the law returns true; each argument reads behind the call as it read before'; 0 by the template 'total and deterministic' (their statements: YtlbpeeelgpjciaaGreatTotals.lean).
  GIVEN WITH THE SEED: the statements are not yours to turn. If you find one false, say at which input.
  Laid BY PROGRAM, IN A SANDBOX (cutbox-rows.mjs): the forced cells as the released guide's own fill.sh prints them over the translation 6c15955e7a7a448a… (all of the seat's roots in one cut). By AI agents, Wed Nov 11 2026. No macro, syntax, notation, axiom, sorry.
-/
import Derived.Test.YtlbpeeelgpjciaaGreatChecked
import GoSem.Claim
import GoSem.ClaimJoined
import GoSem.ClaimMapViews
import Derived.JoinedTies
import Derived.KernelRfl
namespace Go.Proofs.YtlbpeeelgpjciaaGreat
/- THE CELL 'sum', in the pinned program and in every row, IS THE sha256 OF THE DUMP (.gsa) THAT YtlbpeeelgpjciaaGreatProg.lean LOADS. Nothing in Lean hashes anything: it is a label: what it is worth is what the hold of that sum in a sandbox is worth. -/
noncomputable def Tryz.pinned : Pinned := { name := "ytlbpeeelgpjciaagreat", sum := "6c15955e7a7a448a20ba188e2e730586a95b8feca991215b5a624fe8ce179595", checked := Tryz.checked }
namespace Rows
def none {H : Type} : Left H := { results := [], args := [] }

/-- 'annonalaw14.EdgePlays': WHATEVER THE INPUT: true; the input reads as it did. -/
def edgePlaysSpec : ChangeSpec := { name := "edgePlays", fn := fun _ => fun
  | [d1, d2] => { results := [.lit (.bool true)], args := [d1, d2] }
  | _ => none }
def edgePlaysRow : OpenClaim := { program := "ytlbpeeelgpjciaagreat", sum := "6c15955e7a7a448a20ba188e2e730586a95b8feca991215b5a624fe8ce179595", func := "annona/annonalaw14.EdgePlays", spec := "edgePlays", unfollowed := true, recurses := true, apart := false }
def EdgePlaysSaid : Prop := edgePlaysRow.holds Tryz.pinned (OpenSpec.ofChange edgePlaysSpec)

/-- ITS FALSE NEIGHBOUR: 'it returns false'. Refute it at one input. -/
def edgePlaysWrong : ChangeSpec := { name := "edgePlays", fn := fun _ => fun
  | [d1, d2] => { results := [.lit (.bool false)], args := [d1, d2] }
  | _ => none }
def EdgePlaysWrongFalsely : Prop := edgePlaysRow.holds Tryz.pinned (OpenSpec.ofChange edgePlaysWrong)

/-- 'annonalaw14.EdgeOnce': WHATEVER THE INPUT: true; the input reads as it did. -/
def edgeOnceSpec : ChangeSpec := { name := "edgeOnce", fn := fun _ => fun
  | [d1, d2] => { results := [.lit (.bool true)], args := [d1, d2] }
  | _ => none }
def edgeOnceRow : OpenClaim := { program := "ytlbpeeelgpjciaagreat", sum := "6c15955e7a7a448a20ba188e2e730586a95b8feca991215b5a624fe8ce179595", func := "annona/annonalaw14.EdgeOnce", spec := "edgeOnce", unfollowed := true, recurses := true, apart := false }
def EdgeOnceSaid : Prop := edgeOnceRow.holds Tryz.pinned (OpenSpec.ofChange edgeOnceSpec)

/-- ITS FALSE NEIGHBOUR: 'it returns false'. Refute it at one input. -/
def edgeOnceWrong : ChangeSpec := { name := "edgeOnce", fn := fun _ => fun
  | [d1, d2] => { results := [.lit (.bool false)], args := [d1, d2] }
  | _ => none }
def EdgeOnceWrongFalsely : Prop := edgeOnceRow.holds Tryz.pinned (OpenSpec.ofChange edgeOnceWrong)

/- THE SECOND FORM. 'bulk': how many values and letters a reading holds, each counted each time it is reached (what is shared counts as often as it is met; a slice's spare places count too). A statement '..UptoSaid' is the law's where the arguments, and the package variables that the reading takes, are together of bulk at most 1048576: NARROWER than '..Said'. Prove '..Said' where nothing that the law and all that it calls make is longer than what came in: it says more and counts as full. Else prove '..UptoSaid'. A law counts once. -/
mutual
def uptoBulk {H : Type} : DataW H → Nat
  | .lit (.string bytes) => bytes.length + 1
  | .lit _ => 1
  | .nil => 1
  | .ptr d => uptoBulk d + 1
  | .slice elems spare => uptoBulkAll elems + uptoBulkAll spare + 1
  | .agg parts => uptoBulkAll parts + 1
  | .iface _ d => uptoBulk d + 1
  | .map entries => uptoBulkEntries entries + 1
  | .held _ => 1
def uptoBulkAll {H : Type} : List (DataW H) → Nat
  | [] => 0
  | d :: r => uptoBulk d + uptoBulkAll r
def uptoBulkEntries {H : Type} : List (Lit × DataW H) → Nat
  | [] => 0
  | x :: r => uptoBulkEntry x + uptoBulkEntries r
def uptoBulkEntry {H : Type} : Lit × DataW H → Nat
  | (.string bytes, d) => bytes.length + uptoBulk d + 1
  | (_, d) => uptoBulk d + 1
 end
def uptoSmall : (H : Type) → List (DataW H) → Bool := fun _ ds => decide (uptoBulkAll ds ≤ 1048576)
def OpenSpec.upto (s : _root_.Go.ChangeSpec) : _root_.Go.OpenSpec := { _root_.Go.OpenSpec.ofChange s with cond := some uptoSmall }

/-- 'annonalaw14.EdgePlays', WHERE WHAT IT READS IS OF BULK AT MOST 1048576: true; the input reads as it did. -/
def edgePlaysUptoRow : OpenClaim := { program := "ytlbpeeelgpjciaagreat", sum := "6c15955e7a7a448a20ba188e2e730586a95b8feca991215b5a624fe8ce179595", func := "annona/annonalaw14.EdgePlays", spec := "edgePlays", unfollowed := true, recurses := true, apart := false, narrowed := true }
def EdgePlaysUptoSaid : Prop := edgePlaysUptoRow.holds Tryz.pinned (OpenSpec.upto edgePlaysSpec)

/-- 'annonalaw14.EdgeOnce', WHERE WHAT IT READS IS OF BULK AT MOST 1048576: true; the input reads as it did. -/
def edgeOnceUptoRow : OpenClaim := { program := "ytlbpeeelgpjciaagreat", sum := "6c15955e7a7a448a20ba188e2e730586a95b8feca991215b5a624fe8ce179595", func := "annona/annonalaw14.EdgeOnce", spec := "edgeOnce", unfollowed := true, recurses := true, apart := false, narrowed := true }
def EdgeOnceUptoSaid : Prop := edgeOnceUptoRow.holds Tryz.pinned (OpenSpec.upto edgeOnceSpec)

end Rows
end Go.Proofs.YtlbpeeelgpjciaaGreat
