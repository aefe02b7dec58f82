/-
  No cell of these rows narrows 'for every input' (looked for: loops, veiled, ifaces, maps, wideKeys, modest, calm, conditions, laid).
  DERIVED. THE GIVEN ROWS OF THIS SEAT. 3 by the template 'for every input the law returns true; each argument reads behind the call as it read before'; 0 by the template 'total and deterministic' (their statements: YtagedggmfihhjaaTotals.lean).
  GIVEN WITH THE SEED: the statements are not yours to turn. If you find one false, say at which input.
  Laid BY PROGRAM, IN A SANDBOX (cutbox-rows.mjs): the forced cells as the released guide's own fill.sh prints them over the translation 3fa1bb339fba5ef5… (all of the seat's roots in one cut). By AI agents, Wed Nov 11 2026. No macro, syntax, notation, axiom, sorry.
-/
import Derived.Test.YtagedggmfihhjaaChecked
import GoSem.Claim
import GoSem.ClaimJoined
import GoSem.ClaimMapViews
import Derived.JoinedTies
import Derived.KernelRfl
namespace Go.Proofs.Ytagedggmfihhjaa
/- THE CELL 'sum', in the pinned program and in every row, IS THE sha256 OF THE DUMP (.gsa) THAT YtagedggmfihhjaaProg.lean LOADS. Nothing in Lean hashes anything: it is a label: what it is worth is what the hold of that sum in a sandbox is worth. -/
noncomputable def Try.pinned : Pinned := { name := "ytagedggmfihhjaa", sum := "3fa1bb339fba5ef59d1ef9461e20e6c74fe823e96baa91b2aac9cdb5d0b903b1", checked := Try.checked }
namespace Rows
def none {H : Type} : Left H := { results := [], args := [] }

/-- 'annonalaw10.TokenFresh': WHATEVER THE INPUT: true; the input reads as it did. -/
def tokenFreshSpec : ChangeSpec := { name := "tokenFresh", fn := fun _ => fun
  | [d1, d2, d3] => { results := [.lit (.bool true)], args := [d1, d2, d3] }
  | _ => none }
def tokenFreshRow : OpenClaim := { program := "ytagedggmfihhjaa", sum := "3fa1bb339fba5ef59d1ef9461e20e6c74fe823e96baa91b2aac9cdb5d0b903b1", func := "annona/annonalaw10.TokenFresh", spec := "tokenFresh", recurses := true, apart := false }
def TokenFreshSaid : Prop := tokenFreshRow.holds Try.pinned (OpenSpec.ofChange tokenFreshSpec)

/-- ITS FALSE NEIGHBOUR: 'it returns false'. Refute it at one input. -/
def tokenFreshWrong : ChangeSpec := { name := "tokenFresh", fn := fun _ => fun
  | [d1, d2, d3] => { results := [.lit (.bool false)], args := [d1, d2, d3] }
  | _ => none }
def TokenFreshWrongFalsely : Prop := tokenFreshRow.holds Try.pinned (OpenSpec.ofChange tokenFreshWrong)

/-- 'annonalaw10.TokenMajority': WHATEVER THE INPUT: true; the input reads as it did. -/
def tokenMajoritySpec : ChangeSpec := { name := "tokenMajority", fn := fun _ => fun
  | [d1, d2, d3] => { results := [.lit (.bool true)], args := [d1, d2, d3] }
  | _ => none }
def tokenMajorityRow : OpenClaim := { program := "ytagedggmfihhjaa", sum := "3fa1bb339fba5ef59d1ef9461e20e6c74fe823e96baa91b2aac9cdb5d0b903b1", func := "annona/annonalaw10.TokenMajority", spec := "tokenMajority", recurses := true, apart := false }
def TokenMajoritySaid : Prop := tokenMajorityRow.holds Try.pinned (OpenSpec.ofChange tokenMajoritySpec)

/-- ITS FALSE NEIGHBOUR: 'it returns false'. Refute it at one input. -/
def tokenMajorityWrong : ChangeSpec := { name := "tokenMajority", fn := fun _ => fun
  | [d1, d2, d3] => { results := [.lit (.bool false)], args := [d1, d2, d3] }
  | _ => none }
def TokenMajorityWrongFalsely : Prop := tokenMajorityRow.holds Try.pinned (OpenSpec.ofChange tokenMajorityWrong)

/-- 'annonalaw10.TokenLine': WHATEVER THE INPUT: true; the input reads as it did. -/
def tokenLineSpec : ChangeSpec := { name := "tokenLine", fn := fun _ => fun
  | [d1, d2] => { results := [.lit (.bool true)], args := [d1, d2] }
  | _ => none }
def tokenLineRow : OpenClaim := { program := "ytagedggmfihhjaa", sum := "3fa1bb339fba5ef59d1ef9461e20e6c74fe823e96baa91b2aac9cdb5d0b903b1", func := "annona/annonalaw10.TokenLine", spec := "tokenLine", recurses := true, apart := false }
def TokenLineSaid : Prop := tokenLineRow.holds Try.pinned (OpenSpec.ofChange tokenLineSpec)

/-- ITS FALSE NEIGHBOUR: 'it returns false'. Refute it at one input. -/
def tokenLineWrong : ChangeSpec := { name := "tokenLine", fn := fun _ => fun
  | [d1, d2] => { results := [.lit (.bool false)], args := [d1, d2] }
  | _ => none }
def TokenLineWrongFalsely : Prop := tokenLineRow.holds Try.pinned (OpenSpec.ofChange tokenLineWrong)

/- THE SECOND FORM. 'bulk': how many values and letters a reading holds, each counted each time it is reached (what is shared counts as often as it is met; a slice's spare places count too). A statement '..UptoSaid' is the law's where the arguments, and the package variables that the reading takes, are together of bulk at most 1048576: NARROWER than '..Said'. Prove '..Said' where nothing that the law and all that it calls make is longer than what came in: it says more and counts as full. Else prove '..UptoSaid'. A law counts once. -/
mutual
def uptoBulk {H : Type} : DataW H → Nat
  | .lit (.string bytes) => bytes.length + 1
  | .lit _ => 1
  | .nil => 1
  | .ptr d => uptoBulk d + 1
  | .slice elems spare => uptoBulkAll elems + uptoBulkAll spare + 1
  | .agg parts => uptoBulkAll parts + 1
  | .iface _ d => uptoBulk d + 1
  | .map entries => uptoBulkEntries entries + 1
  | .held _ => 1
def uptoBulkAll {H : Type} : List (DataW H) → Nat
  | [] => 0
  | d :: r => uptoBulk d + uptoBulkAll r
def uptoBulkEntries {H : Type} : List (Lit × DataW H) → Nat
  | [] => 0
  | x :: r => uptoBulkEntry x + uptoBulkEntries r
def uptoBulkEntry {H : Type} : Lit × DataW H → Nat
  | (.string bytes, d) => bytes.length + uptoBulk d + 1
  | (_, d) => uptoBulk d + 1
 end
def uptoSmall : (H : Type) → List (DataW H) → Bool := fun _ ds => decide (uptoBulkAll ds ≤ 1048576)
def OpenSpec.upto (s : _root_.Go.ChangeSpec) : _root_.Go.OpenSpec := { _root_.Go.OpenSpec.ofChange s with cond := some uptoSmall }

/-- 'annonalaw10.TokenFresh', WHERE WHAT IT READS IS OF BULK AT MOST 1048576: true; the input reads as it did. -/
def tokenFreshUptoRow : OpenClaim := { program := "ytagedggmfihhjaa", sum := "3fa1bb339fba5ef59d1ef9461e20e6c74fe823e96baa91b2aac9cdb5d0b903b1", func := "annona/annonalaw10.TokenFresh", spec := "tokenFresh", recurses := true, apart := false, narrowed := true }
def TokenFreshUptoSaid : Prop := tokenFreshUptoRow.holds Try.pinned (OpenSpec.upto tokenFreshSpec)

/-- 'annonalaw10.TokenMajority', WHERE WHAT IT READS IS OF BULK AT MOST 1048576: true; the input reads as it did. -/
def tokenMajorityUptoRow : OpenClaim := { program := "ytagedggmfihhjaa", sum := "3fa1bb339fba5ef59d1ef9461e20e6c74fe823e96baa91b2aac9cdb5d0b903b1", func := "annona/annonalaw10.TokenMajority", spec := "tokenMajority", recurses := true, apart := false, narrowed := true }
def TokenMajorityUptoSaid : Prop := tokenMajorityUptoRow.holds Try.pinned (OpenSpec.upto tokenMajoritySpec)

/-- 'annonalaw10.TokenLine', WHERE WHAT IT READS IS OF BULK AT MOST 1048576: true; the input reads as it did. -/
def tokenLineUptoRow : OpenClaim := { program := "ytagedggmfihhjaa", sum := "3fa1bb339fba5ef59d1ef9461e20e6c74fe823e96baa91b2aac9cdb5d0b903b1", func := "annona/annonalaw10.TokenLine", spec := "tokenLine", recurses := true, apart := false, narrowed := true }
def TokenLineUptoSaid : Prop := tokenLineUptoRow.holds Try.pinned (OpenSpec.upto tokenLineSpec)

end Rows
end Go.Proofs.Ytagedggmfihhjaa
