/-
  No cell of these rows narrows 'for every input' (looked for: loops, veiled, ifaces, maps, wideKeys, modest, calm, conditions, laid).
  DERIVED. THE GIVEN ROWS OF THIS SEAT. 11 by the template 'for every input the law returns true; each argument reads behind the call as it read before'; 0 by the template 'total and deterministic' (their statements: YtblmmijjabahiaaTotals.lean).
  GIVEN WITH THE SEED: the statements are not yours to turn. If you find one false, say at which input.
  Laid BY PROGRAM, IN A SANDBOX (cutbox-rows.mjs): the forced cells as the released guide's own fill.sh prints them over the translation b353d1433ab9ccb2… (all of the seat's roots in one cut). By AI agents, Wed Nov 11 2026. No macro, syntax, notation, axiom, sorry.
-/
import Derived.Test.YtblmmijjabahiaaChecked
import GoSem.Claim
import GoSem.ClaimJoined
import GoSem.ClaimMapViews
import Derived.JoinedTies
import Derived.KernelRfl
namespace Go.Proofs.Ytblmmijjabahiaa
/- THE CELL 'sum', in the pinned program and in every row, IS THE sha256 OF THE DUMP (.gsa) THAT YtblmmijjabahiaaProg.lean LOADS. Nothing in Lean hashes anything: it is a label: what it is worth is what the hold of that sum in a sandbox is worth. -/
noncomputable def Try.pinned : Pinned := { name := "ytblmmijjabahiaa", sum := "b353d1433ab9ccb23bd7850f902cd80a5892d2c72952945c30435fbc251f131d", checked := Try.checked }
namespace Rows
def none {H : Type} : Left H := { results := [], args := [] }

/-- 'annonalaw01.SatOrder': WHATEVER THE INPUT: true; the input reads as it did. -/
def satOrderSpec : ChangeSpec := { name := "satOrder", fn := fun _ => fun
  | [d1, d2, d3] => { results := [.lit (.bool true)], args := [d1, d2, d3] }
  | _ => none }
def satOrderRow : OpenClaim := { program := "ytblmmijjabahiaa", sum := "b353d1433ab9ccb23bd7850f902cd80a5892d2c72952945c30435fbc251f131d", func := "annona/annonalaw01.SatOrder", spec := "satOrder", apart := false }
def SatOrderSaid : Prop := satOrderRow.holds Try.pinned (OpenSpec.ofChange satOrderSpec)

/-- ITS FALSE NEIGHBOUR: 'it returns false'. Refute it at one input. -/
def satOrderWrong : ChangeSpec := { name := "satOrder", fn := fun _ => fun
  | [d1, d2, d3] => { results := [.lit (.bool false)], args := [d1, d2, d3] }
  | _ => none }
def SatOrderWrongFalsely : Prop := satOrderRow.holds Try.pinned (OpenSpec.ofChange satOrderWrong)

/-- 'annonalaw02.RingTells': WHATEVER THE INPUT: true; the input reads as it did. -/
def ringTellsSpec : ChangeSpec := { name := "ringTells", fn := fun _ => fun
  | [d1, d2, d3] => { results := [.lit (.bool true)], args := [d1, d2, d3] }
  | _ => none }
def ringTellsRow : OpenClaim := { program := "ytblmmijjabahiaa", sum := "b353d1433ab9ccb23bd7850f902cd80a5892d2c72952945c30435fbc251f131d", func := "annona/annonalaw02.RingTells", spec := "ringTells", unfollowed := true, recurses := true, apart := false }
def RingTellsSaid : Prop := ringTellsRow.holds Try.pinned (OpenSpec.ofChange ringTellsSpec)

/-- ITS FALSE NEIGHBOUR: 'it returns false'. Refute it at one input. -/
def ringTellsWrong : ChangeSpec := { name := "ringTells", fn := fun _ => fun
  | [d1, d2, d3] => { results := [.lit (.bool false)], args := [d1, d2, d3] }
  | _ => none }
def RingTellsWrongFalsely : Prop := ringTellsRow.holds Try.pinned (OpenSpec.ofChange ringTellsWrong)

/-- 'annonalaw02.RingNth': WHATEVER THE INPUT: true; the input reads as it did. -/
def ringNthSpec : ChangeSpec := { name := "ringNth", fn := fun _ => fun
  | [d1, d2] => { results := [.lit (.bool true)], args := [d1, d2] }
  | _ => none }
def ringNthRow : OpenClaim := { program := "ytblmmijjabahiaa", sum := "b353d1433ab9ccb23bd7850f902cd80a5892d2c72952945c30435fbc251f131d", func := "annona/annonalaw02.RingNth", spec := "ringNth", unfollowed := true, recurses := true, apart := false }
def RingNthSaid : Prop := ringNthRow.holds Try.pinned (OpenSpec.ofChange ringNthSpec)

/-- ITS FALSE NEIGHBOUR: 'it returns false'. Refute it at one input. -/
def ringNthWrong : ChangeSpec := { name := "ringNth", fn := fun _ => fun
  | [d1, d2] => { results := [.lit (.bool false)], args := [d1, d2] }
  | _ => none }
def RingNthWrongFalsely : Prop := ringNthRow.holds Try.pinned (OpenSpec.ofChange ringNthWrong)

/-- 'annonalaw02.RingMeet': WHATEVER THE INPUT: true; the input reads as it did. -/
def ringMeetSpec : ChangeSpec := { name := "ringMeet", fn := fun _ => fun
  | [d1, d2, d3] => { results := [.lit (.bool true)], args := [d1, d2, d3] }
  | _ => none }
def ringMeetRow : OpenClaim := { program := "ytblmmijjabahiaa", sum := "b353d1433ab9ccb23bd7850f902cd80a5892d2c72952945c30435fbc251f131d", func := "annona/annonalaw02.RingMeet", spec := "ringMeet", unfollowed := true, recurses := true, apart := false }
def RingMeetSaid : Prop := ringMeetRow.holds Try.pinned (OpenSpec.ofChange ringMeetSpec)

/-- ITS FALSE NEIGHBOUR: 'it returns false'. Refute it at one input. -/
def ringMeetWrong : ChangeSpec := { name := "ringMeet", fn := fun _ => fun
  | [d1, d2, d3] => { results := [.lit (.bool false)], args := [d1, d2, d3] }
  | _ => none }
def RingMeetWrongFalsely : Prop := ringMeetRow.holds Try.pinned (OpenSpec.ofChange ringMeetWrong)

/-- 'annonalaw02.RingRound': WHATEVER THE INPUT: true; the input reads as it did. -/
def ringRoundSpec : ChangeSpec := { name := "ringRound", fn := fun _ => fun
  | [d1, d2, d3] => { results := [.lit (.bool true)], args := [d1, d2, d3] }
  | _ => none }
def ringRoundRow : OpenClaim := { program := "ytblmmijjabahiaa", sum := "b353d1433ab9ccb23bd7850f902cd80a5892d2c72952945c30435fbc251f131d", func := "annona/annonalaw02.RingRound", spec := "ringRound", unfollowed := true, recurses := true, apart := false }
def RingRoundSaid : Prop := ringRoundRow.holds Try.pinned (OpenSpec.ofChange ringRoundSpec)

/-- ITS FALSE NEIGHBOUR: 'it returns false'. Refute it at one input. -/
def ringRoundWrong : ChangeSpec := { name := "ringRound", fn := fun _ => fun
  | [d1, d2, d3] => { results := [.lit (.bool false)], args := [d1, d2, d3] }
  | _ => none }
def RingRoundWrongFalsely : Prop := ringRoundRow.holds Try.pinned (OpenSpec.ofChange ringRoundWrong)

/-- 'annonalaw03.ConfTells': WHATEVER THE INPUT: true; the input reads as it did. -/
def confTellsSpec : ChangeSpec := { name := "confTells", fn := fun _ => fun
  | [d1, d2, d3] => { results := [.lit (.bool true)], args := [d1, d2, d3] }
  | _ => none }
def confTellsRow : OpenClaim := { program := "ytblmmijjabahiaa", sum := "b353d1433ab9ccb23bd7850f902cd80a5892d2c72952945c30435fbc251f131d", func := "annona/annonalaw03.ConfTells", spec := "confTells", apart := false }
def ConfTellsSaid : Prop := confTellsRow.holds Try.pinned (OpenSpec.ofChange confTellsSpec)

/-- ITS FALSE NEIGHBOUR: 'it returns false'. Refute it at one input. -/
def confTellsWrong : ChangeSpec := { name := "confTells", fn := fun _ => fun
  | [d1, d2, d3] => { results := [.lit (.bool false)], args := [d1, d2, d3] }
  | _ => none }
def ConfTellsWrongFalsely : Prop := confTellsRow.holds Try.pinned (OpenSpec.ofChange confTellsWrong)

/-- 'annonalaw03.ConfNumbers': WHATEVER THE INPUT: true; the input reads as it did. -/
def confNumbersSpec : ChangeSpec := { name := "confNumbers", fn := fun _ => fun
  | [d1, d2, d3] => { results := [.lit (.bool true)], args := [d1, d2, d3] }
  | _ => none }
def confNumbersRow : OpenClaim := { program := "ytblmmijjabahiaa", sum := "b353d1433ab9ccb23bd7850f902cd80a5892d2c72952945c30435fbc251f131d", func := "annona/annonalaw03.ConfNumbers", spec := "confNumbers", apart := false }
def ConfNumbersSaid : Prop := confNumbersRow.holds Try.pinned (OpenSpec.ofChange confNumbersSpec)

/-- ITS FALSE NEIGHBOUR: 'it returns false'. Refute it at one input. -/
def confNumbersWrong : ChangeSpec := { name := "confNumbers", fn := fun _ => fun
  | [d1, d2, d3] => { results := [.lit (.bool false)], args := [d1, d2, d3] }
  | _ => none }
def ConfNumbersWrongFalsely : Prop := confNumbersRow.holds Try.pinned (OpenSpec.ofChange confNumbersWrong)

/-- 'annonalaw03.ConfOther': WHATEVER THE INPUT: true; the input reads as it did. -/
def confOtherSpec : ChangeSpec := { name := "confOther", fn := fun _ => fun
  | [d1, d2, d3] => { results := [.lit (.bool true)], args := [d1, d2, d3] }
  | _ => none }
def confOtherRow : OpenClaim := { program := "ytblmmijjabahiaa", sum := "b353d1433ab9ccb23bd7850f902cd80a5892d2c72952945c30435fbc251f131d", func := "annona/annonalaw03.ConfOther", spec := "confOther", apart := false }
def ConfOtherSaid : Prop := confOtherRow.holds Try.pinned (OpenSpec.ofChange confOtherSpec)

/-- ITS FALSE NEIGHBOUR: 'it returns false'. Refute it at one input. -/
def confOtherWrong : ChangeSpec := { name := "confOther", fn := fun _ => fun
  | [d1, d2, d3] => { results := [.lit (.bool false)], args := [d1, d2, d3] }
  | _ => none }
def ConfOtherWrongFalsely : Prop := confOtherRow.holds Try.pinned (OpenSpec.ofChange confOtherWrong)

/-- 'annonalaw04.CodecWrites': WHATEVER THE INPUT: true; the input reads as it did. -/
def codecWritesSpec : ChangeSpec := { name := "codecWrites", fn := fun _ => fun
  | [d1, d2] => { results := [.lit (.bool true)], args := [d1, d2] }
  | _ => none }
def codecWritesRow : OpenClaim := { program := "ytblmmijjabahiaa", sum := "b353d1433ab9ccb23bd7850f902cd80a5892d2c72952945c30435fbc251f131d", func := "annona/annonalaw04.CodecWrites", spec := "codecWrites", apart := false }
def CodecWritesSaid : Prop := codecWritesRow.holds Try.pinned (OpenSpec.ofChange codecWritesSpec)

/-- ITS FALSE NEIGHBOUR: 'it returns false'. Refute it at one input. -/
def codecWritesWrong : ChangeSpec := { name := "codecWrites", fn := fun _ => fun
  | [d1, d2] => { results := [.lit (.bool false)], args := [d1, d2] }
  | _ => none }
def CodecWritesWrongFalsely : Prop := codecWritesRow.holds Try.pinned (OpenSpec.ofChange codecWritesWrong)

/-- 'annonalaw04.CodecReads': WHATEVER THE INPUT: true; the input reads as it did. -/
def codecReadsSpec : ChangeSpec := { name := "codecReads", fn := fun _ => fun
  | [d1, d2] => { results := [.lit (.bool true)], args := [d1, d2] }
  | _ => none }
def codecReadsRow : OpenClaim := { program := "ytblmmijjabahiaa", sum := "b353d1433ab9ccb23bd7850f902cd80a5892d2c72952945c30435fbc251f131d", func := "annona/annonalaw04.CodecReads", spec := "codecReads", apart := false }
def CodecReadsSaid : Prop := codecReadsRow.holds Try.pinned (OpenSpec.ofChange codecReadsSpec)

/-- ITS FALSE NEIGHBOUR: 'it returns false'. Refute it at one input. -/
def codecReadsWrong : ChangeSpec := { name := "codecReads", fn := fun _ => fun
  | [d1, d2] => { results := [.lit (.bool false)], args := [d1, d2] }
  | _ => none }
def CodecReadsWrongFalsely : Prop := codecReadsRow.holds Try.pinned (OpenSpec.ofChange codecReadsWrong)

/-- 'annonalaw04.CodecBack': WHATEVER THE INPUT: true; the input reads as it did. -/
def codecBackSpec : ChangeSpec := { name := "codecBack", fn := fun _ => fun
  | [d1, d2] => { results := [.lit (.bool true)], args := [d1, d2] }
  | _ => none }
def codecBackRow : OpenClaim := { program := "ytblmmijjabahiaa", sum := "b353d1433ab9ccb23bd7850f902cd80a5892d2c72952945c30435fbc251f131d", func := "annona/annonalaw04.CodecBack", spec := "codecBack", apart := false }
def CodecBackSaid : Prop := codecBackRow.holds Try.pinned (OpenSpec.ofChange codecBackSpec)

/-- ITS FALSE NEIGHBOUR: 'it returns false'. Refute it at one input. -/
def codecBackWrong : ChangeSpec := { name := "codecBack", fn := fun _ => fun
  | [d1, d2] => { results := [.lit (.bool false)], args := [d1, d2] }
  | _ => none }
def CodecBackWrongFalsely : Prop := codecBackRow.holds Try.pinned (OpenSpec.ofChange codecBackWrong)

/- THE SECOND FORM. 'bulk': how many values and letters a reading holds, each counted each time it is reached (what is shared counts as often as it is met; a slice's spare places count too). A statement '..UptoSaid' is the law's where the arguments, and the package variables that the reading takes, are together of bulk at most 1048576: NARROWER than '..Said'. Prove '..Said' where nothing that the law and all that it calls make is longer than what came in: it says more and counts as full. Else prove '..UptoSaid'. A law counts once. -/
mutual
def uptoBulk {H : Type} : DataW H → Nat
  | .lit (.string bytes) => bytes.length + 1
  | .lit _ => 1
  | .nil => 1
  | .ptr d => uptoBulk d + 1
  | .slice elems spare => uptoBulkAll elems + uptoBulkAll spare + 1
  | .agg parts => uptoBulkAll parts + 1
  | .iface _ d => uptoBulk d + 1
  | .map entries => uptoBulkEntries entries + 1
  | .held _ => 1
def uptoBulkAll {H : Type} : List (DataW H) → Nat
  | [] => 0
  | d :: r => uptoBulk d + uptoBulkAll r
def uptoBulkEntries {H : Type} : List (Lit × DataW H) → Nat
  | [] => 0
  | x :: r => uptoBulkEntry x + uptoBulkEntries r
def uptoBulkEntry {H : Type} : Lit × DataW H → Nat
  | (.string bytes, d) => bytes.length + uptoBulk d + 1
  | (_, d) => uptoBulk d + 1
 end
def uptoSmall : (H : Type) → List (DataW H) → Bool := fun _ ds => decide (uptoBulkAll ds ≤ 1048576)
def OpenSpec.upto (s : _root_.Go.ChangeSpec) : _root_.Go.OpenSpec := { _root_.Go.OpenSpec.ofChange s with cond := some uptoSmall }

/-- 'annonalaw01.SatOrder', WHERE WHAT IT READS IS OF BULK AT MOST 1048576: true; the input reads as it did. -/
def satOrderUptoRow : OpenClaim := { program := "ytblmmijjabahiaa", sum := "b353d1433ab9ccb23bd7850f902cd80a5892d2c72952945c30435fbc251f131d", func := "annona/annonalaw01.SatOrder", spec := "satOrder", apart := false, narrowed := true }
def SatOrderUptoSaid : Prop := satOrderUptoRow.holds Try.pinned (OpenSpec.upto satOrderSpec)

/-- 'annonalaw02.RingTells', WHERE WHAT IT READS IS OF BULK AT MOST 1048576: true; the input reads as it did. -/
def ringTellsUptoRow : OpenClaim := { program := "ytblmmijjabahiaa", sum := "b353d1433ab9ccb23bd7850f902cd80a5892d2c72952945c30435fbc251f131d", func := "annona/annonalaw02.RingTells", spec := "ringTells", unfollowed := true, recurses := true, apart := false, narrowed := true }
def RingTellsUptoSaid : Prop := ringTellsUptoRow.holds Try.pinned (OpenSpec.upto ringTellsSpec)

/-- 'annonalaw02.RingNth', WHERE WHAT IT READS IS OF BULK AT MOST 1048576: true; the input reads as it did. -/
def ringNthUptoRow : OpenClaim := { program := "ytblmmijjabahiaa", sum := "b353d1433ab9ccb23bd7850f902cd80a5892d2c72952945c30435fbc251f131d", func := "annona/annonalaw02.RingNth", spec := "ringNth", unfollowed := true, recurses := true, apart := false, narrowed := true }
def RingNthUptoSaid : Prop := ringNthUptoRow.holds Try.pinned (OpenSpec.upto ringNthSpec)

/-- 'annonalaw02.RingMeet', WHERE WHAT IT READS IS OF BULK AT MOST 1048576: true; the input reads as it did. -/
def ringMeetUptoRow : OpenClaim := { program := "ytblmmijjabahiaa", sum := "b353d1433ab9ccb23bd7850f902cd80a5892d2c72952945c30435fbc251f131d", func := "annona/annonalaw02.RingMeet", spec := "ringMeet", unfollowed := true, recurses := true, apart := false, narrowed := true }
def RingMeetUptoSaid : Prop := ringMeetUptoRow.holds Try.pinned (OpenSpec.upto ringMeetSpec)

/-- 'annonalaw02.RingRound', WHERE WHAT IT READS IS OF BULK AT MOST 1048576: true; the input reads as it did. -/
def ringRoundUptoRow : OpenClaim := { program := "ytblmmijjabahiaa", sum := "b353d1433ab9ccb23bd7850f902cd80a5892d2c72952945c30435fbc251f131d", func := "annona/annonalaw02.RingRound", spec := "ringRound", unfollowed := true, recurses := true, apart := false, narrowed := true }
def RingRoundUptoSaid : Prop := ringRoundUptoRow.holds Try.pinned (OpenSpec.upto ringRoundSpec)

/-- 'annonalaw03.ConfTells', WHERE WHAT IT READS IS OF BULK AT MOST 1048576: true; the input reads as it did. -/
def confTellsUptoRow : OpenClaim := { program := "ytblmmijjabahiaa", sum := "b353d1433ab9ccb23bd7850f902cd80a5892d2c72952945c30435fbc251f131d", func := "annona/annonalaw03.ConfTells", spec := "confTells", apart := false, narrowed := true }
def ConfTellsUptoSaid : Prop := confTellsUptoRow.holds Try.pinned (OpenSpec.upto confTellsSpec)

/-- 'annonalaw03.ConfNumbers', WHERE WHAT IT READS IS OF BULK AT MOST 1048576: true; the input reads as it did. -/
def confNumbersUptoRow : OpenClaim := { program := "ytblmmijjabahiaa", sum := "b353d1433ab9ccb23bd7850f902cd80a5892d2c72952945c30435fbc251f131d", func := "annona/annonalaw03.ConfNumbers", spec := "confNumbers", apart := false, narrowed := true }
def ConfNumbersUptoSaid : Prop := confNumbersUptoRow.holds Try.pinned (OpenSpec.upto confNumbersSpec)

/-- 'annonalaw03.ConfOther', WHERE WHAT IT READS IS OF BULK AT MOST 1048576: true; the input reads as it did. -/
def confOtherUptoRow : OpenClaim := { program := "ytblmmijjabahiaa", sum := "b353d1433ab9ccb23bd7850f902cd80a5892d2c72952945c30435fbc251f131d", func := "annona/annonalaw03.ConfOther", spec := "confOther", apart := false, narrowed := true }
def ConfOtherUptoSaid : Prop := confOtherUptoRow.holds Try.pinned (OpenSpec.upto confOtherSpec)

/-- 'annonalaw04.CodecWrites', WHERE WHAT IT READS IS OF BULK AT MOST 1048576: true; the input reads as it did. -/
def codecWritesUptoRow : OpenClaim := { program := "ytblmmijjabahiaa", sum := "b353d1433ab9ccb23bd7850f902cd80a5892d2c72952945c30435fbc251f131d", func := "annona/annonalaw04.CodecWrites", spec := "codecWrites", apart := false, narrowed := true }
def CodecWritesUptoSaid : Prop := codecWritesUptoRow.holds Try.pinned (OpenSpec.upto codecWritesSpec)

/-- 'annonalaw04.CodecReads', WHERE WHAT IT READS IS OF BULK AT MOST 1048576: true; the input reads as it did. -/
def codecReadsUptoRow : OpenClaim := { program := "ytblmmijjabahiaa", sum := "b353d1433ab9ccb23bd7850f902cd80a5892d2c72952945c30435fbc251f131d", func := "annona/annonalaw04.CodecReads", spec := "codecReads", apart := false, narrowed := true }
def CodecReadsUptoSaid : Prop := codecReadsUptoRow.holds Try.pinned (OpenSpec.upto codecReadsSpec)

/-- 'annonalaw04.CodecBack', WHERE WHAT IT READS IS OF BULK AT MOST 1048576: true; the input reads as it did. -/
def codecBackUptoRow : OpenClaim := { program := "ytblmmijjabahiaa", sum := "b353d1433ab9ccb23bd7850f902cd80a5892d2c72952945c30435fbc251f131d", func := "annona/annonalaw04.CodecBack", spec := "codecBack", apart := false, narrowed := true }
def CodecBackUptoSaid : Prop := codecBackUptoRow.holds Try.pinned (OpenSpec.upto codecBackSpec)

end Rows
end Go.Proofs.Ytblmmijjabahiaa
