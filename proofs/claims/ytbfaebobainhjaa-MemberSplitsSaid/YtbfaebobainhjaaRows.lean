/-
  No cell of these rows narrows 'for every input' (looked for: loops, veiled, ifaces, maps, wideKeys, modest, calm, conditions, laid).
  DERIVED. THE GIVEN ROWS OF THIS SEAT. 7 by the template 'for every input the law returns true; each argument reads behind the call as it read before'; 0 by the template 'total and deterministic' (their statements: YtbfaebobainhjaaTotals.lean).
  GIVEN WITH THE SEED: the statements are not yours to turn. If you find one false, say at which input.
  Laid BY PROGRAM, IN A SANDBOX (cutbox-rows.mjs): the forced cells as the released guide's own fill.sh prints them over the translation 6837ed62089ff480… (all of the seat's roots in one cut). By AI agents, Wed Nov 11 2026. No macro, syntax, notation, axiom, sorry.
-/
import Derived.Test.YtbfaebobainhjaaChecked
import GoSem.Claim
import GoSem.ClaimJoined
import GoSem.ClaimMapViews
import Derived.JoinedTies
import Derived.KernelRfl
namespace Go.Proofs.Ytbfaebobainhjaa
/- THE CELL 'sum', in the pinned program and in every row, IS THE sha256 OF THE DUMP (.gsa) THAT YtbfaebobainhjaaProg.lean LOADS. Nothing in Lean hashes anything: it is a label: what it is worth is what the hold of that sum in a sandbox is worth. -/
noncomputable def Try.pinned : Pinned := { name := "ytbfaebobainhjaa", sum := "6837ed62089ff480b5a410bea22ce1a0c93a8dc1b3c7392a9b24275f23d6865b", checked := Try.checked }
namespace Rows
def none {H : Type} : Left H := { results := [], args := [] }

/-- 'palletlaw10.MemberJudges': WHATEVER THE INPUT: true; the input reads as it did. -/
def memberJudgesSpec : ChangeSpec := { name := "memberJudges", fn := fun _ => fun
  | [d1, d2, d3, d4, d5, d6, d7] => { results := [.lit (.bool true)], args := [d1, d2, d3, d4, d5, d6, d7] }
  | _ => none }
def memberJudgesRow : OpenClaim := { program := "ytbfaebobainhjaa", sum := "6837ed62089ff480b5a410bea22ce1a0c93a8dc1b3c7392a9b24275f23d6865b", func := "pallet/palletlaw10.MemberJudges", spec := "memberJudges", unfollowed := true, recurses := true, apart := false }
def MemberJudgesSaid : Prop := memberJudgesRow.holds Try.pinned (OpenSpec.ofChange memberJudgesSpec)

/-- ITS FALSE NEIGHBOUR: 'it returns false'. Refute it at one input. -/
def memberJudgesWrong : ChangeSpec := { name := "memberJudges", fn := fun _ => fun
  | [d1, d2, d3, d4, d5, d6, d7] => { results := [.lit (.bool false)], args := [d1, d2, d3, d4, d5, d6, d7] }
  | _ => none }
def MemberJudgesWrongFalsely : Prop := memberJudgesRow.holds Try.pinned (OpenSpec.ofChange memberJudgesWrong)

/-- 'palletlaw10.MemberRounds': WHATEVER THE INPUT: true; the input reads as it did. -/
def memberRoundsSpec : ChangeSpec := { name := "memberRounds", fn := fun _ => fun
  | [d1, d2, d3, d4, d5] => { results := [.lit (.bool true)], args := [d1, d2, d3, d4, d5] }
  | _ => none }
def memberRoundsRow : OpenClaim := { program := "ytbfaebobainhjaa", sum := "6837ed62089ff480b5a410bea22ce1a0c93a8dc1b3c7392a9b24275f23d6865b", func := "pallet/palletlaw10.MemberRounds", spec := "memberRounds", unfollowed := true, recurses := true, apart := false }
def MemberRoundsSaid : Prop := memberRoundsRow.holds Try.pinned (OpenSpec.ofChange memberRoundsSpec)

/-- ITS FALSE NEIGHBOUR: 'it returns false'. Refute it at one input. -/
def memberRoundsWrong : ChangeSpec := { name := "memberRounds", fn := fun _ => fun
  | [d1, d2, d3, d4, d5] => { results := [.lit (.bool false)], args := [d1, d2, d3, d4, d5] }
  | _ => none }
def MemberRoundsWrongFalsely : Prop := memberRoundsRow.holds Try.pinned (OpenSpec.ofChange memberRoundsWrong)

/-- 'palletlaw10.MemberAlike': WHATEVER THE INPUT: true; the input reads as it did. -/
def memberAlikeSpec : ChangeSpec := { name := "memberAlike", fn := fun _ => fun
  | [d1, d2, d3, d4, d5, d6] => { results := [.lit (.bool true)], args := [d1, d2, d3, d4, d5, d6] }
  | _ => none }
def memberAlikeRow : OpenClaim := { program := "ytbfaebobainhjaa", sum := "6837ed62089ff480b5a410bea22ce1a0c93a8dc1b3c7392a9b24275f23d6865b", func := "pallet/palletlaw10.MemberAlike", spec := "memberAlike", unfollowed := true, recurses := true, apart := false }
def MemberAlikeSaid : Prop := memberAlikeRow.holds Try.pinned (OpenSpec.ofChange memberAlikeSpec)

/-- ITS FALSE NEIGHBOUR: 'it returns false'. Refute it at one input. -/
def memberAlikeWrong : ChangeSpec := { name := "memberAlike", fn := fun _ => fun
  | [d1, d2, d3, d4, d5, d6] => { results := [.lit (.bool false)], args := [d1, d2, d3, d4, d5, d6] }
  | _ => none }
def MemberAlikeWrongFalsely : Prop := memberAlikeRow.holds Try.pinned (OpenSpec.ofChange memberAlikeWrong)

/-- 'palletlaw10.MemberComes': WHATEVER THE INPUT: true; the input reads as it did. -/
def memberComesSpec : ChangeSpec := { name := "memberComes", fn := fun _ => fun
  | [d1, d2, d3, d4, d5] => { results := [.lit (.bool true)], args := [d1, d2, d3, d4, d5] }
  | _ => none }
def memberComesRow : OpenClaim := { program := "ytbfaebobainhjaa", sum := "6837ed62089ff480b5a410bea22ce1a0c93a8dc1b3c7392a9b24275f23d6865b", func := "pallet/palletlaw10.MemberComes", spec := "memberComes", unfollowed := true, recurses := true, apart := false }
def MemberComesSaid : Prop := memberComesRow.holds Try.pinned (OpenSpec.ofChange memberComesSpec)

/-- ITS FALSE NEIGHBOUR: 'it returns false'. Refute it at one input. -/
def memberComesWrong : ChangeSpec := { name := "memberComes", fn := fun _ => fun
  | [d1, d2, d3, d4, d5] => { results := [.lit (.bool false)], args := [d1, d2, d3, d4, d5] }
  | _ => none }
def MemberComesWrongFalsely : Prop := memberComesRow.holds Try.pinned (OpenSpec.ofChange memberComesWrong)

/-- 'palletlaw10.MemberWhole': WHATEVER THE INPUT: true; the input reads as it did. -/
def memberWholeSpec : ChangeSpec := { name := "memberWhole", fn := fun _ => fun
  | [d1, d2, d3, d4] => { results := [.lit (.bool true)], args := [d1, d2, d3, d4] }
  | _ => none }
def memberWholeRow : OpenClaim := { program := "ytbfaebobainhjaa", sum := "6837ed62089ff480b5a410bea22ce1a0c93a8dc1b3c7392a9b24275f23d6865b", func := "pallet/palletlaw10.MemberWhole", spec := "memberWhole", unfollowed := true, recurses := true, apart := false }
def MemberWholeSaid : Prop := memberWholeRow.holds Try.pinned (OpenSpec.ofChange memberWholeSpec)

/-- ITS FALSE NEIGHBOUR: 'it returns false'. Refute it at one input. -/
def memberWholeWrong : ChangeSpec := { name := "memberWhole", fn := fun _ => fun
  | [d1, d2, d3, d4] => { results := [.lit (.bool false)], args := [d1, d2, d3, d4] }
  | _ => none }
def MemberWholeWrongFalsely : Prop := memberWholeRow.holds Try.pinned (OpenSpec.ofChange memberWholeWrong)

/-- 'palletlaw10.MemberCliques': WHATEVER THE INPUT: true; the input reads as it did. -/
def memberCliquesSpec : ChangeSpec := { name := "memberCliques", fn := fun _ => fun
  | [d] => { results := [.lit (.bool true)], args := [d] }
  | _ => none }
def memberCliquesRow : OpenClaim := { program := "ytbfaebobainhjaa", sum := "6837ed62089ff480b5a410bea22ce1a0c93a8dc1b3c7392a9b24275f23d6865b", func := "pallet/palletlaw10.MemberCliques", spec := "memberCliques", unfollowed := true, recurses := true, apart := false }
def MemberCliquesSaid : Prop := memberCliquesRow.holds Try.pinned (OpenSpec.ofChange memberCliquesSpec)

/-- ITS FALSE NEIGHBOUR: 'it returns false'. Refute it at one input. -/
def memberCliquesWrong : ChangeSpec := { name := "memberCliques", fn := fun _ => fun
  | [d] => { results := [.lit (.bool false)], args := [d] }
  | _ => none }
def MemberCliquesWrongFalsely : Prop := memberCliquesRow.holds Try.pinned (OpenSpec.ofChange memberCliquesWrong)

/-- 'palletlaw10.MemberSplits': WHATEVER THE INPUT: true; the input reads as it did. -/
def memberSplitsSpec : ChangeSpec := { name := "memberSplits", fn := fun _ => fun
  | [d1, d2, d3, d4, d5, d6] => { results := [.lit (.bool true)], args := [d1, d2, d3, d4, d5, d6] }
  | _ => none }
def memberSplitsRow : OpenClaim := { program := "ytbfaebobainhjaa", sum := "6837ed62089ff480b5a410bea22ce1a0c93a8dc1b3c7392a9b24275f23d6865b", func := "pallet/palletlaw10.MemberSplits", spec := "memberSplits", unfollowed := true, recurses := true, apart := false }
def MemberSplitsSaid : Prop := memberSplitsRow.holds Try.pinned (OpenSpec.ofChange memberSplitsSpec)

/-- ITS FALSE NEIGHBOUR: 'it returns false'. Refute it at one input. -/
def memberSplitsWrong : ChangeSpec := { name := "memberSplits", fn := fun _ => fun
  | [d1, d2, d3, d4, d5, d6] => { results := [.lit (.bool false)], args := [d1, d2, d3, d4, d5, d6] }
  | _ => none }
def MemberSplitsWrongFalsely : Prop := memberSplitsRow.holds Try.pinned (OpenSpec.ofChange memberSplitsWrong)

/- THE SECOND FORM. 'bulk': how many values and letters a reading holds, each counted each time it is reached (what is shared counts as often as it is met; a slice's spare places count too). A statement '..UptoSaid' is the law's where the arguments, and the package variables that the reading takes, are together of bulk at most 1048576: NARROWER than '..Said'. Prove '..Said' where nothing that the law and all that it calls make is longer than what came in: it says more and counts as full. Else prove '..UptoSaid'. A law counts once. -/
mutual
def uptoBulk {H : Type} : DataW H → Nat
  | .lit (.string bytes) => bytes.length + 1
  | .lit _ => 1
  | .nil => 1
  | .ptr d => uptoBulk d + 1
  | .slice elems spare => uptoBulkAll elems + uptoBulkAll spare + 1
  | .agg parts => uptoBulkAll parts + 1
  | .iface _ d => uptoBulk d + 1
  | .map entries => uptoBulkEntries entries + 1
  | .held _ => 1
def uptoBulkAll {H : Type} : List (DataW H) → Nat
  | [] => 0
  | d :: r => uptoBulk d + uptoBulkAll r
def uptoBulkEntries {H : Type} : List (Lit × DataW H) → Nat
  | [] => 0
  | x :: r => uptoBulkEntry x + uptoBulkEntries r
def uptoBulkEntry {H : Type} : Lit × DataW H → Nat
  | (.string bytes, d) => bytes.length + uptoBulk d + 1
  | (_, d) => uptoBulk d + 1
 end
def uptoSmall : (H : Type) → List (DataW H) → Bool := fun _ ds => decide (uptoBulkAll ds ≤ 1048576)
def OpenSpec.upto (s : _root_.Go.ChangeSpec) : _root_.Go.OpenSpec := { _root_.Go.OpenSpec.ofChange s with cond := some uptoSmall }

/-- 'palletlaw10.MemberJudges', WHERE WHAT IT READS IS OF BULK AT MOST 1048576: true; the input reads as it did. -/
def memberJudgesUptoRow : OpenClaim := { program := "ytbfaebobainhjaa", sum := "6837ed62089ff480b5a410bea22ce1a0c93a8dc1b3c7392a9b24275f23d6865b", func := "pallet/palletlaw10.MemberJudges", spec := "memberJudges", unfollowed := true, recurses := true, apart := false, narrowed := true }
def MemberJudgesUptoSaid : Prop := memberJudgesUptoRow.holds Try.pinned (OpenSpec.upto memberJudgesSpec)

/-- 'palletlaw10.MemberRounds', WHERE WHAT IT READS IS OF BULK AT MOST 1048576: true; the input reads as it did. -/
def memberRoundsUptoRow : OpenClaim := { program := "ytbfaebobainhjaa", sum := "6837ed62089ff480b5a410bea22ce1a0c93a8dc1b3c7392a9b24275f23d6865b", func := "pallet/palletlaw10.MemberRounds", spec := "memberRounds", unfollowed := true, recurses := true, apart := false, narrowed := true }
def MemberRoundsUptoSaid : Prop := memberRoundsUptoRow.holds Try.pinned (OpenSpec.upto memberRoundsSpec)

/-- 'palletlaw10.MemberAlike', WHERE WHAT IT READS IS OF BULK AT MOST 1048576: true; the input reads as it did. -/
def memberAlikeUptoRow : OpenClaim := { program := "ytbfaebobainhjaa", sum := "6837ed62089ff480b5a410bea22ce1a0c93a8dc1b3c7392a9b24275f23d6865b", func := "pallet/palletlaw10.MemberAlike", spec := "memberAlike", unfollowed := true, recurses := true, apart := false, narrowed := true }
def MemberAlikeUptoSaid : Prop := memberAlikeUptoRow.holds Try.pinned (OpenSpec.upto memberAlikeSpec)

/-- 'palletlaw10.MemberComes', WHERE WHAT IT READS IS OF BULK AT MOST 1048576: true; the input reads as it did. -/
def memberComesUptoRow : OpenClaim := { program := "ytbfaebobainhjaa", sum := "6837ed62089ff480b5a410bea22ce1a0c93a8dc1b3c7392a9b24275f23d6865b", func := "pallet/palletlaw10.MemberComes", spec := "memberComes", unfollowed := true, recurses := true, apart := false, narrowed := true }
def MemberComesUptoSaid : Prop := memberComesUptoRow.holds Try.pinned (OpenSpec.upto memberComesSpec)

/-- 'palletlaw10.MemberWhole', WHERE WHAT IT READS IS OF BULK AT MOST 1048576: true; the input reads as it did. -/
def memberWholeUptoRow : OpenClaim := { program := "ytbfaebobainhjaa", sum := "6837ed62089ff480b5a410bea22ce1a0c93a8dc1b3c7392a9b24275f23d6865b", func := "pallet/palletlaw10.MemberWhole", spec := "memberWhole", unfollowed := true, recurses := true, apart := false, narrowed := true }
def MemberWholeUptoSaid : Prop := memberWholeUptoRow.holds Try.pinned (OpenSpec.upto memberWholeSpec)

/-- 'palletlaw10.MemberCliques', WHERE WHAT IT READS IS OF BULK AT MOST 1048576: true; the input reads as it did. -/
def memberCliquesUptoRow : OpenClaim := { program := "ytbfaebobainhjaa", sum := "6837ed62089ff480b5a410bea22ce1a0c93a8dc1b3c7392a9b24275f23d6865b", func := "pallet/palletlaw10.MemberCliques", spec := "memberCliques", unfollowed := true, recurses := true, apart := false, narrowed := true }
def MemberCliquesUptoSaid : Prop := memberCliquesUptoRow.holds Try.pinned (OpenSpec.upto memberCliquesSpec)

/-- 'palletlaw10.MemberSplits', WHERE WHAT IT READS IS OF BULK AT MOST 1048576: true; the input reads as it did. -/
def memberSplitsUptoRow : OpenClaim := { program := "ytbfaebobainhjaa", sum := "6837ed62089ff480b5a410bea22ce1a0c93a8dc1b3c7392a9b24275f23d6865b", func := "pallet/palletlaw10.MemberSplits", spec := "memberSplits", unfollowed := true, recurses := true, apart := false, narrowed := true }
def MemberSplitsUptoSaid : Prop := memberSplitsUptoRow.holds Try.pinned (OpenSpec.upto memberSplitsSpec)

end Rows
end Go.Proofs.Ytbfaebobainhjaa
