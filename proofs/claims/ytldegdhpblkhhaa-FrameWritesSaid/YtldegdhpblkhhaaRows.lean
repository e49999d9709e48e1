/-
  No cell of these rows narrows 'for every input' (looked for: loops, veiled, ifaces, maps, wideKeys, modest, calm, conditions, laid).
  DERIVED. THE GIVEN ROWS OF THIS SEAT. 5 by the template 'for every input the law returns true; each argument reads behind the call as it read before'; 0 by the template 'total and deterministic' (their statements: YtldegdhpblkhhaaTotals.lean).
  GIVEN WITH THE SEED: the statements are not yours to turn. If you find one false, say at which input.
  Laid BY PROGRAM, IN A SANDBOX (cutbox-rows.mjs): the forced cells as the released guide's own fill.sh prints them over the translation 28b01f6a755f4fed… (all of the seat's roots in one cut). By AI agents, Wed Nov 11 2026. No macro, syntax, notation, axiom, sorry.
-/
import Derived.Test.YtldegdhpblkhhaaChecked
import GoSem.Claim
import GoSem.ClaimJoined
import GoSem.ClaimMapViews
import Derived.JoinedTies
import Derived.KernelRfl
namespace Go.Proofs.Ytldegdhpblkhhaa
/- THE CELL 'sum', in the pinned program and in every row, IS THE sha256 OF THE DUMP (.gsa) THAT YtldegdhpblkhhaaProg.lean LOADS. Nothing in Lean hashes anything: it is a label: what it is worth is what the hold of that sum in a sandbox is worth. -/
noncomputable def Try.pinned : Pinned := { name := "ytldegdhpblkhhaa", sum := "28b01f6a755f4fed6cdfbb973f055c8ef0dc27a00218fc1a8598056995ec68d7", checked := Try.checked }
namespace Rows
def none {H : Type} : Left H := { results := [], args := [] }

/-- 'palletlaw08.FrameWrites': WHATEVER THE INPUT: true; the input reads as it did. -/
def frameWritesSpec : ChangeSpec := { name := "frameWrites", fn := fun _ => fun
  | [d1, d2] => { results := [.lit (.bool true)], args := [d1, d2] }
  | _ => none }
def frameWritesRow : OpenClaim := { program := "ytldegdhpblkhhaa", sum := "28b01f6a755f4fed6cdfbb973f055c8ef0dc27a00218fc1a8598056995ec68d7", func := "pallet/palletlaw08.FrameWrites", spec := "frameWrites", unfollowed := true, recurses := true, apart := false }
def FrameWritesSaid : Prop := frameWritesRow.holds Try.pinned (OpenSpec.ofChange frameWritesSpec)

/-- ITS FALSE NEIGHBOUR: 'it returns false'. Refute it at one input. -/
def frameWritesWrong : ChangeSpec := { name := "frameWrites", fn := fun _ => fun
  | [d1, d2] => { results := [.lit (.bool false)], args := [d1, d2] }
  | _ => none }
def FrameWritesWrongFalsely : Prop := frameWritesRow.holds Try.pinned (OpenSpec.ofChange frameWritesWrong)

/-- 'palletlaw08.FrameMembers': WHATEVER THE INPUT: true; the input reads as it did. -/
def frameMembersSpec : ChangeSpec := { name := "frameMembers", fn := fun _ => fun
  | [d1, d2] => { results := [.lit (.bool true)], args := [d1, d2] }
  | _ => none }
def frameMembersRow : OpenClaim := { program := "ytldegdhpblkhhaa", sum := "28b01f6a755f4fed6cdfbb973f055c8ef0dc27a00218fc1a8598056995ec68d7", func := "pallet/palletlaw08.FrameMembers", spec := "frameMembers", unfollowed := true, recurses := true, apart := false }
def FrameMembersSaid : Prop := frameMembersRow.holds Try.pinned (OpenSpec.ofChange frameMembersSpec)

/-- ITS FALSE NEIGHBOUR: 'it returns false'. Refute it at one input. -/
def frameMembersWrong : ChangeSpec := { name := "frameMembers", fn := fun _ => fun
  | [d1, d2] => { results := [.lit (.bool false)], args := [d1, d2] }
  | _ => none }
def FrameMembersWrongFalsely : Prop := frameMembersRow.holds Try.pinned (OpenSpec.ofChange frameMembersWrong)

/-- 'palletlaw08.FrameBack': WHATEVER THE INPUT: true; the input reads as it did. -/
def frameBackSpec : ChangeSpec := { name := "frameBack", fn := fun _ => fun
  | [d1, d2, d3, d4] => { results := [.lit (.bool true)], args := [d1, d2, d3, d4] }
  | _ => none }
def frameBackRow : OpenClaim := { program := "ytldegdhpblkhhaa", sum := "28b01f6a755f4fed6cdfbb973f055c8ef0dc27a00218fc1a8598056995ec68d7", func := "pallet/palletlaw08.FrameBack", spec := "frameBack", unfollowed := true, recurses := true, apart := false }
def FrameBackSaid : Prop := frameBackRow.holds Try.pinned (OpenSpec.ofChange frameBackSpec)

/-- ITS FALSE NEIGHBOUR: 'it returns false'. Refute it at one input. -/
def frameBackWrong : ChangeSpec := { name := "frameBack", fn := fun _ => fun
  | [d1, d2, d3, d4] => { results := [.lit (.bool false)], args := [d1, d2, d3, d4] }
  | _ => none }
def FrameBackWrongFalsely : Prop := frameBackRow.holds Try.pinned (OpenSpec.ofChange frameBackWrong)

/-- 'palletlaw08.FrameSets': WHATEVER THE INPUT: true; the input reads as it did. -/
def frameSetsSpec : ChangeSpec := { name := "frameSets", fn := fun _ => fun
  | [d1, d2, d3] => { results := [.lit (.bool true)], args := [d1, d2, d3] }
  | _ => none }
def frameSetsRow : OpenClaim := { program := "ytldegdhpblkhhaa", sum := "28b01f6a755f4fed6cdfbb973f055c8ef0dc27a00218fc1a8598056995ec68d7", func := "pallet/palletlaw08.FrameSets", spec := "frameSets", unfollowed := true, recurses := true, apart := false }
def FrameSetsSaid : Prop := frameSetsRow.holds Try.pinned (OpenSpec.ofChange frameSetsSpec)

/-- ITS FALSE NEIGHBOUR: 'it returns false'. Refute it at one input. -/
def frameSetsWrong : ChangeSpec := { name := "frameSets", fn := fun _ => fun
  | [d1, d2, d3] => { results := [.lit (.bool false)], args := [d1, d2, d3] }
  | _ => none }
def FrameSetsWrongFalsely : Prop := frameSetsRow.holds Try.pinned (OpenSpec.ofChange frameSetsWrong)

/-- 'palletlaw08.FrameSizes': WHATEVER THE INPUT: true; the input reads as it did. -/
def frameSizesSpec : ChangeSpec := { name := "frameSizes", fn := fun _ => fun
  | [d1, d2] => { results := [.lit (.bool true)], args := [d1, d2] }
  | _ => none }
def frameSizesRow : OpenClaim := { program := "ytldegdhpblkhhaa", sum := "28b01f6a755f4fed6cdfbb973f055c8ef0dc27a00218fc1a8598056995ec68d7", func := "pallet/palletlaw08.FrameSizes", spec := "frameSizes", unfollowed := true, recurses := true, apart := false }
def FrameSizesSaid : Prop := frameSizesRow.holds Try.pinned (OpenSpec.ofChange frameSizesSpec)

/-- ITS FALSE NEIGHBOUR: 'it returns false'. Refute it at one input. -/
def frameSizesWrong : ChangeSpec := { name := "frameSizes", fn := fun _ => fun
  | [d1, d2] => { results := [.lit (.bool false)], args := [d1, d2] }
  | _ => none }
def FrameSizesWrongFalsely : Prop := frameSizesRow.holds Try.pinned (OpenSpec.ofChange frameSizesWrong)

/- THE SECOND FORM. 'bulk': how many values and letters a reading holds, each counted each time it is reached (what is shared counts as often as it is met; a slice's spare places count too). A statement '..UptoSaid' is the law's where the arguments, and the package variables that the reading takes, are together of bulk at most 1048576: NARROWER than '..Said'. Prove '..Said' where nothing that the law and all that it calls make is longer than what came in: it says more and counts as full. Else prove '..UptoSaid'. A law counts once. -/
mutual
def uptoBulk {H : Type} : DataW H → Nat
  | .lit (.string bytes) => bytes.length + 1
  | .lit _ => 1
  | .nil => 1
  | .ptr d => uptoBulk d + 1
  | .slice elems spare => uptoBulkAll elems + uptoBulkAll spare + 1
  | .agg parts => uptoBulkAll parts + 1
  | .iface _ d => uptoBulk d + 1
  | .map entries => uptoBulkEntries entries + 1
  | .held _ => 1
def uptoBulkAll {H : Type} : List (DataW H) → Nat
  | [] => 0
  | d :: r => uptoBulk d + uptoBulkAll r
def uptoBulkEntries {H : Type} : List (Lit × DataW H) → Nat
  | [] => 0
  | x :: r => uptoBulkEntry x + uptoBulkEntries r
def uptoBulkEntry {H : Type} : Lit × DataW H → Nat
  | (.string bytes, d) => bytes.length + uptoBulk d + 1
  | (_, d) => uptoBulk d + 1
 end
def uptoSmall : (H : Type) → List (DataW H) → Bool := fun _ ds => decide (uptoBulkAll ds ≤ 1048576)
def OpenSpec.upto (s : _root_.Go.ChangeSpec) : _root_.Go.OpenSpec := { _root_.Go.OpenSpec.ofChange s with cond := some uptoSmall }

/-- 'palletlaw08.FrameWrites', WHERE WHAT IT READS IS OF BULK AT MOST 1048576: true; the input reads as it did. -/
def frameWritesUptoRow : OpenClaim := { program := "ytldegdhpblkhhaa", sum := "28b01f6a755f4fed6cdfbb973f055c8ef0dc27a00218fc1a8598056995ec68d7", func := "pallet/palletlaw08.FrameWrites", spec := "frameWrites", unfollowed := true, recurses := true, apart := false, narrowed := true }
def FrameWritesUptoSaid : Prop := frameWritesUptoRow.holds Try.pinned (OpenSpec.upto frameWritesSpec)

/-- 'palletlaw08.FrameMembers', WHERE WHAT IT READS IS OF BULK AT MOST 1048576: true; the input reads as it did. -/
def frameMembersUptoRow : OpenClaim := { program := "ytldegdhpblkhhaa", sum := "28b01f6a755f4fed6cdfbb973f055c8ef0dc27a00218fc1a8598056995ec68d7", func := "pallet/palletlaw08.FrameMembers", spec := "frameMembers", unfollowed := true, recurses := true, apart := false, narrowed := true }
def FrameMembersUptoSaid : Prop := frameMembersUptoRow.holds Try.pinned (OpenSpec.upto frameMembersSpec)

/-- 'palletlaw08.FrameBack', WHERE WHAT IT READS IS OF BULK AT MOST 1048576: true; the input reads as it did. -/
def frameBackUptoRow : OpenClaim := { program := "ytldegdhpblkhhaa", sum := "28b01f6a755f4fed6cdfbb973f055c8ef0dc27a00218fc1a8598056995ec68d7", func := "pallet/palletlaw08.FrameBack", spec := "frameBack", unfollowed := true, recurses := true, apart := false, narrowed := true }
def FrameBackUptoSaid : Prop := frameBackUptoRow.holds Try.pinned (OpenSpec.upto frameBackSpec)

/-- 'palletlaw08.FrameSets', WHERE WHAT IT READS IS OF BULK AT MOST 1048576: true; the input reads as it did. -/
def frameSetsUptoRow : OpenClaim := { program := "ytldegdhpblkhhaa", sum := "28b01f6a755f4fed6cdfbb973f055c8ef0dc27a00218fc1a8598056995ec68d7", func := "pallet/palletlaw08.FrameSets", spec := "frameSets", unfollowed := true, recurses := true, apart := false, narrowed := true }
def FrameSetsUptoSaid : Prop := frameSetsUptoRow.holds Try.pinned (OpenSpec.upto frameSetsSpec)

/-- 'palletlaw08.FrameSizes', WHERE WHAT IT READS IS OF BULK AT MOST 1048576: true; the input reads as it did. -/
def frameSizesUptoRow : OpenClaim := { program := "ytldegdhpblkhhaa", sum := "28b01f6a755f4fed6cdfbb973f055c8ef0dc27a00218fc1a8598056995ec68d7", func := "pallet/palletlaw08.FrameSizes", spec := "frameSizes", unfollowed := true, recurses := true, apart := false, narrowed := true }
def FrameSizesUptoSaid : Prop := frameSizesUptoRow.holds Try.pinned (OpenSpec.upto frameSizesSpec)

end Rows
end Go.Proofs.Ytldegdhpblkhhaa
