/-
  No cell of these rows narrows 'for every input' (looked for: loops, veiled, ifaces, maps, wideKeys, modest, calm, conditions, laid).
  DERIVED. THE GIVEN ROWS OF THIS SEAT. 5 by the template 'for every input the law returns true; each argument reads behind the call as it read before'; 0 by the template 'total and deterministic' (their statements: YtmmcnbhhdgnljaaTotals.lean).
  GIVEN WITH THE SEED: the statements are not yours to turn. If you find one false, say at which input.
  Laid BY PROGRAM, IN A SANDBOX (cutbox-rows.mjs): the forced cells as the released guide's own fill.sh prints them over the translation 7907c8b45ddf60dc… (all of the seat's roots in one cut). By AI agents, Wed Nov 11 2026. No macro, syntax, notation, axiom, sorry.
-/
import Derived.Test.YtmmcnbhhdgnljaaChecked
import GoSem.Claim
import GoSem.ClaimJoined
import GoSem.ClaimMapViews
import Derived.JoinedTies
import Derived.KernelRfl
namespace Go.Proofs.Ytmmcnbhhdgnljaa
/- THE CELL 'sum', in the pinned program and in every row, IS THE sha256 OF THE DUMP (.gsa) THAT YtmmcnbhhdgnljaaProg.lean LOADS. Nothing in Lean hashes anything: it is a label: what it is worth is what the hold of that sum in a sandbox is worth. -/
noncomputable def Try.pinned : Pinned := { name := "ytmmcnbhhdgnljaa", sum := "7907c8b45ddf60dc0fd9b95df1824c2e5e35b4b7301975a395747048c478a2d6", checked := Try.checked }
namespace Rows
def none {H : Type} : Left H := { results := [], args := [] }

/-- 'palletlaw06.OscParts': WHATEVER THE INPUT: true; the input reads as it did. -/
def oscPartsSpec : ChangeSpec := { name := "oscParts", fn := fun _ => fun
  | [d1, d2] => { results := [.lit (.bool true)], args := [d1, d2] }
  | _ => none }
def oscPartsRow : OpenClaim := { program := "ytmmcnbhhdgnljaa", sum := "7907c8b45ddf60dc0fd9b95df1824c2e5e35b4b7301975a395747048c478a2d6", func := "pallet/palletlaw06.OscParts", spec := "oscParts", unfollowed := true, recurses := true, named := ["math/bits.divideError", "math/bits.overflowError"], apart := false }
def OscPartsSaid : Prop := oscPartsRow.holds Try.pinned (OpenSpec.ofChange oscPartsSpec)

/-- ITS FALSE NEIGHBOUR: 'it returns false'. Refute it at one input. -/
def oscPartsWrong : ChangeSpec := { name := "oscParts", fn := fun _ => fun
  | [d1, d2] => { results := [.lit (.bool false)], args := [d1, d2] }
  | _ => none }
def OscPartsWrongFalsely : Prop := oscPartsRow.holds Try.pinned (OpenSpec.ofChange oscPartsWrong)

/-- 'palletlaw06.OscBack': WHATEVER THE INPUT: true; the input reads as it did. -/
def oscBackSpec : ChangeSpec := { name := "oscBack", fn := fun _ => fun
  | [d1, d2, d3] => { results := [.lit (.bool true)], args := [d1, d2, d3] }
  | _ => none }
def oscBackRow : OpenClaim := { program := "ytmmcnbhhdgnljaa", sum := "7907c8b45ddf60dc0fd9b95df1824c2e5e35b4b7301975a395747048c478a2d6", func := "pallet/palletlaw06.OscBack", spec := "oscBack", unfollowed := true, recurses := true, named := ["math/bits.divideError", "math/bits.overflowError"], apart := false }
def OscBackSaid : Prop := oscBackRow.holds Try.pinned (OpenSpec.ofChange oscBackSpec)

/-- ITS FALSE NEIGHBOUR: 'it returns false'. Refute it at one input. -/
def oscBackWrong : ChangeSpec := { name := "oscBack", fn := fun _ => fun
  | [d1, d2, d3] => { results := [.lit (.bool false)], args := [d1, d2, d3] }
  | _ => none }
def OscBackWrongFalsely : Prop := oscBackRow.holds Try.pinned (OpenSpec.ofChange oscBackWrong)

/-- 'palletlaw06.OscDrifts': WHATEVER THE INPUT: true; the input reads as it did. -/
def oscDriftsSpec : ChangeSpec := { name := "oscDrifts", fn := fun _ => fun
  | [d1, d2, d3] => { results := [.lit (.bool true)], args := [d1, d2, d3] }
  | _ => none }
def oscDriftsRow : OpenClaim := { program := "ytmmcnbhhdgnljaa", sum := "7907c8b45ddf60dc0fd9b95df1824c2e5e35b4b7301975a395747048c478a2d6", func := "pallet/palletlaw06.OscDrifts", spec := "oscDrifts", unfollowed := true, recurses := true, named := ["math/bits.divideError", "math/bits.overflowError"], apart := false }
def OscDriftsSaid : Prop := oscDriftsRow.holds Try.pinned (OpenSpec.ofChange oscDriftsSpec)

/-- ITS FALSE NEIGHBOUR: 'it returns false'. Refute it at one input. -/
def oscDriftsWrong : ChangeSpec := { name := "oscDrifts", fn := fun _ => fun
  | [d1, d2, d3] => { results := [.lit (.bool false)], args := [d1, d2, d3] }
  | _ => none }
def OscDriftsWrongFalsely : Prop := oscDriftsRow.holds Try.pinned (OpenSpec.ofChange oscDriftsWrong)

/-- 'palletlaw06.OscGrows': WHATEVER THE INPUT: true; the input reads as it did. -/
def oscGrowsSpec : ChangeSpec := { name := "oscGrows", fn := fun _ => fun
  | [d1, d2, d3] => { results := [.lit (.bool true)], args := [d1, d2, d3] }
  | _ => none }
def oscGrowsRow : OpenClaim := { program := "ytmmcnbhhdgnljaa", sum := "7907c8b45ddf60dc0fd9b95df1824c2e5e35b4b7301975a395747048c478a2d6", func := "pallet/palletlaw06.OscGrows", spec := "oscGrows", unfollowed := true, recurses := true, named := ["math/bits.divideError", "math/bits.overflowError"], apart := false }
def OscGrowsSaid : Prop := oscGrowsRow.holds Try.pinned (OpenSpec.ofChange oscGrowsSpec)

/-- ITS FALSE NEIGHBOUR: 'it returns false'. Refute it at one input. -/
def oscGrowsWrong : ChangeSpec := { name := "oscGrows", fn := fun _ => fun
  | [d1, d2, d3] => { results := [.lit (.bool false)], args := [d1, d2, d3] }
  | _ => none }
def OscGrowsWrongFalsely : Prop := oscGrowsRow.holds Try.pinned (OpenSpec.ofChange oscGrowsWrong)

/-- 'palletlaw06.OscScales': WHATEVER THE INPUT: true; the input reads as it did. -/
def oscScalesSpec : ChangeSpec := { name := "oscScales", fn := fun _ => fun
  | [d1, d2, d3] => { results := [.lit (.bool true)], args := [d1, d2, d3] }
  | _ => none }
def oscScalesRow : OpenClaim := { program := "ytmmcnbhhdgnljaa", sum := "7907c8b45ddf60dc0fd9b95df1824c2e5e35b4b7301975a395747048c478a2d6", func := "pallet/palletlaw06.OscScales", spec := "oscScales", unfollowed := true, recurses := true, named := ["math/bits.divideError", "math/bits.overflowError"], apart := false }
def OscScalesSaid : Prop := oscScalesRow.holds Try.pinned (OpenSpec.ofChange oscScalesSpec)

/-- ITS FALSE NEIGHBOUR: 'it returns false'. Refute it at one input. -/
def oscScalesWrong : ChangeSpec := { name := "oscScales", fn := fun _ => fun
  | [d1, d2, d3] => { results := [.lit (.bool false)], args := [d1, d2, d3] }
  | _ => none }
def OscScalesWrongFalsely : Prop := oscScalesRow.holds Try.pinned (OpenSpec.ofChange oscScalesWrong)

/- THE SECOND FORM. 'bulk': how many values and letters a reading holds, each counted each time it is reached (what is shared counts as often as it is met; a slice's spare places count too). A statement '..UptoSaid' is the law's where the arguments, and the package variables that the reading takes, are together of bulk at most 1048576: NARROWER than '..Said'. Prove '..Said' where nothing that the law and all that it calls make is longer than what came in: it says more and counts as full. Else prove '..UptoSaid'. A law counts once. -/
mutual
def uptoBulk {H : Type} : DataW H → Nat
  | .lit (.string bytes) => bytes.length + 1
  | .lit _ => 1
  | .nil => 1
  | .ptr d => uptoBulk d + 1
  | .slice elems spare => uptoBulkAll elems + uptoBulkAll spare + 1
  | .agg parts => uptoBulkAll parts + 1
  | .iface _ d => uptoBulk d + 1
  | .map entries => uptoBulkEntries entries + 1
  | .held _ => 1
def uptoBulkAll {H : Type} : List (DataW H) → Nat
  | [] => 0
  | d :: r => uptoBulk d + uptoBulkAll r
def uptoBulkEntries {H : Type} : List (Lit × DataW H) → Nat
  | [] => 0
  | x :: r => uptoBulkEntry x + uptoBulkEntries r
def uptoBulkEntry {H : Type} : Lit × DataW H → Nat
  | (.string bytes, d) => bytes.length + uptoBulk d + 1
  | (_, d) => uptoBulk d + 1
 end
def uptoSmall : (H : Type) → List (DataW H) → Bool := fun _ ds => decide (uptoBulkAll ds ≤ 1048576)
def OpenSpec.upto (s : _root_.Go.ChangeSpec) : _root_.Go.OpenSpec := { _root_.Go.OpenSpec.ofChange s with cond := some uptoSmall }

/-- 'palletlaw06.OscParts', WHERE WHAT IT READS IS OF BULK AT MOST 1048576: true; the input reads as it did. -/
def oscPartsUptoRow : OpenClaim := { program := "ytmmcnbhhdgnljaa", sum := "7907c8b45ddf60dc0fd9b95df1824c2e5e35b4b7301975a395747048c478a2d6", func := "pallet/palletlaw06.OscParts", spec := "oscParts", unfollowed := true, recurses := true, named := ["math/bits.divideError", "math/bits.overflowError"], apart := false, narrowed := true }
def OscPartsUptoSaid : Prop := oscPartsUptoRow.holds Try.pinned (OpenSpec.upto oscPartsSpec)

/-- 'palletlaw06.OscBack', WHERE WHAT IT READS IS OF BULK AT MOST 1048576: true; the input reads as it did. -/
def oscBackUptoRow : OpenClaim := { program := "ytmmcnbhhdgnljaa", sum := "7907c8b45ddf60dc0fd9b95df1824c2e5e35b4b7301975a395747048c478a2d6", func := "pallet/palletlaw06.OscBack", spec := "oscBack", unfollowed := true, recurses := true, named := ["math/bits.divideError", "math/bits.overflowError"], apart := false, narrowed := true }
def OscBackUptoSaid : Prop := oscBackUptoRow.holds Try.pinned (OpenSpec.upto oscBackSpec)

/-- 'palletlaw06.OscDrifts', WHERE WHAT IT READS IS OF BULK AT MOST 1048576: true; the input reads as it did. -/
def oscDriftsUptoRow : OpenClaim := { program := "ytmmcnbhhdgnljaa", sum := "7907c8b45ddf60dc0fd9b95df1824c2e5e35b4b7301975a395747048c478a2d6", func := "pallet/palletlaw06.OscDrifts", spec := "oscDrifts", unfollowed := true, recurses := true, named := ["math/bits.divideError", "math/bits.overflowError"], apart := false, narrowed := true }
def OscDriftsUptoSaid : Prop := oscDriftsUptoRow.holds Try.pinned (OpenSpec.upto oscDriftsSpec)

/-- 'palletlaw06.OscGrows', WHERE WHAT IT READS IS OF BULK AT MOST 1048576: true; the input reads as it did. -/
def oscGrowsUptoRow : OpenClaim := { program := "ytmmcnbhhdgnljaa", sum := "7907c8b45ddf60dc0fd9b95df1824c2e5e35b4b7301975a395747048c478a2d6", func := "pallet/palletlaw06.OscGrows", spec := "oscGrows", unfollowed := true, recurses := true, named := ["math/bits.divideError", "math/bits.overflowError"], apart := false, narrowed := true }
def OscGrowsUptoSaid : Prop := oscGrowsUptoRow.holds Try.pinned (OpenSpec.upto oscGrowsSpec)

/-- 'palletlaw06.OscScales', WHERE WHAT IT READS IS OF BULK AT MOST 1048576: true; the input reads as it did. -/
def oscScalesUptoRow : OpenClaim := { program := "ytmmcnbhhdgnljaa", sum := "7907c8b45ddf60dc0fd9b95df1824c2e5e35b4b7301975a395747048c478a2d6", func := "pallet/palletlaw06.OscScales", spec := "oscScales", unfollowed := true, recurses := true, named := ["math/bits.divideError", "math/bits.overflowError"], apart := false, narrowed := true }
def OscScalesUptoSaid : Prop := oscScalesUptoRow.holds Try.pinned (OpenSpec.upto oscScalesSpec)

end Rows
end Go.Proofs.Ytmmcnbhhdgnljaa
