/-
  No cell of these rows narrows 'for every input' (looked for: loops, veiled, ifaces, maps, wideKeys, modest, calm, conditions, laid).
  DERIVED. THE GIVEN ROWS OF THIS SEAT. 4 by the template 'for every input the law returns true; each argument reads behind the call as it read before'; 0 by the template 'total and deterministic' (their statements: YtpncbfhbiifncaaTotals.lean).
  GIVEN WITH THE SEED: the statements are not yours to turn. If you find one false, say at which input.
  Laid BY PROGRAM, IN A SANDBOX (cutbox-rows.mjs): the forced cells as the released guide's own fill.sh prints them over the translation c84bb9e13f2abc16… (all of the seat's roots in one cut). By AI agents, Wed Nov 11 2026. No macro, syntax, notation, axiom, sorry.
-/
import Derived.Test.YtpncbfhbiifncaaChecked
import GoSem.Claim
import GoSem.ClaimJoined
import GoSem.ClaimMapViews
import Derived.JoinedTies
import Derived.KernelRfl
namespace Go.Proofs.Ytpncbfhbiifncaa
/- THE CELL 'sum', in the pinned program and in every row, IS THE sha256 OF THE DUMP (.gsa) THAT YtpncbfhbiifncaaProg.lean LOADS. Nothing in Lean hashes anything: it is a label: what it is worth is what the hold of that sum in a sandbox is worth. -/
noncomputable def Try.pinned : Pinned := { name := "ytpncbfhbiifncaa", sum := "c84bb9e13f2abc16aa3953345bce0d5c51af180b62d9bdbfd28f9b4825440e24", checked := Try.checked }
namespace Rows
def none {H : Type} : Left H := { results := [], args := [] }

/-- 'palletlaw12.GuardOpens': WHATEVER THE INPUT: true; the input reads as it did. -/
def guardOpensSpec : ChangeSpec := { name := "guardOpens", fn := fun _ => fun
  | [d1, d2, d3, d4, d5, d6] => { results := [.lit (.bool true)], args := [d1, d2, d3, d4, d5, d6] }
  | _ => none }
def guardOpensRow : OpenClaim := { program := "ytpncbfhbiifncaa", sum := "c84bb9e13f2abc16aa3953345bce0d5c51af180b62d9bdbfd28f9b4825440e24", func := "pallet/palletlaw12.GuardOpens", spec := "guardOpens", unfollowed := true, recurses := true, named := ["math/bits.divideError", "math/bits.overflowError"], apart := false }
def GuardOpensSaid : Prop := guardOpensRow.holds Try.pinned (OpenSpec.ofChange guardOpensSpec)

/-- ITS FALSE NEIGHBOUR: 'it returns false'. Refute it at one input. -/
def guardOpensWrong : ChangeSpec := { name := "guardOpens", fn := fun _ => fun
  | [d1, d2, d3, d4, d5, d6] => { results := [.lit (.bool false)], args := [d1, d2, d3, d4, d5, d6] }
  | _ => none }
def GuardOpensWrongFalsely : Prop := guardOpensRow.holds Try.pinned (OpenSpec.ofChange guardOpensWrong)

/-- 'palletlaw12.GuardSlots': WHATEVER THE INPUT: true; the input reads as it did. -/
def guardSlotsSpec : ChangeSpec := { name := "guardSlots", fn := fun _ => fun
  | [d1, d2, d3] => { results := [.lit (.bool true)], args := [d1, d2, d3] }
  | _ => none }
def guardSlotsRow : OpenClaim := { program := "ytpncbfhbiifncaa", sum := "c84bb9e13f2abc16aa3953345bce0d5c51af180b62d9bdbfd28f9b4825440e24", func := "pallet/palletlaw12.GuardSlots", spec := "guardSlots", unfollowed := true, recurses := true, named := ["math/bits.divideError", "math/bits.overflowError"], apart := false }
def GuardSlotsSaid : Prop := guardSlotsRow.holds Try.pinned (OpenSpec.ofChange guardSlotsSpec)

/-- ITS FALSE NEIGHBOUR: 'it returns false'. Refute it at one input. -/
def guardSlotsWrong : ChangeSpec := { name := "guardSlots", fn := fun _ => fun
  | [d1, d2, d3] => { results := [.lit (.bool false)], args := [d1, d2, d3] }
  | _ => none }
def GuardSlotsWrongFalsely : Prop := guardSlotsRow.holds Try.pinned (OpenSpec.ofChange guardSlotsWrong)

/-- 'palletlaw12.GuardCold': WHATEVER THE INPUT: true; the input reads as it did. -/
def guardColdSpec : ChangeSpec := { name := "guardCold", fn := fun _ => fun
  | [d1, d2, d3, d4, d5] => { results := [.lit (.bool true)], args := [d1, d2, d3, d4, d5] }
  | _ => none }
def guardColdRow : OpenClaim := { program := "ytpncbfhbiifncaa", sum := "c84bb9e13f2abc16aa3953345bce0d5c51af180b62d9bdbfd28f9b4825440e24", func := "pallet/palletlaw12.GuardCold", spec := "guardCold", unfollowed := true, recurses := true, named := ["math/bits.divideError", "math/bits.overflowError"], apart := false }
def GuardColdSaid : Prop := guardColdRow.holds Try.pinned (OpenSpec.ofChange guardColdSpec)

/-- ITS FALSE NEIGHBOUR: 'it returns false'. Refute it at one input. -/
def guardColdWrong : ChangeSpec := { name := "guardCold", fn := fun _ => fun
  | [d1, d2, d3, d4, d5] => { results := [.lit (.bool false)], args := [d1, d2, d3, d4, d5] }
  | _ => none }
def GuardColdWrongFalsely : Prop := guardColdRow.holds Try.pinned (OpenSpec.ofChange guardColdWrong)

/-- 'palletlaw12.GuardChains': WHATEVER THE INPUT: true; the input reads as it did. -/
def guardChainsSpec : ChangeSpec := { name := "guardChains", fn := fun _ => fun
  | [d1, d2, d3, d4] => { results := [.lit (.bool true)], args := [d1, d2, d3, d4] }
  | _ => none }
def guardChainsRow : OpenClaim := { program := "ytpncbfhbiifncaa", sum := "c84bb9e13f2abc16aa3953345bce0d5c51af180b62d9bdbfd28f9b4825440e24", func := "pallet/palletlaw12.GuardChains", spec := "guardChains", unfollowed := true, recurses := true, named := ["math/bits.divideError", "math/bits.overflowError"], apart := false }
def GuardChainsSaid : Prop := guardChainsRow.holds Try.pinned (OpenSpec.ofChange guardChainsSpec)

/-- ITS FALSE NEIGHBOUR: 'it returns false'. Refute it at one input. -/
def guardChainsWrong : ChangeSpec := { name := "guardChains", fn := fun _ => fun
  | [d1, d2, d3, d4] => { results := [.lit (.bool false)], args := [d1, d2, d3, d4] }
  | _ => none }
def GuardChainsWrongFalsely : Prop := guardChainsRow.holds Try.pinned (OpenSpec.ofChange guardChainsWrong)

/- THE SECOND FORM. 'bulk': how many values and letters a reading holds, each counted each time it is reached (what is shared counts as often as it is met; a slice's spare places count too). A statement '..UptoSaid' is the law's where the arguments, and the package variables that the reading takes, are together of bulk at most 1048576: NARROWER than '..Said'. Prove '..Said' where nothing that the law and all that it calls make is longer than what came in: it says more and counts as full. Else prove '..UptoSaid'. A law counts once. -/
mutual
def uptoBulk {H : Type} : DataW H → Nat
  | .lit (.string bytes) => bytes.length + 1
  | .lit _ => 1
  | .nil => 1
  | .ptr d => uptoBulk d + 1
  | .slice elems spare => uptoBulkAll elems + uptoBulkAll spare + 1
  | .agg parts => uptoBulkAll parts + 1
  | .iface _ d => uptoBulk d + 1
  | .map entries => uptoBulkEntries entries + 1
  | .held _ => 1
def uptoBulkAll {H : Type} : List (DataW H) → Nat
  | [] => 0
  | d :: r => uptoBulk d + uptoBulkAll r
def uptoBulkEntries {H : Type} : List (Lit × DataW H) → Nat
  | [] => 0
  | x :: r => uptoBulkEntry x + uptoBulkEntries r
def uptoBulkEntry {H : Type} : Lit × DataW H → Nat
  | (.string bytes, d) => bytes.length + uptoBulk d + 1
  | (_, d) => uptoBulk d + 1
 end
def uptoSmall : (H : Type) → List (DataW H) → Bool := fun _ ds => decide (uptoBulkAll ds ≤ 1048576)
def OpenSpec.upto (s : _root_.Go.ChangeSpec) : _root_.Go.OpenSpec := { _root_.Go.OpenSpec.ofChange s with cond := some uptoSmall }

/-- 'palletlaw12.GuardOpens', WHERE WHAT IT READS IS OF BULK AT MOST 1048576: true; the input reads as it did. -/
def guardOpensUptoRow : OpenClaim := { program := "ytpncbfhbiifncaa", sum := "c84bb9e13f2abc16aa3953345bce0d5c51af180b62d9bdbfd28f9b4825440e24", func := "pallet/palletlaw12.GuardOpens", spec := "guardOpens", unfollowed := true, recurses := true, named := ["math/bits.divideError", "math/bits.overflowError"], apart := false, narrowed := true }
def GuardOpensUptoSaid : Prop := guardOpensUptoRow.holds Try.pinned (OpenSpec.upto guardOpensSpec)

/-- 'palletlaw12.GuardSlots', WHERE WHAT IT READS IS OF BULK AT MOST 1048576: true; the input reads as it did. -/
def guardSlotsUptoRow : OpenClaim := { program := "ytpncbfhbiifncaa", sum := "c84bb9e13f2abc16aa3953345bce0d5c51af180b62d9bdbfd28f9b4825440e24", func := "pallet/palletlaw12.GuardSlots", spec := "guardSlots", unfollowed := true, recurses := true, named := ["math/bits.divideError", "math/bits.overflowError"], apart := false, narrowed := true }
def GuardSlotsUptoSaid : Prop := guardSlotsUptoRow.holds Try.pinned (OpenSpec.upto guardSlotsSpec)

/-- 'palletlaw12.GuardCold', WHERE WHAT IT READS IS OF BULK AT MOST 1048576: true; the input reads as it did. -/
def guardColdUptoRow : OpenClaim := { program := "ytpncbfhbiifncaa", sum := "c84bb9e13f2abc16aa3953345bce0d5c51af180b62d9bdbfd28f9b4825440e24", func := "pallet/palletlaw12.GuardCold", spec := "guardCold", unfollowed := true, recurses := true, named := ["math/bits.divideError", "math/bits.overflowError"], apart := false, narrowed := true }
def GuardColdUptoSaid : Prop := guardColdUptoRow.holds Try.pinned (OpenSpec.upto guardColdSpec)

/-- 'palletlaw12.GuardChains', WHERE WHAT IT READS IS OF BULK AT MOST 1048576: true; the input reads as it did. -/
def guardChainsUptoRow : OpenClaim := { program := "ytpncbfhbiifncaa", sum := "c84bb9e13f2abc16aa3953345bce0d5c51af180b62d9bdbfd28f9b4825440e24", func := "pallet/palletlaw12.GuardChains", spec := "guardChains", unfollowed := true, recurses := true, named := ["math/bits.divideError", "math/bits.overflowError"], apart := false, narrowed := true }
def GuardChainsUptoSaid : Prop := guardChainsUptoRow.holds Try.pinned (OpenSpec.upto guardChainsSpec)

end Rows
end Go.Proofs.Ytpncbfhbiifncaa
