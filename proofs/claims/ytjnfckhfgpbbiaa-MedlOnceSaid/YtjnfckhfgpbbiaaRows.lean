/-
  No cell of these rows narrows 'for every input' (looked for: loops, veiled, ifaces, maps, wideKeys, modest, calm, conditions, laid).
  DERIVED. THE GIVEN ROWS OF THIS SEAT. 5 by the template 'for every input the law returns true; each argument reads behind the call as it read before'; 0 by the template 'total and deterministic' (their statements: YtjnfckhfgpbbiaaTotals.lean).
  GIVEN WITH THE SEED: the statements are not yours to turn. If you find one false, say at which input.
  Laid BY PROGRAM, IN A SANDBOX (cutbox-rows.mjs): the forced cells as the released guide's own fill.sh prints them over the translation 7c9c26fa074af3aa… (all of the seat's roots in one cut). By AI agents, Wed Nov 11 2026. No macro, syntax, notation, axiom, sorry.
-/
import Derived.Test.YtjnfckhfgpbbiaaChecked
import GoSem.Claim
import GoSem.ClaimJoined
import GoSem.ClaimMapViews
import Derived.JoinedTies
import Derived.KernelRfl
namespace Go.Proofs.Ytjnfckhfgpbbiaa
/- THE CELL 'sum', in the pinned program and in every row, IS THE sha256 OF THE DUMP (.gsa) THAT YtjnfckhfgpbbiaaProg.lean LOADS. Nothing in Lean hashes anything: it is a label: what it is worth is what the hold of that sum in a sandbox is worth. -/
noncomputable def Try.pinned : Pinned := { name := "ytjnfckhfgpbbiaa", sum := "7c9c26fa074af3aa69bf449c0ef3c5a28e58c32be191b4681eb80e3d316c3a7c", checked := Try.checked }
namespace Rows
def none {H : Type} : Left H := { results := [], args := [] }

/-- 'palletlaw07.MedlFinds': WHATEVER THE INPUT: true; the input reads as it did. -/
def medlFindsSpec : ChangeSpec := { name := "medlFinds", fn := fun _ => fun
  | [d1, d2, d3, d4] => { results := [.lit (.bool true)], args := [d1, d2, d3, d4] }
  | _ => none }
def medlFindsRow : OpenClaim := { program := "ytjnfckhfgpbbiaa", sum := "7c9c26fa074af3aa69bf449c0ef3c5a28e58c32be191b4681eb80e3d316c3a7c", func := "pallet/palletlaw07.MedlFinds", spec := "medlFinds", apart := false }
def MedlFindsSaid : Prop := medlFindsRow.holds Try.pinned (OpenSpec.ofChange medlFindsSpec)

/-- ITS FALSE NEIGHBOUR: 'it returns false'. Refute it at one input. -/
def medlFindsWrong : ChangeSpec := { name := "medlFinds", fn := fun _ => fun
  | [d1, d2, d3, d4] => { results := [.lit (.bool false)], args := [d1, d2, d3, d4] }
  | _ => none }
def MedlFindsWrongFalsely : Prop := medlFindsRow.holds Try.pinned (OpenSpec.ofChange medlFindsWrong)

/-- 'palletlaw07.MedlOnce': WHATEVER THE INPUT: true; the input reads as it did. -/
def medlOnceSpec : ChangeSpec := { name := "medlOnce", fn := fun _ => fun
  | [d1, d2, d3] => { results := [.lit (.bool true)], args := [d1, d2, d3] }
  | _ => none }
def medlOnceRow : OpenClaim := { program := "ytjnfckhfgpbbiaa", sum := "7c9c26fa074af3aa69bf449c0ef3c5a28e58c32be191b4681eb80e3d316c3a7c", func := "pallet/palletlaw07.MedlOnce", spec := "medlOnce", apart := false }
def MedlOnceSaid : Prop := medlOnceRow.holds Try.pinned (OpenSpec.ofChange medlOnceSpec)

/-- ITS FALSE NEIGHBOUR: 'it returns false'. Refute it at one input. -/
def medlOnceWrong : ChangeSpec := { name := "medlOnce", fn := fun _ => fun
  | [d1, d2, d3] => { results := [.lit (.bool false)], args := [d1, d2, d3] }
  | _ => none }
def MedlOnceWrongFalsely : Prop := medlOnceRow.holds Try.pinned (OpenSpec.ofChange medlOnceWrong)

/-- 'palletlaw07.MedlWindow': WHATEVER THE INPUT: true; the input reads as it did. -/
def medlWindowSpec : ChangeSpec := { name := "medlWindow", fn := fun _ => fun
  | [d1, d2] => { results := [.lit (.bool true)], args := [d1, d2] }
  | _ => none }
def medlWindowRow : OpenClaim := { program := "ytjnfckhfgpbbiaa", sum := "7c9c26fa074af3aa69bf449c0ef3c5a28e58c32be191b4681eb80e3d316c3a7c", func := "pallet/palletlaw07.MedlWindow", spec := "medlWindow", apart := false }
def MedlWindowSaid : Prop := medlWindowRow.holds Try.pinned (OpenSpec.ofChange medlWindowSpec)

/-- ITS FALSE NEIGHBOUR: 'it returns false'. Refute it at one input. -/
def medlWindowWrong : ChangeSpec := { name := "medlWindow", fn := fun _ => fun
  | [d1, d2] => { results := [.lit (.bool false)], args := [d1, d2] }
  | _ => none }
def MedlWindowWrongFalsely : Prop := medlWindowRow.holds Try.pinned (OpenSpec.ofChange medlWindowWrong)

/-- 'palletlaw07.MedlNexts': WHATEVER THE INPUT: true; the input reads as it did. -/
def medlNextsSpec : ChangeSpec := { name := "medlNexts", fn := fun _ => fun
  | [d1, d2, d3] => { results := [.lit (.bool true)], args := [d1, d2, d3] }
  | _ => none }
def medlNextsRow : OpenClaim := { program := "ytjnfckhfgpbbiaa", sum := "7c9c26fa074af3aa69bf449c0ef3c5a28e58c32be191b4681eb80e3d316c3a7c", func := "pallet/palletlaw07.MedlNexts", spec := "medlNexts", apart := false }
def MedlNextsSaid : Prop := medlNextsRow.holds Try.pinned (OpenSpec.ofChange medlNextsSpec)

/-- ITS FALSE NEIGHBOUR: 'it returns false'. Refute it at one input. -/
def medlNextsWrong : ChangeSpec := { name := "medlNexts", fn := fun _ => fun
  | [d1, d2, d3] => { results := [.lit (.bool false)], args := [d1, d2, d3] }
  | _ => none }
def MedlNextsWrongFalsely : Prop := medlNextsRow.holds Try.pinned (OpenSpec.ofChange medlNextsWrong)

/-- 'palletlaw07.MedlCounts': WHATEVER THE INPUT: true; the input reads as it did. -/
def medlCountsSpec : ChangeSpec := { name := "medlCounts", fn := fun _ => fun
  | [d1, d2, d3, d4] => { results := [.lit (.bool true)], args := [d1, d2, d3, d4] }
  | _ => none }
def medlCountsRow : OpenClaim := { program := "ytjnfckhfgpbbiaa", sum := "7c9c26fa074af3aa69bf449c0ef3c5a28e58c32be191b4681eb80e3d316c3a7c", func := "pallet/palletlaw07.MedlCounts", spec := "medlCounts", apart := false }
def MedlCountsSaid : Prop := medlCountsRow.holds Try.pinned (OpenSpec.ofChange medlCountsSpec)

/-- ITS FALSE NEIGHBOUR: 'it returns false'. Refute it at one input. -/
def medlCountsWrong : ChangeSpec := { name := "medlCounts", fn := fun _ => fun
  | [d1, d2, d3, d4] => { results := [.lit (.bool false)], args := [d1, d2, d3, d4] }
  | _ => none }
def MedlCountsWrongFalsely : Prop := medlCountsRow.holds Try.pinned (OpenSpec.ofChange medlCountsWrong)

/- THE SECOND FORM. 'bulk': how many values and letters a reading holds, each counted each time it is reached (what is shared counts as often as it is met; a slice's spare places count too). A statement '..UptoSaid' is the law's where the arguments, and the package variables that the reading takes, are together of bulk at most 1048576: NARROWER than '..Said'. Prove '..Said' where nothing that the law and all that it calls make is longer than what came in: it says more and counts as full. Else prove '..UptoSaid'. A law counts once. -/
mutual
def uptoBulk {H : Type} : DataW H → Nat
  | .lit (.string bytes) => bytes.length + 1
  | .lit _ => 1
  | .nil => 1
  | .ptr d => uptoBulk d + 1
  | .slice elems spare => uptoBulkAll elems + uptoBulkAll spare + 1
  | .agg parts => uptoBulkAll parts + 1
  | .iface _ d => uptoBulk d + 1
  | .map entries => uptoBulkEntries entries + 1
  | .held _ => 1
def uptoBulkAll {H : Type} : List (DataW H) → Nat
  | [] => 0
  | d :: r => uptoBulk d + uptoBulkAll r
def uptoBulkEntries {H : Type} : List (Lit × DataW H) → Nat
  | [] => 0
  | x :: r => uptoBulkEntry x + uptoBulkEntries r
def uptoBulkEntry {H : Type} : Lit × DataW H → Nat
  | (.string bytes, d) => bytes.length + uptoBulk d + 1
  | (_, d) => uptoBulk d + 1
 end
def uptoSmall : (H : Type) → List (DataW H) → Bool := fun _ ds => decide (uptoBulkAll ds ≤ 1048576)
def OpenSpec.upto (s : _root_.Go.ChangeSpec) : _root_.Go.OpenSpec := { _root_.Go.OpenSpec.ofChange s with cond := some uptoSmall }

/-- 'palletlaw07.MedlFinds', WHERE WHAT IT READS IS OF BULK AT MOST 1048576: true; the input reads as it did. -/
def medlFindsUptoRow : OpenClaim := { program := "ytjnfckhfgpbbiaa", sum := "7c9c26fa074af3aa69bf449c0ef3c5a28e58c32be191b4681eb80e3d316c3a7c", func := "pallet/palletlaw07.MedlFinds", spec := "medlFinds", apart := false, narrowed := true }
def MedlFindsUptoSaid : Prop := medlFindsUptoRow.holds Try.pinned (OpenSpec.upto medlFindsSpec)

/-- 'palletlaw07.MedlOnce', WHERE WHAT IT READS IS OF BULK AT MOST 1048576: true; the input reads as it did. -/
def medlOnceUptoRow : OpenClaim := { program := "ytjnfckhfgpbbiaa", sum := "7c9c26fa074af3aa69bf449c0ef3c5a28e58c32be191b4681eb80e3d316c3a7c", func := "pallet/palletlaw07.MedlOnce", spec := "medlOnce", apart := false, narrowed := true }
def MedlOnceUptoSaid : Prop := medlOnceUptoRow.holds Try.pinned (OpenSpec.upto medlOnceSpec)

/-- 'palletlaw07.MedlWindow', WHERE WHAT IT READS IS OF BULK AT MOST 1048576: true; the input reads as it did. -/
def medlWindowUptoRow : OpenClaim := { program := "ytjnfckhfgpbbiaa", sum := "7c9c26fa074af3aa69bf449c0ef3c5a28e58c32be191b4681eb80e3d316c3a7c", func := "pallet/palletlaw07.MedlWindow", spec := "medlWindow", apart := false, narrowed := true }
def MedlWindowUptoSaid : Prop := medlWindowUptoRow.holds Try.pinned (OpenSpec.upto medlWindowSpec)

/-- 'palletlaw07.MedlNexts', WHERE WHAT IT READS IS OF BULK AT MOST 1048576: true; the input reads as it did. -/
def medlNextsUptoRow : OpenClaim := { program := "ytjnfckhfgpbbiaa", sum := "7c9c26fa074af3aa69bf449c0ef3c5a28e58c32be191b4681eb80e3d316c3a7c", func := "pallet/palletlaw07.MedlNexts", spec := "medlNexts", apart := false, narrowed := true }
def MedlNextsUptoSaid : Prop := medlNextsUptoRow.holds Try.pinned (OpenSpec.upto medlNextsSpec)

/-- 'palletlaw07.MedlCounts', WHERE WHAT IT READS IS OF BULK AT MOST 1048576: true; the input reads as it did. -/
def medlCountsUptoRow : OpenClaim := { program := "ytjnfckhfgpbbiaa", sum := "7c9c26fa074af3aa69bf449c0ef3c5a28e58c32be191b4681eb80e3d316c3a7c", func := "pallet/palletlaw07.MedlCounts", spec := "medlCounts", apart := false, narrowed := true }
def MedlCountsUptoSaid : Prop := medlCountsUptoRow.holds Try.pinned (OpenSpec.upto medlCountsSpec)

end Rows
end Go.Proofs.Ytjnfckhfgpbbiaa
