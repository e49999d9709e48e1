/-
  No cell of these rows narrows 'for every input' (looked for: loops, veiled, ifaces, maps, wideKeys, modest, calm, conditions, laid).
  DERIVED. THE GIVEN ROWS OF THIS SEAT. 5 by the template 'for every input the law returns true; each argument reads behind the call as it read before'; 0 by the template 'total and deterministic' (their statements: YtjmkhhmibkiijaaTotals.lean).
  GIVEN WITH THE SEED: the statements are not yours to turn. If you find one false, say at which input.
  Laid BY PROGRAM, IN A SANDBOX (cutbox-rows.mjs): the forced cells as the released guide's own fill.sh prints them over the translation bdb6978d0a7efe13… (all of the seat's roots in one cut). By AI agents, Wed Nov 11 2026. No macro, syntax, notation, axiom, sorry.
-/
import Derived.Test.YtjmkhhmibkiijaaChecked
import GoSem.Claim
import GoSem.ClaimJoined
import GoSem.ClaimMapViews
import Derived.JoinedTies
import Derived.KernelRfl
namespace Go.Proofs.Ytjmkhhmibkiijaa
/- THE CELL 'sum', in the pinned program and in every row, IS THE sha256 OF THE DUMP (.gsa) THAT YtjmkhhmibkiijaaProg.lean LOADS. Nothing in Lean hashes anything: it is a label: what it is worth is what the hold of that sum in a sandbox is worth. -/
noncomputable def Try.pinned : Pinned := { name := "ytjmkhhmibkiijaa", sum := "bdb6978d0a7efe13862de62e1d3638576e7ef1889184868d0597861af29730fd", checked := Try.checked }
namespace Rows
def none {H : Type} : Left H := { results := [], args := [] }

/-- 'palletlaw11.MediumArrives': WHATEVER THE INPUT: true; the input reads as it did. -/
def mediumArrivesSpec : ChangeSpec := { name := "mediumArrives", fn := fun _ => fun
  | [d1, d2, d3, d4] => { results := [.lit (.bool true)], args := [d1, d2, d3, d4] }
  | _ => none }
def mediumArrivesRow : OpenClaim := { program := "ytjmkhhmibkiijaa", sum := "bdb6978d0a7efe13862de62e1d3638576e7ef1889184868d0597861af29730fd", func := "pallet/palletlaw11.MediumArrives", spec := "mediumArrives", unfollowed := true, recurses := true, apart := false }
def MediumArrivesSaid : Prop := mediumArrivesRow.holds Try.pinned (OpenSpec.ofChange mediumArrivesSpec)

/-- ITS FALSE NEIGHBOUR: 'it returns false'. Refute it at one input. -/
def mediumArrivesWrong : ChangeSpec := { name := "mediumArrives", fn := fun _ => fun
  | [d1, d2, d3, d4] => { results := [.lit (.bool false)], args := [d1, d2, d3, d4] }
  | _ => none }
def MediumArrivesWrongFalsely : Prop := mediumArrivesRow.holds Try.pinned (OpenSpec.ofChange mediumArrivesWrong)

/-- 'palletlaw11.MediumGarbles': WHATEVER THE INPUT: true; the input reads as it did. -/
def mediumGarblesSpec : ChangeSpec := { name := "mediumGarbles", fn := fun _ => fun
  | [d] => { results := [.lit (.bool true)], args := [d] }
  | _ => none }
def mediumGarblesRow : OpenClaim := { program := "ytjmkhhmibkiijaa", sum := "bdb6978d0a7efe13862de62e1d3638576e7ef1889184868d0597861af29730fd", func := "pallet/palletlaw11.MediumGarbles", spec := "mediumGarbles", unfollowed := true, recurses := true, apart := false }
def MediumGarblesSaid : Prop := mediumGarblesRow.holds Try.pinned (OpenSpec.ofChange mediumGarblesSpec)

/-- ITS FALSE NEIGHBOUR: 'it returns false'. Refute it at one input. -/
def mediumGarblesWrong : ChangeSpec := { name := "mediumGarbles", fn := fun _ => fun
  | [d] => { results := [.lit (.bool false)], args := [d] }
  | _ => none }
def MediumGarblesWrongFalsely : Prop := mediumGarblesRow.holds Try.pinned (OpenSpec.ofChange mediumGarblesWrong)

/-- 'palletlaw11.MediumHears': WHATEVER THE INPUT: true; the input reads as it did. -/
def mediumHearsSpec : ChangeSpec := { name := "mediumHears", fn := fun _ => fun
  | [d1, d2] => { results := [.lit (.bool true)], args := [d1, d2] }
  | _ => none }
def mediumHearsRow : OpenClaim := { program := "ytjmkhhmibkiijaa", sum := "bdb6978d0a7efe13862de62e1d3638576e7ef1889184868d0597861af29730fd", func := "pallet/palletlaw11.MediumHears", spec := "mediumHears", unfollowed := true, recurses := true, apart := false }
def MediumHearsSaid : Prop := mediumHearsRow.holds Try.pinned (OpenSpec.ofChange mediumHearsSpec)

/-- ITS FALSE NEIGHBOUR: 'it returns false'. Refute it at one input. -/
def mediumHearsWrong : ChangeSpec := { name := "mediumHears", fn := fun _ => fun
  | [d1, d2] => { results := [.lit (.bool false)], args := [d1, d2] }
  | _ => none }
def MediumHearsWrongFalsely : Prop := mediumHearsRow.holds Try.pinned (OpenSpec.ofChange mediumHearsWrong)

/-- 'palletlaw11.MediumFar': WHATEVER THE INPUT: true; the input reads as it did. -/
def mediumFarSpec : ChangeSpec := { name := "mediumFar", fn := fun _ => fun
  | [d1, d2, d3, d4] => { results := [.lit (.bool true)], args := [d1, d2, d3, d4] }
  | _ => none }
def mediumFarRow : OpenClaim := { program := "ytjmkhhmibkiijaa", sum := "bdb6978d0a7efe13862de62e1d3638576e7ef1889184868d0597861af29730fd", func := "pallet/palletlaw11.MediumFar", spec := "mediumFar", unfollowed := true, recurses := true, apart := false }
def MediumFarSaid : Prop := mediumFarRow.holds Try.pinned (OpenSpec.ofChange mediumFarSpec)

/-- ITS FALSE NEIGHBOUR: 'it returns false'. Refute it at one input. -/
def mediumFarWrong : ChangeSpec := { name := "mediumFar", fn := fun _ => fun
  | [d1, d2, d3, d4] => { results := [.lit (.bool false)], args := [d1, d2, d3, d4] }
  | _ => none }
def MediumFarWrongFalsely : Prop := mediumFarRow.holds Try.pinned (OpenSpec.ofChange mediumFarWrong)

/-- 'palletlaw11.MediumShifts': WHATEVER THE INPUT: true; the input reads as it did. -/
def mediumShiftsSpec : ChangeSpec := { name := "mediumShifts", fn := fun _ => fun
  | [d1, d2, d3] => { results := [.lit (.bool true)], args := [d1, d2, d3] }
  | _ => none }
def mediumShiftsRow : OpenClaim := { program := "ytjmkhhmibkiijaa", sum := "bdb6978d0a7efe13862de62e1d3638576e7ef1889184868d0597861af29730fd", func := "pallet/palletlaw11.MediumShifts", spec := "mediumShifts", unfollowed := true, recurses := true, apart := false }
def MediumShiftsSaid : Prop := mediumShiftsRow.holds Try.pinned (OpenSpec.ofChange mediumShiftsSpec)

/-- ITS FALSE NEIGHBOUR: 'it returns false'. Refute it at one input. -/
def mediumShiftsWrong : ChangeSpec := { name := "mediumShifts", fn := fun _ => fun
  | [d1, d2, d3] => { results := [.lit (.bool false)], args := [d1, d2, d3] }
  | _ => none }
def MediumShiftsWrongFalsely : Prop := mediumShiftsRow.holds Try.pinned (OpenSpec.ofChange mediumShiftsWrong)

/- THE SECOND FORM. 'bulk': how many values and letters a reading holds, each counted each time it is reached (what is shared counts as often as it is met; a slice's spare places count too). A statement '..UptoSaid' is the law's where the arguments, and the package variables that the reading takes, are together of bulk at most 1048576: NARROWER than '..Said'. Prove '..Said' where nothing that the law and all that it calls make is longer than what came in: it says more and counts as full. Else prove '..UptoSaid'. A law counts once. -/
mutual
def uptoBulk {H : Type} : DataW H → Nat
  | .lit (.string bytes) => bytes.length + 1
  | .lit _ => 1
  | .nil => 1
  | .ptr d => uptoBulk d + 1
  | .slice elems spare => uptoBulkAll elems + uptoBulkAll spare + 1
  | .agg parts => uptoBulkAll parts + 1
  | .iface _ d => uptoBulk d + 1
  | .map entries => uptoBulkEntries entries + 1
  | .held _ => 1
def uptoBulkAll {H : Type} : List (DataW H) → Nat
  | [] => 0
  | d :: r => uptoBulk d + uptoBulkAll r
def uptoBulkEntries {H : Type} : List (Lit × DataW H) → Nat
  | [] => 0
  | x :: r => uptoBulkEntry x + uptoBulkEntries r
def uptoBulkEntry {H : Type} : Lit × DataW H → Nat
  | (.string bytes, d) => bytes.length + uptoBulk d + 1
  | (_, d) => uptoBulk d + 1
 end
def uptoSmall : (H : Type) → List (DataW H) → Bool := fun _ ds => decide (uptoBulkAll ds ≤ 1048576)
def OpenSpec.upto (s : _root_.Go.ChangeSpec) : _root_.Go.OpenSpec := { _root_.Go.OpenSpec.ofChange s with cond := some uptoSmall }

/-- 'palletlaw11.MediumArrives', WHERE WHAT IT READS IS OF BULK AT MOST 1048576: true; the input reads as it did. -/
def mediumArrivesUptoRow : OpenClaim := { program := "ytjmkhhmibkiijaa", sum := "bdb6978d0a7efe13862de62e1d3638576e7ef1889184868d0597861af29730fd", func := "pallet/palletlaw11.MediumArrives", spec := "mediumArrives", unfollowed := true, recurses := true, apart := false, narrowed := true }
def MediumArrivesUptoSaid : Prop := mediumArrivesUptoRow.holds Try.pinned (OpenSpec.upto mediumArrivesSpec)

/-- 'palletlaw11.MediumGarbles', WHERE WHAT IT READS IS OF BULK AT MOST 1048576: true; the input reads as it did. -/
def mediumGarblesUptoRow : OpenClaim := { program := "ytjmkhhmibkiijaa", sum := "bdb6978d0a7efe13862de62e1d3638576e7ef1889184868d0597861af29730fd", func := "pallet/palletlaw11.MediumGarbles", spec := "mediumGarbles", unfollowed := true, recurses := true, apart := false, narrowed := true }
def MediumGarblesUptoSaid : Prop := mediumGarblesUptoRow.holds Try.pinned (OpenSpec.upto mediumGarblesSpec)

/-- 'palletlaw11.MediumHears', WHERE WHAT IT READS IS OF BULK AT MOST 1048576: true; the input reads as it did. -/
def mediumHearsUptoRow : OpenClaim := { program := "ytjmkhhmibkiijaa", sum := "bdb6978d0a7efe13862de62e1d3638576e7ef1889184868d0597861af29730fd", func := "pallet/palletlaw11.MediumHears", spec := "mediumHears", unfollowed := true, recurses := true, apart := false, narrowed := true }
def MediumHearsUptoSaid : Prop := mediumHearsUptoRow.holds Try.pinned (OpenSpec.upto mediumHearsSpec)

/-- 'palletlaw11.MediumFar', WHERE WHAT IT READS IS OF BULK AT MOST 1048576: true; the input reads as it did. -/
def mediumFarUptoRow : OpenClaim := { program := "ytjmkhhmibkiijaa", sum := "bdb6978d0a7efe13862de62e1d3638576e7ef1889184868d0597861af29730fd", func := "pallet/palletlaw11.MediumFar", spec := "mediumFar", unfollowed := true, recurses := true, apart := false, narrowed := true }
def MediumFarUptoSaid : Prop := mediumFarUptoRow.holds Try.pinned (OpenSpec.upto mediumFarSpec)

/-- 'palletlaw11.MediumShifts', WHERE WHAT IT READS IS OF BULK AT MOST 1048576: true; the input reads as it did. -/
def mediumShiftsUptoRow : OpenClaim := { program := "ytjmkhhmibkiijaa", sum := "bdb6978d0a7efe13862de62e1d3638576e7ef1889184868d0597861af29730fd", func := "pallet/palletlaw11.MediumShifts", spec := "mediumShifts", unfollowed := true, recurses := true, apart := false, narrowed := true }
def MediumShiftsUptoSaid : Prop := mediumShiftsUptoRow.holds Try.pinned (OpenSpec.upto mediumShiftsSpec)

end Rows
end Go.Proofs.Ytjmkhhmibkiijaa
