/-
  NARROWER THAN 'FOR EVERY INPUT', by the rows' own cells (each row's printed sentence says how): PicoReckons: laid · PicoBack: laid · PicoScales: laid · PicoGrows: laid · PicoUnits: laid · PicoSigns: laid.
  DERIVED. THE GIVEN ROWS OF THIS SEAT. 6 by the template 'for every input the law returns true; each argument reads behind the call as it read before'; 0 by the template 'total and deterministic' (their statements: YtfhiiklpclkelaaDoorTotals.lean).
  GIVEN WITH THE SEED: the statements are not yours to turn. If you find one false, say at which input.
  Laid BY PROGRAM, IN A SANDBOX (cutbox-rows.mjs): the forced cells as the released guide's own fill.sh prints them over the translation 51d3726d6c0085a0… (all of the seat's roots in one cut). By AI agents, Wed Nov 11 2026. No macro, syntax, notation, axiom, sorry.
-/
import Derived.Test.YtfhiiklpclkelaaDoorChecked
import GoSem.PinnedTables
import GoSem.Claim
import GoSem.ClaimJoined
import GoSem.ClaimMapViews
import Derived.JoinedTies
import Derived.KernelRfl
namespace Go.Proofs.YtfhiiklpclkelaaDoor
/- THE CELL 'sum', in the pinned program and in every row, IS THE sha256 OF THE DUMP (.gsa) THAT YtfhiiklpclkelaaDoorProg.lean LOADS. Nothing in Lean hashes anything: it is a label: what it is worth is what the hold of that sum in a sandbox is worth. -/
noncomputable def Tryd.pinned : Pinned := { name := "ytfhiiklpclkelaadoor", sum := "51d3726d6c0085a03ffc5e7d06d83a66b4b1189b9fb53c9e7eabf0c544b9b9f5", checked := Tryd.checked }
namespace Rows
def none {H : Type} : Left H := { results := [], args := [] }

/- WHAT THE LISTED PACKAGE-LEVEL VARIABLES READ AS WHEN THE CALL BEGINS. Each datum BY PROGRAM (the guide's laid-datum.mjs) off the statement by which the dump's own 'gosem.cut.vars' lays the variable. In a bare row this is a premise. The card (YtfhiiklpclkelaaDoorCards.lean) ties it to the program's text. -/
def laid_math_bits_deBruijn32tab {H : Type} : DataW H := .agg [.lit (.int .u8 0), .lit (.int .u8 1), .lit (.int .u8 28), .lit (.int .u8 2), .lit (.int .u8 29), .lit (.int .u8 14), .lit (.int .u8 24), .lit (.int .u8 3), .lit (.int .u8 30), .lit (.int .u8 22), .lit (.int .u8 20), .lit (.int .u8 15), .lit (.int .u8 25), .lit (.int .u8 17), .lit (.int .u8 4), .lit (.int .u8 8), .lit (.int .u8 31), .lit (.int .u8 27), .lit (.int .u8 13), .lit (.int .u8 23), .lit (.int .u8 21), .lit (.int .u8 19), .lit (.int .u8 16), .lit (.int .u8 7), .lit (.int .u8 26), .lit (.int .u8 12), .lit (.int .u8 18), .lit (.int .u8 6), .lit (.int .u8 11), .lit (.int .u8 5), .lit (.int .u8 10), .lit (.int .u8 9)]
def laid_math_bits_deBruijn64tab {H : Type} : DataW H := .agg [.lit (.int .u8 0), .lit (.int .u8 1), .lit (.int .u8 56), .lit (.int .u8 2), .lit (.int .u8 57), .lit (.int .u8 49), .lit (.int .u8 28), .lit (.int .u8 3), .lit (.int .u8 61), .lit (.int .u8 58), .lit (.int .u8 42), .lit (.int .u8 50), .lit (.int .u8 38), .lit (.int .u8 29), .lit (.int .u8 17), .lit (.int .u8 4), .lit (.int .u8 62), .lit (.int .u8 47), .lit (.int .u8 59), .lit (.int .u8 36), .lit (.int .u8 45), .lit (.int .u8 43), .lit (.int .u8 51), .lit (.int .u8 22), .lit (.int .u8 53), .lit (.int .u8 39), .lit (.int .u8 33), .lit (.int .u8 30), .lit (.int .u8 24), .lit (.int .u8 18), .lit (.int .u8 12), .lit (.int .u8 5), .lit (.int .u8 63), .lit (.int .u8 55), .lit (.int .u8 48), .lit (.int .u8 27), .lit (.int .u8 60), .lit (.int .u8 41), .lit (.int .u8 37), .lit (.int .u8 16), .lit (.int .u8 46), .lit (.int .u8 35), .lit (.int .u8 44), .lit (.int .u8 21), .lit (.int .u8 52), .lit (.int .u8 32), .lit (.int .u8 23), .lit (.int .u8 11), .lit (.int .u8 54), .lit (.int .u8 26), .lit (.int .u8 40), .lit (.int .u8 15), .lit (.int .u8 34), .lit (.int .u8 20), .lit (.int .u8 31), .lit (.int .u8 10), .lit (.int .u8 25), .lit (.int .u8 14), .lit (.int .u8 19), .lit (.int .u8 9), .lit (.int .u8 13), .lit (.int .u8 8), .lit (.int .u8 7), .lit (.int .u8 6)]
def laid_internal_strconv_uint64pow10 {H : Type} : DataW H := .agg [.lit (.int .u64 1), .lit (.int .u64 10), .lit (.int .u64 100), .lit (.int .u64 1000), .lit (.int .u64 10000), .lit (.int .u64 100000), .lit (.int .u64 1000000), .lit (.int .u64 10000000), .lit (.int .u64 100000000), .lit (.int .u64 1000000000), .lit (.int .u64 10000000000), .lit (.int .u64 100000000000), .lit (.int .u64 1000000000000), .lit (.int .u64 10000000000000), .lit (.int .u64 100000000000000), .lit (.int .u64 1000000000000000), .lit (.int .u64 10000000000000000), .lit (.int .u64 100000000000000000), .lit (.int .u64 1000000000000000000), .lit (.int .u64 10000000000000000000)]
def laid_pallet_pico_units {H : Type} : DataW H := .agg [.agg [.lit (.string [112, 115]), .lit (.int .i64 1)], .agg [.lit (.string [110, 115]), .lit (.int .i64 1000)], .agg [.lit (.string [117, 115]), .lit (.int .i64 1000000)], .agg [.lit (.string [109, 115]), .lit (.int .i64 1000000000)], .agg [.lit (.string [115]), .lit (.int .i64 1000000000000)]]
def laid_unicode_utf8_acceptRanges {H : Type} : DataW H := .agg [.agg [.lit (.int .u8 128), .lit (.int .u8 191)], .agg [.lit (.int .u8 160), .lit (.int .u8 191)], .agg [.lit (.int .u8 128), .lit (.int .u8 159)], .agg [.lit (.int .u8 144), .lit (.int .u8 191)], .agg [.lit (.int .u8 128), .lit (.int .u8 143)], .agg [.lit (.int .u8 0), .lit (.int .u8 0)], .agg [.lit (.int .u8 0), .lit (.int .u8 0)], .agg [.lit (.int .u8 0), .lit (.int .u8 0)], .agg [.lit (.int .u8 0), .lit (.int .u8 0)], .agg [.lit (.int .u8 0), .lit (.int .u8 0)], .agg [.lit (.int .u8 0), .lit (.int .u8 0)], .agg [.lit (.int .u8 0), .lit (.int .u8 0)], .agg [.lit (.int .u8 0), .lit (.int .u8 0)], .agg [.lit (.int .u8 0), .lit (.int .u8 0)], .agg [.lit (.int .u8 0), .lit (.int .u8 0)], .agg [.lit (.int .u8 0), .lit (.int .u8 0)]]
/-- One of Go's own tables, pinned by name: the form's constant. -/
def laid_unicode_utf8_first : DataW Unit := Go.Pinned.utf8First

/-- 'palletlaw01.PicoReckons': WHATEVER THE INPUT: true; the input reads as it did. -/
def picoReckonsSpec : ChangeSpec := { name := "picoReckons", fn := fun _ => fun
  | [d1, d2, d3] => { results := [.lit (.bool true)], args := [d1, d2, d3] }
  | _ => none }
def picoReckonsRow : OpenClaim := { program := "ytfhiiklpclkelaadoor", sum := "51d3726d6c0085a03ffc5e7d06d83a66b4b1189b9fb53c9e7eabf0c544b9b9f5", func := "pallet/palletlaw01.PicoReckons", spec := "picoReckons", unfollowed := true, recurses := true, named := ["math/bits.divideError", "math/bits.overflowError", "pallet/pico.units", "internal/strconv.uint64pow10", "math/bits.deBruijn32tab", "math/bits.deBruijn64tab"], apart := false, laid := [("math/bits.deBruijn32tab", laid_math_bits_deBruijn32tab), ("math/bits.deBruijn64tab", laid_math_bits_deBruijn64tab), ("internal/strconv.uint64pow10", laid_internal_strconv_uint64pow10), ("pallet/pico.units", laid_pallet_pico_units)] }
def PicoReckonsSaid : Prop := picoReckonsRow.holds Tryd.pinned (OpenSpec.ofChange picoReckonsSpec)

/-- ITS FALSE NEIGHBOUR: 'it returns false'. Refute it at one input. -/
def picoReckonsWrong : ChangeSpec := { name := "picoReckons", fn := fun _ => fun
  | [d1, d2, d3] => { results := [.lit (.bool false)], args := [d1, d2, d3] }
  | _ => none }
def PicoReckonsWrongFalsely : Prop := picoReckonsRow.holds Tryd.pinned (OpenSpec.ofChange picoReckonsWrong)

/-- 'palletlaw01.PicoBack': WHATEVER THE INPUT: true; the input reads as it did. -/
def picoBackSpec : ChangeSpec := { name := "picoBack", fn := fun _ => fun
  | [d1, d2] => { results := [.lit (.bool true)], args := [d1, d2] }
  | _ => none }
def picoBackRow : OpenClaim := { program := "ytfhiiklpclkelaadoor", sum := "51d3726d6c0085a03ffc5e7d06d83a66b4b1189b9fb53c9e7eabf0c544b9b9f5", func := "pallet/palletlaw01.PicoBack", spec := "picoBack", inPlace := ["internal/bytealg.IndexByteString", "internal/bytealg.IndexString"], unfollowed := true, recurses := true, named := ["math/bits.divideError", "math/bits.overflowError", "pallet/pico.units", "internal/strconv.uint64pow10", "math/bits.deBruijn32tab", "math/bits.deBruijn64tab", "unicode/utf8.first", "unicode/utf8.acceptRanges", "internal/bytealg.MaxLen"], apart := false, laid := [("math/bits.deBruijn32tab", laid_math_bits_deBruijn32tab), ("math/bits.deBruijn64tab", laid_math_bits_deBruijn64tab), ("internal/strconv.uint64pow10", laid_internal_strconv_uint64pow10), ("unicode/utf8.acceptRanges", laid_unicode_utf8_acceptRanges), ("pallet/pico.units", laid_pallet_pico_units), ("unicode/utf8.first", laid_unicode_utf8_first)] }
def PicoBackSaid : Prop := picoBackRow.holds Tryd.pinned (OpenSpec.ofChange picoBackSpec)

/-- ITS FALSE NEIGHBOUR: 'it returns false'. Refute it at one input. -/
def picoBackWrong : ChangeSpec := { name := "picoBack", fn := fun _ => fun
  | [d1, d2] => { results := [.lit (.bool false)], args := [d1, d2] }
  | _ => none }
def PicoBackWrongFalsely : Prop := picoBackRow.holds Tryd.pinned (OpenSpec.ofChange picoBackWrong)

/-- 'palletlaw01.PicoScales': WHATEVER THE INPUT: true; the input reads as it did. -/
def picoScalesSpec : ChangeSpec := { name := "picoScales", fn := fun _ => fun
  | [d1, d2, d3] => { results := [.lit (.bool true)], args := [d1, d2, d3] }
  | _ => none }
def picoScalesRow : OpenClaim := { program := "ytfhiiklpclkelaadoor", sum := "51d3726d6c0085a03ffc5e7d06d83a66b4b1189b9fb53c9e7eabf0c544b9b9f5", func := "pallet/palletlaw01.PicoScales", spec := "picoScales", unfollowed := true, recurses := true, named := ["math/bits.divideError", "math/bits.overflowError", "pallet/pico.units", "internal/strconv.uint64pow10", "math/bits.deBruijn32tab", "math/bits.deBruijn64tab"], apart := false, laid := [("math/bits.deBruijn32tab", laid_math_bits_deBruijn32tab), ("math/bits.deBruijn64tab", laid_math_bits_deBruijn64tab), ("internal/strconv.uint64pow10", laid_internal_strconv_uint64pow10), ("pallet/pico.units", laid_pallet_pico_units)] }
def PicoScalesSaid : Prop := picoScalesRow.holds Tryd.pinned (OpenSpec.ofChange picoScalesSpec)

/-- ITS FALSE NEIGHBOUR: 'it returns false'. Refute it at one input. -/
def picoScalesWrong : ChangeSpec := { name := "picoScales", fn := fun _ => fun
  | [d1, d2, d3] => { results := [.lit (.bool false)], args := [d1, d2, d3] }
  | _ => none }
def PicoScalesWrongFalsely : Prop := picoScalesRow.holds Tryd.pinned (OpenSpec.ofChange picoScalesWrong)

/-- 'palletlaw01.PicoGrows': WHATEVER THE INPUT: true; the input reads as it did. -/
def picoGrowsSpec : ChangeSpec := { name := "picoGrows", fn := fun _ => fun
  | [d1, d2, d3, d4] => { results := [.lit (.bool true)], args := [d1, d2, d3, d4] }
  | _ => none }
def picoGrowsRow : OpenClaim := { program := "ytfhiiklpclkelaadoor", sum := "51d3726d6c0085a03ffc5e7d06d83a66b4b1189b9fb53c9e7eabf0c544b9b9f5", func := "pallet/palletlaw01.PicoGrows", spec := "picoGrows", unfollowed := true, recurses := true, named := ["math/bits.divideError", "math/bits.overflowError", "pallet/pico.units", "internal/strconv.uint64pow10", "math/bits.deBruijn32tab", "math/bits.deBruijn64tab"], apart := false, laid := [("math/bits.deBruijn32tab", laid_math_bits_deBruijn32tab), ("math/bits.deBruijn64tab", laid_math_bits_deBruijn64tab), ("internal/strconv.uint64pow10", laid_internal_strconv_uint64pow10), ("pallet/pico.units", laid_pallet_pico_units)] }
def PicoGrowsSaid : Prop := picoGrowsRow.holds Tryd.pinned (OpenSpec.ofChange picoGrowsSpec)

/-- ITS FALSE NEIGHBOUR: 'it returns false'. Refute it at one input. -/
def picoGrowsWrong : ChangeSpec := { name := "picoGrows", fn := fun _ => fun
  | [d1, d2, d3, d4] => { results := [.lit (.bool false)], args := [d1, d2, d3, d4] }
  | _ => none }
def PicoGrowsWrongFalsely : Prop := picoGrowsRow.holds Tryd.pinned (OpenSpec.ofChange picoGrowsWrong)

/-- 'palletlaw01.PicoUnits': WHATEVER THE INPUT: true; the input reads as it did. -/
def picoUnitsSpec : ChangeSpec := { name := "picoUnits", fn := fun _ => fun
  | [d1, d2] => { results := [.lit (.bool true)], args := [d1, d2] }
  | _ => none }
def picoUnitsRow : OpenClaim := { program := "ytfhiiklpclkelaadoor", sum := "51d3726d6c0085a03ffc5e7d06d83a66b4b1189b9fb53c9e7eabf0c544b9b9f5", func := "pallet/palletlaw01.PicoUnits", spec := "picoUnits", inPlace := ["internal/bytealg.IndexByteString", "internal/bytealg.IndexString"], unfollowed := true, recurses := true, named := ["math/bits.divideError", "math/bits.overflowError", "pallet/pico.units", "internal/strconv.uint64pow10", "math/bits.deBruijn32tab", "math/bits.deBruijn64tab", "unicode/utf8.first", "unicode/utf8.acceptRanges", "internal/bytealg.MaxLen"], apart := false, laid := [("math/bits.deBruijn32tab", laid_math_bits_deBruijn32tab), ("math/bits.deBruijn64tab", laid_math_bits_deBruijn64tab), ("internal/strconv.uint64pow10", laid_internal_strconv_uint64pow10), ("unicode/utf8.acceptRanges", laid_unicode_utf8_acceptRanges), ("pallet/pico.units", laid_pallet_pico_units), ("unicode/utf8.first", laid_unicode_utf8_first)] }
def PicoUnitsSaid : Prop := picoUnitsRow.holds Tryd.pinned (OpenSpec.ofChange picoUnitsSpec)

/-- ITS FALSE NEIGHBOUR: 'it returns false'. Refute it at one input. -/
def picoUnitsWrong : ChangeSpec := { name := "picoUnits", fn := fun _ => fun
  | [d1, d2] => { results := [.lit (.bool false)], args := [d1, d2] }
  | _ => none }
def PicoUnitsWrongFalsely : Prop := picoUnitsRow.holds Tryd.pinned (OpenSpec.ofChange picoUnitsWrong)

/-- 'palletlaw01.PicoSigns': WHATEVER THE INPUT: true; the input reads as it did. -/
def picoSignsSpec : ChangeSpec := { name := "picoSigns", fn := fun _ => fun
  | [d1, d2, d3, d4] => { results := [.lit (.bool true)], args := [d1, d2, d3, d4] }
  | _ => none }
def picoSignsRow : OpenClaim := { program := "ytfhiiklpclkelaadoor", sum := "51d3726d6c0085a03ffc5e7d06d83a66b4b1189b9fb53c9e7eabf0c544b9b9f5", func := "pallet/palletlaw01.PicoSigns", spec := "picoSigns", unfollowed := true, recurses := true, named := ["math/bits.divideError", "math/bits.overflowError", "pallet/pico.units", "internal/strconv.uint64pow10", "math/bits.deBruijn32tab", "math/bits.deBruijn64tab"], apart := false, laid := [("math/bits.deBruijn32tab", laid_math_bits_deBruijn32tab), ("math/bits.deBruijn64tab", laid_math_bits_deBruijn64tab), ("internal/strconv.uint64pow10", laid_internal_strconv_uint64pow10), ("pallet/pico.units", laid_pallet_pico_units)] }
def PicoSignsSaid : Prop := picoSignsRow.holds Tryd.pinned (OpenSpec.ofChange picoSignsSpec)

/-- ITS FALSE NEIGHBOUR: 'it returns false'. Refute it at one input. -/
def picoSignsWrong : ChangeSpec := { name := "picoSigns", fn := fun _ => fun
  | [d1, d2, d3, d4] => { results := [.lit (.bool false)], args := [d1, d2, d3, d4] }
  | _ => none }
def PicoSignsWrongFalsely : Prop := picoSignsRow.holds Tryd.pinned (OpenSpec.ofChange picoSignsWrong)

/- THE SECOND FORM. 'bulk': how many values and letters a reading holds, each counted each time it is reached (what is shared counts as often as it is met; a slice's spare places count too). A statement '..UptoSaid' is the law's where the arguments, and the package variables that the reading takes, are together of bulk at most 1048576: NARROWER than '..Said'. Prove '..Said' where nothing that the law and all that it calls make is longer than what came in: it says more and counts as full. Else prove '..UptoSaid'. A law counts once. -/
mutual
def uptoBulk {H : Type} : DataW H → Nat
  | .lit (.string bytes) => bytes.length + 1
  | .lit _ => 1
  | .nil => 1
  | .ptr d => uptoBulk d + 1
  | .slice elems spare => uptoBulkAll elems + uptoBulkAll spare + 1
  | .agg parts => uptoBulkAll parts + 1
  | .iface _ d => uptoBulk d + 1
  | .map entries => uptoBulkEntries entries + 1
  | .held _ => 1
def uptoBulkAll {H : Type} : List (DataW H) → Nat
  | [] => 0
  | d :: r => uptoBulk d + uptoBulkAll r
def uptoBulkEntries {H : Type} : List (Lit × DataW H) → Nat
  | [] => 0
  | x :: r => uptoBulkEntry x + uptoBulkEntries r
def uptoBulkEntry {H : Type} : Lit × DataW H → Nat
  | (.string bytes, d) => bytes.length + uptoBulk d + 1
  | (_, d) => uptoBulk d + 1
 end
def uptoSmall : (H : Type) → List (DataW H) → Bool := fun _ ds => decide (uptoBulkAll ds ≤ 1048576)
def OpenSpec.upto (s : _root_.Go.ChangeSpec) : _root_.Go.OpenSpec := { _root_.Go.OpenSpec.ofChange s with cond := some uptoSmall }

/-- 'palletlaw01.PicoReckons', WHERE WHAT IT READS IS OF BULK AT MOST 1048576: true; the input reads as it did. -/
def picoReckonsUptoRow : OpenClaim := { program := "ytfhiiklpclkelaadoor", sum := "51d3726d6c0085a03ffc5e7d06d83a66b4b1189b9fb53c9e7eabf0c544b9b9f5", func := "pallet/palletlaw01.PicoReckons", spec := "picoReckons", unfollowed := true, recurses := true, named := ["math/bits.divideError", "math/bits.overflowError", "pallet/pico.units", "internal/strconv.uint64pow10", "math/bits.deBruijn32tab", "math/bits.deBruijn64tab"], apart := false, laid := [("math/bits.deBruijn32tab", laid_math_bits_deBruijn32tab), ("math/bits.deBruijn64tab", laid_math_bits_deBruijn64tab), ("internal/strconv.uint64pow10", laid_internal_strconv_uint64pow10), ("pallet/pico.units", laid_pallet_pico_units)], narrowed := true }
def PicoReckonsUptoSaid : Prop := picoReckonsUptoRow.holds Tryd.pinned (OpenSpec.upto picoReckonsSpec)

/-- 'palletlaw01.PicoBack', WHERE WHAT IT READS IS OF BULK AT MOST 1048576: true; the input reads as it did. -/
def picoBackUptoRow : OpenClaim := { program := "ytfhiiklpclkelaadoor", sum := "51d3726d6c0085a03ffc5e7d06d83a66b4b1189b9fb53c9e7eabf0c544b9b9f5", func := "pallet/palletlaw01.PicoBack", spec := "picoBack", inPlace := ["internal/bytealg.IndexByteString", "internal/bytealg.IndexString"], unfollowed := true, recurses := true, named := ["math/bits.divideError", "math/bits.overflowError", "pallet/pico.units", "internal/strconv.uint64pow10", "math/bits.deBruijn32tab", "math/bits.deBruijn64tab", "unicode/utf8.first", "unicode/utf8.acceptRanges", "internal/bytealg.MaxLen"], apart := false, laid := [("math/bits.deBruijn32tab", laid_math_bits_deBruijn32tab), ("math/bits.deBruijn64tab", laid_math_bits_deBruijn64tab), ("internal/strconv.uint64pow10", laid_internal_strconv_uint64pow10), ("unicode/utf8.acceptRanges", laid_unicode_utf8_acceptRanges), ("pallet/pico.units", laid_pallet_pico_units), ("unicode/utf8.first", laid_unicode_utf8_first)], narrowed := true }
def PicoBackUptoSaid : Prop := picoBackUptoRow.holds Tryd.pinned (OpenSpec.upto picoBackSpec)

/-- 'palletlaw01.PicoScales', WHERE WHAT IT READS IS OF BULK AT MOST 1048576: true; the input reads as it did. -/
def picoScalesUptoRow : OpenClaim := { program := "ytfhiiklpclkelaadoor", sum := "51d3726d6c0085a03ffc5e7d06d83a66b4b1189b9fb53c9e7eabf0c544b9b9f5", func := "pallet/palletlaw01.PicoScales", spec := "picoScales", unfollowed := true, recurses := true, named := ["math/bits.divideError", "math/bits.overflowError", "pallet/pico.units", "internal/strconv.uint64pow10", "math/bits.deBruijn32tab", "math/bits.deBruijn64tab"], apart := false, laid := [("math/bits.deBruijn32tab", laid_math_bits_deBruijn32tab), ("math/bits.deBruijn64tab", laid_math_bits_deBruijn64tab), ("internal/strconv.uint64pow10", laid_internal_strconv_uint64pow10), ("pallet/pico.units", laid_pallet_pico_units)], narrowed := true }
def PicoScalesUptoSaid : Prop := picoScalesUptoRow.holds Tryd.pinned (OpenSpec.upto picoScalesSpec)

/-- 'palletlaw01.PicoGrows', WHERE WHAT IT READS IS OF BULK AT MOST 1048576: true; the input reads as it did. -/
def picoGrowsUptoRow : OpenClaim := { program := "ytfhiiklpclkelaadoor", sum := "51d3726d6c0085a03ffc5e7d06d83a66b4b1189b9fb53c9e7eabf0c544b9b9f5", func := "pallet/palletlaw01.PicoGrows", spec := "picoGrows", unfollowed := true, recurses := true, named := ["math/bits.divideError", "math/bits.overflowError", "pallet/pico.units", "internal/strconv.uint64pow10", "math/bits.deBruijn32tab", "math/bits.deBruijn64tab"], apart := false, laid := [("math/bits.deBruijn32tab", laid_math_bits_deBruijn32tab), ("math/bits.deBruijn64tab", laid_math_bits_deBruijn64tab), ("internal/strconv.uint64pow10", laid_internal_strconv_uint64pow10), ("pallet/pico.units", laid_pallet_pico_units)], narrowed := true }
def PicoGrowsUptoSaid : Prop := picoGrowsUptoRow.holds Tryd.pinned (OpenSpec.upto picoGrowsSpec)

/-- 'palletlaw01.PicoUnits', WHERE WHAT IT READS IS OF BULK AT MOST 1048576: true; the input reads as it did. -/
def picoUnitsUptoRow : OpenClaim := { program := "ytfhiiklpclkelaadoor", sum := "51d3726d6c0085a03ffc5e7d06d83a66b4b1189b9fb53c9e7eabf0c544b9b9f5", func := "pallet/palletlaw01.PicoUnits", spec := "picoUnits", inPlace := ["internal/bytealg.IndexByteString", "internal/bytealg.IndexString"], unfollowed := true, recurses := true, named := ["math/bits.divideError", "math/bits.overflowError", "pallet/pico.units", "internal/strconv.uint64pow10", "math/bits.deBruijn32tab", "math/bits.deBruijn64tab", "unicode/utf8.first", "unicode/utf8.acceptRanges", "internal/bytealg.MaxLen"], apart := false, laid := [("math/bits.deBruijn32tab", laid_math_bits_deBruijn32tab), ("math/bits.deBruijn64tab", laid_math_bits_deBruijn64tab), ("internal/strconv.uint64pow10", laid_internal_strconv_uint64pow10), ("unicode/utf8.acceptRanges", laid_unicode_utf8_acceptRanges), ("pallet/pico.units", laid_pallet_pico_units), ("unicode/utf8.first", laid_unicode_utf8_first)], narrowed := true }
def PicoUnitsUptoSaid : Prop := picoUnitsUptoRow.holds Tryd.pinned (OpenSpec.upto picoUnitsSpec)

/-- 'palletlaw01.PicoSigns', WHERE WHAT IT READS IS OF BULK AT MOST 1048576: true; the input reads as it did. -/
def picoSignsUptoRow : OpenClaim := { program := "ytfhiiklpclkelaadoor", sum := "51d3726d6c0085a03ffc5e7d06d83a66b4b1189b9fb53c9e7eabf0c544b9b9f5", func := "pallet/palletlaw01.PicoSigns", spec := "picoSigns", unfollowed := true, recurses := true, named := ["math/bits.divideError", "math/bits.overflowError", "pallet/pico.units", "internal/strconv.uint64pow10", "math/bits.deBruijn32tab", "math/bits.deBruijn64tab"], apart := false, laid := [("math/bits.deBruijn32tab", laid_math_bits_deBruijn32tab), ("math/bits.deBruijn64tab", laid_math_bits_deBruijn64tab), ("internal/strconv.uint64pow10", laid_internal_strconv_uint64pow10), ("pallet/pico.units", laid_pallet_pico_units)], narrowed := true }
def PicoSignsUptoSaid : Prop := picoSignsUptoRow.holds Tryd.pinned (OpenSpec.upto picoSignsSpec)

end Rows
end Go.Proofs.YtfhiiklpclkelaaDoor
