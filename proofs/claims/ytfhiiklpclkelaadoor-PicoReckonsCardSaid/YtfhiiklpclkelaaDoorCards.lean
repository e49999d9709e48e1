/-
  DERIVED. GIVEN WITH THE SEED: THE CARDS: each row of YtfhiiklpclkelaaDoorRows.lean that lists a variable, with what it lists TIED to the program's text (the seventh form; the later family's looks); each row that meets fmt, with fmt's text TOLD by the authors' own Lean function (tested against real Go, not proved from fmt's source: count such statements apart). THE CARD IS WHAT COUNTS. Prove the row's statement (the work); the ties are given (YtfhiiklpclkelaaDoorTie.lean); close each card by the builder's one call (the guide's Derived/Test/ToyasCard.lean, 'card_holds'). Laid BY PROGRAM, IN A SANDBOX (cutbox-door.mjs). By AI agents, Wed Nov 11 2026. No macro, syntax, notation, axiom, sorry.
-/
import Derived.Test.YtfhiiklpclkelaaDoorRows
import GoSem.ClaimSeven
namespace Go.Proofs.YtfhiiklpclkelaaDoor
namespace Rows

/-- THE TIED CARD OF 'palletlaw01.PicoReckons'. -/
def picoReckonsCard : Claim7 := { stood := { row := picoReckonsRow, standIns := [], harness := (true, "ab3b1f3d969d78d0d798f286d56f4af60186f827777819e1a55df76093c1bb9d"), looks := false }, kinds := [], alts := [], laidByText := true, laidKinds := [.data, .data, .data, .data], laidTests := true, laidLooks := .later }
def PicoReckonsCardSaid : Prop := Claim7.holds Tryd.pinned (.plain (OpenSpec.ofChange picoReckonsSpec)) picoReckonsCard

/-- THE TIED CARD OF 'palletlaw01.PicoBack'. -/
def picoBackCard : Claim7 := { stood := { row := picoBackRow, standIns := [], harness := (true, "ab3b1f3d969d78d0d798f286d56f4af60186f827777819e1a55df76093c1bb9d"), looks := false }, kinds := [], alts := [], laidByText := true, laidKinds := [.data, .data, .data, .data, .data, .pinned], laidTests := true, laidLooks := .later }
def PicoBackCardSaid : Prop := Claim7.holds Tryd.pinned (.plain (OpenSpec.ofChange picoBackSpec)) picoBackCard

/-- THE TIED CARD OF 'palletlaw01.PicoScales'. -/
def picoScalesCard : Claim7 := { stood := { row := picoScalesRow, standIns := [], harness := (true, "ab3b1f3d969d78d0d798f286d56f4af60186f827777819e1a55df76093c1bb9d"), looks := false }, kinds := [], alts := [], laidByText := true, laidKinds := [.data, .data, .data, .data], laidTests := true, laidLooks := .later }
def PicoScalesCardSaid : Prop := Claim7.holds Tryd.pinned (.plain (OpenSpec.ofChange picoScalesSpec)) picoScalesCard

/-- THE TIED CARD OF 'palletlaw01.PicoGrows'. -/
def picoGrowsCard : Claim7 := { stood := { row := picoGrowsRow, standIns := [], harness := (true, "ab3b1f3d969d78d0d798f286d56f4af60186f827777819e1a55df76093c1bb9d"), looks := false }, kinds := [], alts := [], laidByText := true, laidKinds := [.data, .data, .data, .data], laidTests := true, laidLooks := .later }
def PicoGrowsCardSaid : Prop := Claim7.holds Tryd.pinned (.plain (OpenSpec.ofChange picoGrowsSpec)) picoGrowsCard

/-- THE TIED CARD OF 'palletlaw01.PicoUnits'. -/
def picoUnitsCard : Claim7 := { stood := { row := picoUnitsRow, standIns := [], harness := (true, "ab3b1f3d969d78d0d798f286d56f4af60186f827777819e1a55df76093c1bb9d"), looks := false }, kinds := [], alts := [], laidByText := true, laidKinds := [.data, .data, .data, .data, .data, .pinned], laidTests := true, laidLooks := .later }
def PicoUnitsCardSaid : Prop := Claim7.holds Tryd.pinned (.plain (OpenSpec.ofChange picoUnitsSpec)) picoUnitsCard

/-- THE TIED CARD OF 'palletlaw01.PicoSigns'. -/
def picoSignsCard : Claim7 := { stood := { row := picoSignsRow, standIns := [], harness := (true, "ab3b1f3d969d78d0d798f286d56f4af60186f827777819e1a55df76093c1bb9d"), looks := false }, kinds := [], alts := [], laidByText := true, laidKinds := [.data, .data, .data, .data], laidTests := true, laidLooks := .later }
def PicoSignsCardSaid : Prop := Claim7.holds Tryd.pinned (.plain (OpenSpec.ofChange picoSignsSpec)) picoSignsCard

/-- THE SECOND FORM's CARD OF 'palletlaw01.PicoReckons'. -/
def picoReckonsUptoCard : Claim7 := { stood := { row := picoReckonsUptoRow, standIns := [], harness := (true, "ab3b1f3d969d78d0d798f286d56f4af60186f827777819e1a55df76093c1bb9d"), looks := false }, kinds := [], alts := [], laidByText := true, laidKinds := [.data, .data, .data, .data], laidTests := true, laidLooks := .later }
def PicoReckonsUptoCardSaid : Prop := Claim7.holds Tryd.pinned (.plain (OpenSpec.upto picoReckonsSpec)) picoReckonsUptoCard

/-- THE SECOND FORM's CARD OF 'palletlaw01.PicoBack'. -/
def picoBackUptoCard : Claim7 := { stood := { row := picoBackUptoRow, standIns := [], harness := (true, "ab3b1f3d969d78d0d798f286d56f4af60186f827777819e1a55df76093c1bb9d"), looks := false }, kinds := [], alts := [], laidByText := true, laidKinds := [.data, .data, .data, .data, .data, .pinned], laidTests := true, laidLooks := .later }
def PicoBackUptoCardSaid : Prop := Claim7.holds Tryd.pinned (.plain (OpenSpec.upto picoBackSpec)) picoBackUptoCard

/-- THE SECOND FORM's CARD OF 'palletlaw01.PicoScales'. -/
def picoScalesUptoCard : Claim7 := { stood := { row := picoScalesUptoRow, standIns := [], harness := (true, "ab3b1f3d969d78d0d798f286d56f4af60186f827777819e1a55df76093c1bb9d"), looks := false }, kinds := [], alts := [], laidByText := true, laidKinds := [.data, .data, .data, .data], laidTests := true, laidLooks := .later }
def PicoScalesUptoCardSaid : Prop := Claim7.holds Tryd.pinned (.plain (OpenSpec.upto picoScalesSpec)) picoScalesUptoCard

/-- THE SECOND FORM's CARD OF 'palletlaw01.PicoGrows'. -/
def picoGrowsUptoCard : Claim7 := { stood := { row := picoGrowsUptoRow, standIns := [], harness := (true, "ab3b1f3d969d78d0d798f286d56f4af60186f827777819e1a55df76093c1bb9d"), looks := false }, kinds := [], alts := [], laidByText := true, laidKinds := [.data, .data, .data, .data], laidTests := true, laidLooks := .later }
def PicoGrowsUptoCardSaid : Prop := Claim7.holds Tryd.pinned (.plain (OpenSpec.upto picoGrowsSpec)) picoGrowsUptoCard

/-- THE SECOND FORM's CARD OF 'palletlaw01.PicoUnits'. -/
def picoUnitsUptoCard : Claim7 := { stood := { row := picoUnitsUptoRow, standIns := [], harness := (true, "ab3b1f3d969d78d0d798f286d56f4af60186f827777819e1a55df76093c1bb9d"), looks := false }, kinds := [], alts := [], laidByText := true, laidKinds := [.data, .data, .data, .data, .data, .pinned], laidTests := true, laidLooks := .later }
def PicoUnitsUptoCardSaid : Prop := Claim7.holds Tryd.pinned (.plain (OpenSpec.upto picoUnitsSpec)) picoUnitsUptoCard

/-- THE SECOND FORM's CARD OF 'palletlaw01.PicoSigns'. -/
def picoSignsUptoCard : Claim7 := { stood := { row := picoSignsUptoRow, standIns := [], harness := (true, "ab3b1f3d969d78d0d798f286d56f4af60186f827777819e1a55df76093c1bb9d"), looks := false }, kinds := [], alts := [], laidByText := true, laidKinds := [.data, .data, .data, .data], laidTests := true, laidLooks := .later }
def PicoSignsUptoCardSaid : Prop := Claim7.holds Tryd.pinned (.plain (OpenSpec.upto picoSignsSpec)) picoSignsUptoCard
end Rows
end Go.Proofs.YtfhiiklpclkelaaDoor
