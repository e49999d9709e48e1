/-
  DERIVED. GIVEN WITH THE SEED: THE CARDS: each row of YtpkoboohnbkpoaaGreatDoorRows.lean that lists a variable, with what it lists TIED to the program's text (the seventh form; the later family's looks); each row that meets fmt, with fmt's text TOLD by the authors' own Lean function (tested against real Go, not proved from fmt's source: count such statements apart). THE CARD IS WHAT COUNTS. Prove the row's statement (the work); the ties are given (YtpkoboohnbkpoaaGreatDoorTie.lean); close each card by the builder's one call (the guide's Derived/Test/ToyasCard.lean, 'card_holds'). Laid BY PROGRAM, IN A SANDBOX (cutbox-door.mjs). By AI agents, Wed Nov 11 2026. No macro, syntax, notation, axiom, sorry.
-/
import Derived.Test.YtpkoboohnbkpoaaGreatDoorRows
import GoSem.ClaimSeven
namespace Go.Proofs.YtpkoboohnbkpoaaGreatDoor
namespace Rows

/-- THE TIED CARD OF 'palletlaw15.ParseTexts'. -/
def parseTextsCard : Claim7 := { stood := { row := parseTextsRow, standIns := [], harness := (true, "b69618879d13ec0f54a3fe170dc1fd4d62f21bc92c93f5ea1785eefef885ba60"), looks := true }, kinds := [], alts := [], laidByText := true, laidKinds := [.data, .data, .data, .data, .sentinel, .sentinel, .data, .data, .pinned], laidTests := true, laidLooks := .later }
def ParseTextsCardSaid : Prop := Claim7.holds Tryz.pinned (.plain (OpenSpec.ofChange parseTextsSpec)) parseTextsCard

/-- THE TIED CARD OF 'palletlaw16.PrintTidies'. -/
def printTidiesCard : Claim7 := { stood := { row := printTidiesRow, standIns := [], harness := (true, "b69618879d13ec0f54a3fe170dc1fd4d62f21bc92c93f5ea1785eefef885ba60"), looks := true }, kinds := [], alts := [], laidByText := true, laidKinds := [.data, .data, .data, .data, .sentinel, .sentinel, .data, .data, .pinned], laidTests := true, laidLooks := .later }
def PrintTidiesCardSaid : Prop := Claim7.holds Tryz.pinned (.plain (OpenSpec.ofChange printTidiesSpec)) printTidiesCard

/-- THE TIED CARD OF 'palletlaw17.CheckTells'. -/
def checkTellsCard : Claim7 := { stood := { row := checkTellsRow, standIns := [], harness := (true, "b69618879d13ec0f54a3fe170dc1fd4d62f21bc92c93f5ea1785eefef885ba60"), looks := true }, kinds := [], alts := [], laidByText := true, laidKinds := [.data, .data, .data, .data, .sentinel, .sentinel, .data, .data, .wider, .wider, .data, .pinned], laidTests := true, laidLooks := .later }
def CheckTellsCardSaid : Prop := Claim7.holds Tryz.pinned (.plain (OpenSpec.ofChange checkTellsSpec)) checkTellsCard

/-- THE TIED CARD OF 'palletlaw17.CheckFine'. -/
def checkFineCard : Claim7 := { stood := { row := checkFineRow, standIns := [], harness := (true, "b69618879d13ec0f54a3fe170dc1fd4d62f21bc92c93f5ea1785eefef885ba60"), looks := true }, kinds := [], alts := [], laidByText := true, laidKinds := [.data, .data, .data, .data, .sentinel, .sentinel, .data, .data, .wider, .wider, .data, .pinned], laidTests := true, laidLooks := .later }
def CheckFineCardSaid : Prop := Claim7.holds Tryz.pinned (.plain (OpenSpec.ofChange checkFineSpec)) checkFineCard

/-- THE TIED CARD OF 'palletlaw17.CheckBack'. -/
def checkBackCard : Claim7 := { stood := { row := checkBackRow, standIns := [], harness := (true, "b69618879d13ec0f54a3fe170dc1fd4d62f21bc92c93f5ea1785eefef885ba60"), looks := true }, kinds := [], alts := [], laidByText := true, laidKinds := [.data, .data, .data, .data, .sentinel, .sentinel, .data, .data, .wider, .wider, .data, .pinned], laidTests := true, laidLooks := .later }
def CheckBackCardSaid : Prop := Claim7.holds Tryz.pinned (.plain (OpenSpec.ofChange checkBackSpec)) checkBackCard

/-- THE TIED CARD OF 'palletlaw17.CheckTurns'. -/
def checkTurnsCard : Claim7 := { stood := { row := checkTurnsRow, standIns := [], harness := (true, "b69618879d13ec0f54a3fe170dc1fd4d62f21bc92c93f5ea1785eefef885ba60"), looks := true }, kinds := [], alts := [], laidByText := true, laidKinds := [.data, .data, .data, .data, .sentinel, .sentinel, .data, .data, .wider, .wider, .data, .pinned], laidTests := true, laidLooks := .later }
def CheckTurnsCardSaid : Prop := Claim7.holds Tryz.pinned (.plain (OpenSpec.ofChange checkTurnsSpec)) checkTurnsCard

/-- THE TIED CARD OF 'palletlaw17.CheckOnce'. -/
def checkOnceCard : Claim7 := { stood := { row := checkOnceRow, standIns := [], harness := (true, "b69618879d13ec0f54a3fe170dc1fd4d62f21bc92c93f5ea1785eefef885ba60"), looks := true }, kinds := [], alts := [], laidByText := true, laidKinds := [.data, .data, .data, .data, .sentinel, .sentinel, .data, .data, .wider, .wider, .data, .pinned], laidTests := true, laidLooks := .later }
def CheckOnceCardSaid : Prop := Claim7.holds Tryz.pinned (.plain (OpenSpec.ofChange checkOnceSpec)) checkOnceCard

/-- THE TIED CARD OF 'palletlaw17.CheckAdds'. -/
def checkAddsCard : Claim7 := { stood := { row := checkAddsRow, standIns := [], harness := (true, "b69618879d13ec0f54a3fe170dc1fd4d62f21bc92c93f5ea1785eefef885ba60"), looks := true }, kinds := [], alts := [], laidByText := true, laidKinds := [.data, .data, .data, .data, .sentinel, .sentinel, .data, .data, .wider, .wider, .data, .pinned], laidTests := true, laidLooks := .later }
def CheckAddsCardSaid : Prop := Claim7.holds Tryz.pinned (.plain (OpenSpec.ofChange checkAddsSpec)) checkAddsCard

/-- THE SECOND FORM's CARD OF 'palletlaw15.ParseTexts'. -/
def parseTextsUptoCard : Claim7 := { stood := { row := parseTextsUptoRow, standIns := [], harness := (true, "b69618879d13ec0f54a3fe170dc1fd4d62f21bc92c93f5ea1785eefef885ba60"), looks := true }, kinds := [], alts := [], laidByText := true, laidKinds := [.data, .data, .data, .data, .sentinel, .sentinel, .data, .data, .pinned], laidTests := true, laidLooks := .later }
def ParseTextsUptoCardSaid : Prop := Claim7.holds Tryz.pinned (.plain (OpenSpec.upto parseTextsSpec)) parseTextsUptoCard

/-- THE SECOND FORM's CARD OF 'palletlaw16.PrintTidies'. -/
def printTidiesUptoCard : Claim7 := { stood := { row := printTidiesUptoRow, standIns := [], harness := (true, "b69618879d13ec0f54a3fe170dc1fd4d62f21bc92c93f5ea1785eefef885ba60"), looks := true }, kinds := [], alts := [], laidByText := true, laidKinds := [.data, .data, .data, .data, .sentinel, .sentinel, .data, .data, .pinned], laidTests := true, laidLooks := .later }
def PrintTidiesUptoCardSaid : Prop := Claim7.holds Tryz.pinned (.plain (OpenSpec.upto printTidiesSpec)) printTidiesUptoCard

/-- THE SECOND FORM's CARD OF 'palletlaw17.CheckTells'. -/
def checkTellsUptoCard : Claim7 := { stood := { row := checkTellsUptoRow, standIns := [], harness := (true, "b69618879d13ec0f54a3fe170dc1fd4d62f21bc92c93f5ea1785eefef885ba60"), looks := true }, kinds := [], alts := [], laidByText := true, laidKinds := [.data, .data, .data, .data, .sentinel, .sentinel, .data, .data, .wider, .wider, .data, .pinned], laidTests := true, laidLooks := .later }
def CheckTellsUptoCardSaid : Prop := Claim7.holds Tryz.pinned (.plain (OpenSpec.upto checkTellsSpec)) checkTellsUptoCard

/-- THE SECOND FORM's CARD OF 'palletlaw17.CheckFine'. -/
def checkFineUptoCard : Claim7 := { stood := { row := checkFineUptoRow, standIns := [], harness := (true, "b69618879d13ec0f54a3fe170dc1fd4d62f21bc92c93f5ea1785eefef885ba60"), looks := true }, kinds := [], alts := [], laidByText := true, laidKinds := [.data, .data, .data, .data, .sentinel, .sentinel, .data, .data, .wider, .wider, .data, .pinned], laidTests := true, laidLooks := .later }
def CheckFineUptoCardSaid : Prop := Claim7.holds Tryz.pinned (.plain (OpenSpec.upto checkFineSpec)) checkFineUptoCard

/-- THE SECOND FORM's CARD OF 'palletlaw17.CheckBack'. -/
def checkBackUptoCard : Claim7 := { stood := { row := checkBackUptoRow, standIns := [], harness := (true, "b69618879d13ec0f54a3fe170dc1fd4d62f21bc92c93f5ea1785eefef885ba60"), looks := true }, kinds := [], alts := [], laidByText := true, laidKinds := [.data, .data, .data, .data, .sentinel, .sentinel, .data, .data, .wider, .wider, .data, .pinned], laidTests := true, laidLooks := .later }
def CheckBackUptoCardSaid : Prop := Claim7.holds Tryz.pinned (.plain (OpenSpec.upto checkBackSpec)) checkBackUptoCard

/-- THE SECOND FORM's CARD OF 'palletlaw17.CheckTurns'. -/
def checkTurnsUptoCard : Claim7 := { stood := { row := checkTurnsUptoRow, standIns := [], harness := (true, "b69618879d13ec0f54a3fe170dc1fd4d62f21bc92c93f5ea1785eefef885ba60"), looks := true }, kinds := [], alts := [], laidByText := true, laidKinds := [.data, .data, .data, .data, .sentinel, .sentinel, .data, .data, .wider, .wider, .data, .pinned], laidTests := true, laidLooks := .later }
def CheckTurnsUptoCardSaid : Prop := Claim7.holds Tryz.pinned (.plain (OpenSpec.upto checkTurnsSpec)) checkTurnsUptoCard

/-- THE SECOND FORM's CARD OF 'palletlaw17.CheckOnce'. -/
def checkOnceUptoCard : Claim7 := { stood := { row := checkOnceUptoRow, standIns := [], harness := (true, "b69618879d13ec0f54a3fe170dc1fd4d62f21bc92c93f5ea1785eefef885ba60"), looks := true }, kinds := [], alts := [], laidByText := true, laidKinds := [.data, .data, .data, .data, .sentinel, .sentinel, .data, .data, .wider, .wider, .data, .pinned], laidTests := true, laidLooks := .later }
def CheckOnceUptoCardSaid : Prop := Claim7.holds Tryz.pinned (.plain (OpenSpec.upto checkOnceSpec)) checkOnceUptoCard

/-- THE SECOND FORM's CARD OF 'palletlaw17.CheckAdds'. -/
def checkAddsUptoCard : Claim7 := { stood := { row := checkAddsUptoRow, standIns := [], harness := (true, "b69618879d13ec0f54a3fe170dc1fd4d62f21bc92c93f5ea1785eefef885ba60"), looks := true }, kinds := [], alts := [], laidByText := true, laidKinds := [.data, .data, .data, .data, .sentinel, .sentinel, .data, .data, .wider, .wider, .data, .pinned], laidTests := true, laidLooks := .later }
def CheckAddsUptoCardSaid : Prop := Claim7.holds Tryz.pinned (.plain (OpenSpec.upto checkAddsSpec)) checkAddsUptoCard
end Rows
end Go.Proofs.YtpkoboohnbkpoaaGreatDoor
