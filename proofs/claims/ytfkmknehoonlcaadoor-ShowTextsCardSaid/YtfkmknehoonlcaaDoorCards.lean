/-
  DERIVED. GIVEN WITH THE SEED: THE CARDS: each row of YtfkmknehoonlcaaDoorRows.lean that lists a variable, with what it lists TIED to the program's text (the seventh form; the later family's looks); each row that meets fmt, with fmt's text TOLD by the authors' own Lean function (tested against real Go, not proved from fmt's source: count such statements apart). THE CARD IS WHAT COUNTS. Prove the row's statement (the work); the ties are given (YtfkmknehoonlcaaDoorTie.lean); close each card by the builder's one call (the guide's Derived/Test/ToyasCard.lean, 'card_holds'). Laid BY PROGRAM, IN A SANDBOX (cutbox-door.mjs). By AI agents, Wed Nov 11 2026. No macro, syntax, notation, axiom, sorry.
-/
import Derived.Test.YtfkmknehoonlcaaDoorRows
import GoSem.ClaimSeven
namespace Go.Proofs.YtfkmknehoonlcaaDoor
namespace Rows

/-- THE TIED CARD OF 'spindlelaw09.ShowTexts'. -/
def showTextsCard : Claim7 := { stood := { row := showTextsRow, standIns := [], harness := (true, "eb774862afca3bba77a0b95caa8c123080e8854d8fb196e6026f8f79518320fe"), looks := true }, kinds := [], alts := [], laidByText := true, laidKinds := [.data, .data, .data], laidTests := true, laidLooks := .later }
def ShowTextsCardSaid : Prop := Claim7.holds Tryd.pinned (.plain (OpenSpec.ofChange showTextsSpec)) showTextsCard

/-- THE TIED CARD OF 'spindlelaw09.ShowChars'. -/
def showCharsCard : Claim7 := { stood := { row := showCharsRow, standIns := [], harness := (true, "eb774862afca3bba77a0b95caa8c123080e8854d8fb196e6026f8f79518320fe"), looks := true }, kinds := [], alts := [], laidByText := true, laidKinds := [.data, .data, .data], laidTests := true, laidLooks := .later }
def ShowCharsCardSaid : Prop := Claim7.holds Tryd.pinned (.plain (OpenSpec.ofChange showCharsSpec)) showCharsCard

/-- THE TIED CARD OF 'spindlelaw09.ShowLists'. -/
def showListsCard : Claim7 := { stood := { row := showListsRow, standIns := [], harness := (true, "eb774862afca3bba77a0b95caa8c123080e8854d8fb196e6026f8f79518320fe"), looks := true }, kinds := [], alts := [], laidByText := true, laidKinds := [.data, .data, .data], laidTests := true, laidLooks := .later }
def ShowListsCardSaid : Prop := Claim7.holds Tryd.pinned (.plain (OpenSpec.ofChange showListsSpec)) showListsCard

/-- THE SECOND FORM's CARD OF 'spindlelaw09.ShowTexts'. -/
def showTextsUptoCard : Claim7 := { stood := { row := showTextsUptoRow, standIns := [], harness := (true, "eb774862afca3bba77a0b95caa8c123080e8854d8fb196e6026f8f79518320fe"), looks := true }, kinds := [], alts := [], laidByText := true, laidKinds := [.data, .data, .data], laidTests := true, laidLooks := .later }
def ShowTextsUptoCardSaid : Prop := Claim7.holds Tryd.pinned (.plain (OpenSpec.upto showTextsSpec)) showTextsUptoCard

/-- THE SECOND FORM's CARD OF 'spindlelaw09.ShowChars'. -/
def showCharsUptoCard : Claim7 := { stood := { row := showCharsUptoRow, standIns := [], harness := (true, "eb774862afca3bba77a0b95caa8c123080e8854d8fb196e6026f8f79518320fe"), looks := true }, kinds := [], alts := [], laidByText := true, laidKinds := [.data, .data, .data], laidTests := true, laidLooks := .later }
def ShowCharsUptoCardSaid : Prop := Claim7.holds Tryd.pinned (.plain (OpenSpec.upto showCharsSpec)) showCharsUptoCard

/-- THE SECOND FORM's CARD OF 'spindlelaw09.ShowLists'. -/
def showListsUptoCard : Claim7 := { stood := { row := showListsUptoRow, standIns := [], harness := (true, "eb774862afca3bba77a0b95caa8c123080e8854d8fb196e6026f8f79518320fe"), looks := true }, kinds := [], alts := [], laidByText := true, laidKinds := [.data, .data, .data], laidTests := true, laidLooks := .later }
def ShowListsUptoCardSaid : Prop := Claim7.holds Tryd.pinned (.plain (OpenSpec.upto showListsSpec)) showListsUptoCard
end Rows
end Go.Proofs.YtfkmknehoonlcaaDoor
