/-
  DERIVED. GIVEN WITH THE SEED: THE CARDS: each row of YtfabafolbelhdaaDoorRows.lean that lists a variable, with what it lists TIED to the program's text (the seventh form; the later family's looks); each row that meets fmt, with fmt's text TOLD by the authors' own Lean function (tested against real Go, not proved from fmt's source: count such statements apart). THE CARD IS WHAT COUNTS. Prove the row's statement (the work); the ties are given (YtfabafolbelhdaaDoorTie.lean); close each card by the builder's one call (the guide's Derived/Test/ToyasCard.lean, 'card_holds'). Laid BY PROGRAM, IN A SANDBOX (cutbox-door.mjs). By AI agents, Wed Nov 11 2026. No macro, syntax, notation, axiom, sorry.
-/
import Derived.Test.YtfabafolbelhdaaDoorRows
import GoSem.ClaimSeven
namespace Go.Proofs.YtfabafolbelhdaaDoor
namespace Rows

/-- THE TIED CARD OF 'spindlelaw08.ReadParts'. -/
def readPartsCard : Claim7 := { stood := { row := readPartsRow, standIns := [], harness := (true, "1013b52128e91ae4cdda41dbe3c8f100b157da00822d0efe4ef3b86b3772d67b"), looks := true }, kinds := [], alts := [], laidByText := true, laidKinds := [.handle], laidTests := true, laidLooks := .later }
def ReadPartsCardSaid : Prop := Claim7.holds Tryd.pinned (.plain (OpenSpec.ofChange readPartsSpec)) readPartsCard

/-- THE TIED CARD OF 'spindlelaw08.ReadLists'. -/
def readListsCard : Claim7 := { stood := { row := readListsRow, standIns := [], harness := (true, "1013b52128e91ae4cdda41dbe3c8f100b157da00822d0efe4ef3b86b3772d67b"), looks := true }, kinds := [], alts := [], laidByText := true, laidKinds := [.handle], laidTests := true, laidLooks := .later }
def ReadListsCardSaid : Prop := Claim7.holds Tryd.pinned (.plain (OpenSpec.ofChange readListsSpec)) readListsCard

/-- THE TIED CARD OF 'spindlelaw07.LexBlanks'. -/
def lexBlanksCard : Claim7 := { stood := { row := lexBlanksRow, standIns := [], harness := (true, "1013b52128e91ae4cdda41dbe3c8f100b157da00822d0efe4ef3b86b3772d67b"), looks := true }, kinds := [], alts := [], laidByText := true, laidKinds := [.handle], laidTests := true, laidLooks := .later }
def LexBlanksCardSaid : Prop := Claim7.holds Tryd.pinned (.plain (OpenSpec.ofChange lexBlanksSpec)) lexBlanksCard

/-- THE TIED CARD OF 'spindlelaw07.LexStrings'. -/
def lexStringsCard : Claim7 := { stood := { row := lexStringsRow, standIns := [], harness := (true, "1013b52128e91ae4cdda41dbe3c8f100b157da00822d0efe4ef3b86b3772d67b"), looks := true }, kinds := [], alts := [], laidByText := true, laidKinds := [.handle], laidTests := true, laidLooks := .later }
def LexStringsCardSaid : Prop := Claim7.holds Tryd.pinned (.plain (OpenSpec.ofChange lexStringsSpec)) lexStringsCard

/-- THE SECOND FORM's CARD OF 'spindlelaw08.ReadParts'. -/
def readPartsUptoCard : Claim7 := { stood := { row := readPartsUptoRow, standIns := [], harness := (true, "1013b52128e91ae4cdda41dbe3c8f100b157da00822d0efe4ef3b86b3772d67b"), looks := true }, kinds := [], alts := [], laidByText := true, laidKinds := [.handle], laidTests := true, laidLooks := .later }
def ReadPartsUptoCardSaid : Prop := Claim7.holds Tryd.pinned (.plain (OpenSpec.upto readPartsSpec)) readPartsUptoCard

/-- THE SECOND FORM's CARD OF 'spindlelaw08.ReadLists'. -/
def readListsUptoCard : Claim7 := { stood := { row := readListsUptoRow, standIns := [], harness := (true, "1013b52128e91ae4cdda41dbe3c8f100b157da00822d0efe4ef3b86b3772d67b"), looks := true }, kinds := [], alts := [], laidByText := true, laidKinds := [.handle], laidTests := true, laidLooks := .later }
def ReadListsUptoCardSaid : Prop := Claim7.holds Tryd.pinned (.plain (OpenSpec.upto readListsSpec)) readListsUptoCard

/-- THE SECOND FORM's CARD OF 'spindlelaw07.LexBlanks'. -/
def lexBlanksUptoCard : Claim7 := { stood := { row := lexBlanksUptoRow, standIns := [], harness := (true, "1013b52128e91ae4cdda41dbe3c8f100b157da00822d0efe4ef3b86b3772d67b"), looks := true }, kinds := [], alts := [], laidByText := true, laidKinds := [.handle], laidTests := true, laidLooks := .later }
def LexBlanksUptoCardSaid : Prop := Claim7.holds Tryd.pinned (.plain (OpenSpec.upto lexBlanksSpec)) lexBlanksUptoCard

/-- THE SECOND FORM's CARD OF 'spindlelaw07.LexStrings'. -/
def lexStringsUptoCard : Claim7 := { stood := { row := lexStringsUptoRow, standIns := [], harness := (true, "1013b52128e91ae4cdda41dbe3c8f100b157da00822d0efe4ef3b86b3772d67b"), looks := true }, kinds := [], alts := [], laidByText := true, laidKinds := [.handle], laidTests := true, laidLooks := .later }
def LexStringsUptoCardSaid : Prop := Claim7.holds Tryd.pinned (.plain (OpenSpec.upto lexStringsSpec)) lexStringsUptoCard
end Rows
end Go.Proofs.YtfabafolbelhdaaDoor
