/-
  DERIVED. GIVEN WITH THE SEED: THE CARDS: each row of YtclcnepkgjcmcaaGreatDoorRows.lean that lists a variable, with what it lists TIED to the program's text (the seventh form; the later family's looks); each row that meets fmt, with fmt's text TOLD by the authors' own Lean function (tested against real Go, not proved from fmt's source: count such statements apart). THE CARD IS WHAT COUNTS. Prove the row's statement (the work); the ties are given (YtclcnepkgjcmcaaGreatDoorTie.lean); close each card by the builder's one call (the guide's Derived/Test/ToyasCard.lean, 'card_holds'). Laid BY PROGRAM, IN A SANDBOX (cutbox-door.mjs). By AI agents, Wed Nov 11 2026. No macro, syntax, notation, axiom, sorry.
-/
import Derived.Test.YtclcnepkgjcmcaaGreatDoorRows
import GoSem.ClaimSeven
namespace Go.Proofs.YtclcnepkgjcmcaaGreatDoor
namespace Rows

/-- THE TIED CARD OF 'spindlelaw05.TreadFlip'. -/
def treadFlipCard : Claim7 := { stood := { row := treadFlipRow, standIns := [], harness := (true, "80641ac1af043f02297fec39b4e51ba3e31d59a5d2bfc884ad4021773d60f772"), looks := true }, kinds := [], alts := [], laidByText := true, laidKinds := [.data], laidTests := true, laidLooks := .later }
def TreadFlipCardSaid : Prop := Claim7.holds Tryz.pinned (.plain (OpenSpec.ofChange treadFlipSpec)) treadFlipCard

/-- THE SECOND FORM's CARD OF 'spindlelaw05.TreadFlip'. -/
def treadFlipUptoCard : Claim7 := { stood := { row := treadFlipUptoRow, standIns := [], harness := (true, "80641ac1af043f02297fec39b4e51ba3e31d59a5d2bfc884ad4021773d60f772"), looks := true }, kinds := [], alts := [], laidByText := true, laidKinds := [.data], laidTests := true, laidLooks := .later }
def TreadFlipUptoCardSaid : Prop := Claim7.holds Tryz.pinned (.plain (OpenSpec.upto treadFlipSpec)) treadFlipUptoCard
end Rows
end Go.Proofs.YtclcnepkgjcmcaaGreatDoor
