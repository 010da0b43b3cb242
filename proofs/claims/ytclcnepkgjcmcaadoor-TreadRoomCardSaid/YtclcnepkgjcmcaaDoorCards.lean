/-
  DERIVED. GIVEN WITH THE SEED: THE CARDS: each row of YtclcnepkgjcmcaaDoorRows.lean that lists a variable, with what it lists TIED to the program's text (the seventh form; the later family's looks); each row that meets fmt, with fmt's text TOLD by the authors' own Lean function (tested against real Go, not proved from fmt's source: count such statements apart). THE CARD IS WHAT COUNTS. Prove the row's statement (the work); the ties are given (YtclcnepkgjcmcaaDoorTie.lean); close each card by the builder's one call (the guide's Derived/Test/ToyasCard.lean, 'card_holds'). Laid BY PROGRAM, IN A SANDBOX (cutbox-door.mjs). By AI agents, Wed Nov 11 2026. No macro, syntax, notation, axiom, sorry.
-/
import Derived.Test.YtclcnepkgjcmcaaDoorRows
import GoSem.ClaimSeven
namespace Go.Proofs.YtclcnepkgjcmcaaDoor
namespace Rows

/-- THE TIED CARD OF 'spindlelaw05.TreadRoom'. -/
def treadRoomCard : Claim7 := { stood := { row := treadRoomRow, standIns := [], harness := (true, "b63cbe7e987258c007e6160cb963f2be27db94701fc50b8814d071557dc03336"), looks := true }, kinds := [], alts := [], laidByText := true, laidKinds := [.data], laidTests := true, laidLooks := .later }
def TreadRoomCardSaid : Prop := Claim7.holds Tryd.pinned (.plain (OpenSpec.ofChange treadRoomSpec)) treadRoomCard

/-- THE SECOND FORM's CARD OF 'spindlelaw05.TreadRoom'. -/
def treadRoomUptoCard : Claim7 := { stood := { row := treadRoomUptoRow, standIns := [], harness := (true, "b63cbe7e987258c007e6160cb963f2be27db94701fc50b8814d071557dc03336"), looks := true }, kinds := [], alts := [], laidByText := true, laidKinds := [.data], laidTests := true, laidLooks := .later }
def TreadRoomUptoCardSaid : Prop := Claim7.holds Tryd.pinned (.plain (OpenSpec.upto treadRoomSpec)) treadRoomUptoCard
end Rows
end Go.Proofs.YtclcnepkgjcmcaaDoor
