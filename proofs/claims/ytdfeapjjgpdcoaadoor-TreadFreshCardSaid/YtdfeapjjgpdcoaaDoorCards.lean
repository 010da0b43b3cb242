/-
  DERIVED. GIVEN WITH THE SEED: THE CARDS: each row of YtdfeapjjgpdcoaaDoorRows.lean that lists a variable, with what it lists TIED to the program's text (the seventh form; the later family's looks); each row that meets fmt, with fmt's text TOLD by the authors' own Lean function (tested against real Go, not proved from fmt's source: count such statements apart). THE CARD IS WHAT COUNTS. Prove the row's statement (the work); the ties are given (YtdfeapjjgpdcoaaDoorTie.lean); close each card by the builder's one call (the guide's Derived/Test/ToyasCard.lean, 'card_holds'). Laid BY PROGRAM, IN A SANDBOX (cutbox-door.mjs). By AI agents, Wed Nov 11 2026. No macro, syntax, notation, axiom, sorry.
-/
import Derived.Test.YtdfeapjjgpdcoaaDoorRows
import GoSem.ClaimSeven
namespace Go.Proofs.YtdfeapjjgpdcoaaDoor
namespace Rows

/-- THE TIED CARD OF 'spindlelaw05.TreadRoom'. -/
def treadRoomCard : Claim7 := { stood := { row := treadRoomRow, standIns := [], harness := (true, "907e629b9303000009246316ccf92f45ac3076a9a0cc933c6ad12ed2e033ed55"), looks := true }, kinds := [], alts := [], laidByText := true, laidKinds := [.data], laidTests := true, laidLooks := .later }
def TreadRoomCardSaid : Prop := Claim7.holds Tryd.pinned (.plain (OpenSpec.ofChange treadRoomSpec)) treadRoomCard

/-- THE TIED CARD OF 'spindlelaw05.TreadNil'. -/
def treadNilCard : Claim7 := { stood := { row := treadNilRow, standIns := [], harness := (true, "907e629b9303000009246316ccf92f45ac3076a9a0cc933c6ad12ed2e033ed55"), looks := true }, kinds := [], alts := [], laidByText := true, laidKinds := [.data], laidTests := true, laidLooks := .later }
def TreadNilCardSaid : Prop := Claim7.holds Tryd.pinned (.plain (OpenSpec.ofChange treadNilSpec)) treadNilCard

/-- THE TIED CARD OF 'spindlelaw05.TreadRoots'. -/
def treadRootsCard : Claim7 := { stood := { row := treadRootsRow, standIns := [], harness := (true, "907e629b9303000009246316ccf92f45ac3076a9a0cc933c6ad12ed2e033ed55"), looks := true }, kinds := [], alts := [], laidByText := true, laidKinds := [.data], laidTests := true, laidLooks := .later }
def TreadRootsCardSaid : Prop := Claim7.holds Tryd.pinned (.plain (OpenSpec.ofChange treadRootsSpec)) treadRootsCard

/-- THE TIED CARD OF 'spindlelaw05.TreadFresh'. -/
def treadFreshCard : Claim7 := { stood := { row := treadFreshRow, standIns := [], harness := (true, "907e629b9303000009246316ccf92f45ac3076a9a0cc933c6ad12ed2e033ed55"), looks := true }, kinds := [], alts := [], laidByText := true, laidKinds := [.data], laidTests := true, laidLooks := .later }
def TreadFreshCardSaid : Prop := Claim7.holds Tryd.pinned (.plain (OpenSpec.ofChange treadFreshSpec)) treadFreshCard

/-- THE SECOND FORM's CARD OF 'spindlelaw05.TreadRoom'. -/
def treadRoomUptoCard : Claim7 := { stood := { row := treadRoomUptoRow, standIns := [], harness := (true, "907e629b9303000009246316ccf92f45ac3076a9a0cc933c6ad12ed2e033ed55"), looks := true }, kinds := [], alts := [], laidByText := true, laidKinds := [.data], laidTests := true, laidLooks := .later }
def TreadRoomUptoCardSaid : Prop := Claim7.holds Tryd.pinned (.plain (OpenSpec.upto treadRoomSpec)) treadRoomUptoCard

/-- THE SECOND FORM's CARD OF 'spindlelaw05.TreadNil'. -/
def treadNilUptoCard : Claim7 := { stood := { row := treadNilUptoRow, standIns := [], harness := (true, "907e629b9303000009246316ccf92f45ac3076a9a0cc933c6ad12ed2e033ed55"), looks := true }, kinds := [], alts := [], laidByText := true, laidKinds := [.data], laidTests := true, laidLooks := .later }
def TreadNilUptoCardSaid : Prop := Claim7.holds Tryd.pinned (.plain (OpenSpec.upto treadNilSpec)) treadNilUptoCard

/-- THE SECOND FORM's CARD OF 'spindlelaw05.TreadRoots'. -/
def treadRootsUptoCard : Claim7 := { stood := { row := treadRootsUptoRow, standIns := [], harness := (true, "907e629b9303000009246316ccf92f45ac3076a9a0cc933c6ad12ed2e033ed55"), looks := true }, kinds := [], alts := [], laidByText := true, laidKinds := [.data], laidTests := true, laidLooks := .later }
def TreadRootsUptoCardSaid : Prop := Claim7.holds Tryd.pinned (.plain (OpenSpec.upto treadRootsSpec)) treadRootsUptoCard

/-- THE SECOND FORM's CARD OF 'spindlelaw05.TreadFresh'. -/
def treadFreshUptoCard : Claim7 := { stood := { row := treadFreshUptoRow, standIns := [], harness := (true, "907e629b9303000009246316ccf92f45ac3076a9a0cc933c6ad12ed2e033ed55"), looks := true }, kinds := [], alts := [], laidByText := true, laidKinds := [.data], laidTests := true, laidLooks := .later }
def TreadFreshUptoCardSaid : Prop := Claim7.holds Tryd.pinned (.plain (OpenSpec.upto treadFreshSpec)) treadFreshUptoCard
end Rows
end Go.Proofs.YtdfeapjjgpdcoaaDoor
