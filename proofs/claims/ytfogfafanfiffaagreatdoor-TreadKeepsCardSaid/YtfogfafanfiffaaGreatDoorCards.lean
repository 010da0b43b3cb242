/-
  DERIVED. GIVEN WITH THE SEED: THE CARDS: each row of YtfogfafanfiffaaGreatDoorRows.lean that lists a variable, with what it lists TIED to the program's text (the seventh form; the later family's looks); each row that meets fmt, with fmt's text TOLD by the authors' own Lean function (tested against real Go, not proved from fmt's source: count such statements apart). THE CARD IS WHAT COUNTS. Prove the row's statement (the work); the ties are given (YtfogfafanfiffaaGreatDoorTie.lean); close each card by the builder's one call (the guide's Derived/Test/ToyasCard.lean, 'card_holds'). Laid BY PROGRAM, IN A SANDBOX (cutbox-door.mjs). By AI agents, Wed Nov 11 2026. No macro, syntax, notation, axiom, sorry.
-/
import Derived.Test.YtfogfafanfiffaaGreatDoorRows
import GoSem.ClaimSeven
namespace Go.Proofs.YtfogfafanfiffaaGreatDoor
namespace Rows

/-- THE TIED CARD OF 'spindlelaw05.TreadKeeps'. -/
def treadKeepsCard : Claim7 := { stood := { row := treadKeepsRow, standIns := [], harness := (true, "317c7bd61aefee8e5fbd7aa8499086bc20332bf19b62104b3b39e3b9cb161765"), looks := true }, kinds := [], alts := [], laidByText := true, laidKinds := [.data], laidTests := true, laidLooks := .later }
def TreadKeepsCardSaid : Prop := Claim7.holds Tryz.pinned (.plain (OpenSpec.ofChange treadKeepsSpec)) treadKeepsCard

/-- THE TIED CARD OF 'spindlelaw05.TreadFlip'. -/
def treadFlipCard : Claim7 := { stood := { row := treadFlipRow, standIns := [], harness := (true, "317c7bd61aefee8e5fbd7aa8499086bc20332bf19b62104b3b39e3b9cb161765"), looks := true }, kinds := [], alts := [], laidByText := true, laidKinds := [.data], laidTests := true, laidLooks := .later }
def TreadFlipCardSaid : Prop := Claim7.holds Tryz.pinned (.plain (OpenSpec.ofChange treadFlipSpec)) treadFlipCard

/-- THE TIED CARD OF 'spindlelaw05.TreadWeak'. -/
def treadWeakCard : Claim7 := { stood := { row := treadWeakRow, standIns := [], harness := (true, "317c7bd61aefee8e5fbd7aa8499086bc20332bf19b62104b3b39e3b9cb161765"), looks := true }, kinds := [], alts := [], laidByText := true, laidKinds := [.data], laidTests := true, laidLooks := .later }
def TreadWeakCardSaid : Prop := Claim7.holds Tryz.pinned (.plain (OpenSpec.ofChange treadWeakSpec)) treadWeakCard

/-- THE SECOND FORM's CARD OF 'spindlelaw05.TreadKeeps'. -/
def treadKeepsUptoCard : Claim7 := { stood := { row := treadKeepsUptoRow, standIns := [], harness := (true, "317c7bd61aefee8e5fbd7aa8499086bc20332bf19b62104b3b39e3b9cb161765"), looks := true }, kinds := [], alts := [], laidByText := true, laidKinds := [.data], laidTests := true, laidLooks := .later }
def TreadKeepsUptoCardSaid : Prop := Claim7.holds Tryz.pinned (.plain (OpenSpec.upto treadKeepsSpec)) treadKeepsUptoCard

/-- THE SECOND FORM's CARD OF 'spindlelaw05.TreadFlip'. -/
def treadFlipUptoCard : Claim7 := { stood := { row := treadFlipUptoRow, standIns := [], harness := (true, "317c7bd61aefee8e5fbd7aa8499086bc20332bf19b62104b3b39e3b9cb161765"), looks := true }, kinds := [], alts := [], laidByText := true, laidKinds := [.data], laidTests := true, laidLooks := .later }
def TreadFlipUptoCardSaid : Prop := Claim7.holds Tryz.pinned (.plain (OpenSpec.upto treadFlipSpec)) treadFlipUptoCard

/-- THE SECOND FORM's CARD OF 'spindlelaw05.TreadWeak'. -/
def treadWeakUptoCard : Claim7 := { stood := { row := treadWeakUptoRow, standIns := [], harness := (true, "317c7bd61aefee8e5fbd7aa8499086bc20332bf19b62104b3b39e3b9cb161765"), looks := true }, kinds := [], alts := [], laidByText := true, laidKinds := [.data], laidTests := true, laidLooks := .later }
def TreadWeakUptoCardSaid : Prop := Claim7.holds Tryz.pinned (.plain (OpenSpec.upto treadWeakSpec)) treadWeakUptoCard
end Rows
end Go.Proofs.YtfogfafanfiffaaGreatDoor
