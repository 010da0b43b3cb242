/-
  DERIVED. GIVEN WITH THE SEED: THE CARDS: each row of YtpiekdcbjkgipaaGreatDoorRows.lean that lists a variable, with what it lists TIED to the program's text (the seventh form; the later family's looks); each row that meets fmt, with fmt's text TOLD by the authors' own Lean function (tested against real Go, not proved from fmt's source: count such statements apart). THE CARD IS WHAT COUNTS. Prove the row's statement (the work); the ties are given (YtpiekdcbjkgipaaGreatDoorTie.lean); close each card by the builder's one call (the guide's Derived/Test/ToyasCard.lean, 'card_holds'). Laid BY PROGRAM, IN A SANDBOX (cutbox-door.mjs). By AI agents, Wed Nov 11 2026. No macro, syntax, notation, axiom, sorry.
-/
import Derived.Test.YtpiekdcbjkgipaaGreatDoorRows
import GoSem.ClaimSeven
namespace Go.Proofs.YtpiekdcbjkgipaaGreatDoor
namespace Rows

/-- THE TIED CARD OF 'spindlelaw10.TermChecks'. -/
def termChecksCard : Claim7 := { stood := { row := termChecksRow, standIns := [], harness := (true, "87e1e8981912f6f0ca570a76a7f928f7b3d3258809ada536517283d6dec8bb60"), looks := true }, kinds := [], alts := [], laidByText := true, laidKinds := [.data, .data, .data], laidTests := true, laidLooks := .later }
def TermChecksCardSaid : Prop := Claim7.holds Tryz.pinned (.plain (OpenSpec.ofChange termChecksSpec)) termChecksCard

/-- THE TIED CARD OF 'spindlelaw10.TermAlphas'. -/
def termAlphasCard : Claim7 := { stood := { row := termAlphasRow, standIns := [], harness := (true, "87e1e8981912f6f0ca570a76a7f928f7b3d3258809ada536517283d6dec8bb60"), looks := true }, kinds := [], alts := [], laidByText := true, laidKinds := [.data, .data, .data], laidTests := true, laidLooks := .later }
def TermAlphasCardSaid : Prop := Claim7.holds Tryz.pinned (.plain (OpenSpec.ofChange termAlphasSpec)) termAlphasCard

/-- THE TIED CARD OF 'spindlelaw10.TermSame'. -/
def termSameCard : Claim7 := { stood := { row := termSameRow, standIns := [], harness := (true, "87e1e8981912f6f0ca570a76a7f928f7b3d3258809ada536517283d6dec8bb60"), looks := true }, kinds := [], alts := [], laidByText := true, laidKinds := [.data, .data, .data], laidTests := true, laidLooks := .later }
def TermSameCardSaid : Prop := Claim7.holds Tryz.pinned (.plain (OpenSpec.ofChange termSameSpec)) termSameCard

/-- THE TIED CARD OF 'spindlelaw10.TermParts'. -/
def termPartsCard : Claim7 := { stood := { row := termPartsRow, standIns := [], harness := (true, "87e1e8981912f6f0ca570a76a7f928f7b3d3258809ada536517283d6dec8bb60"), looks := true }, kinds := [], alts := [], laidByText := true, laidKinds := [.data, .data, .data], laidTests := true, laidLooks := .later }
def TermPartsCardSaid : Prop := Claim7.holds Tryz.pinned (.plain (OpenSpec.ofChange termPartsSpec)) termPartsCard

/-- THE SECOND FORM's CARD OF 'spindlelaw10.TermChecks'. -/
def termChecksUptoCard : Claim7 := { stood := { row := termChecksUptoRow, standIns := [], harness := (true, "87e1e8981912f6f0ca570a76a7f928f7b3d3258809ada536517283d6dec8bb60"), looks := true }, kinds := [], alts := [], laidByText := true, laidKinds := [.data, .data, .data], laidTests := true, laidLooks := .later }
def TermChecksUptoCardSaid : Prop := Claim7.holds Tryz.pinned (.plain (OpenSpec.upto termChecksSpec)) termChecksUptoCard

/-- THE SECOND FORM's CARD OF 'spindlelaw10.TermAlphas'. -/
def termAlphasUptoCard : Claim7 := { stood := { row := termAlphasUptoRow, standIns := [], harness := (true, "87e1e8981912f6f0ca570a76a7f928f7b3d3258809ada536517283d6dec8bb60"), looks := true }, kinds := [], alts := [], laidByText := true, laidKinds := [.data, .data, .data], laidTests := true, laidLooks := .later }
def TermAlphasUptoCardSaid : Prop := Claim7.holds Tryz.pinned (.plain (OpenSpec.upto termAlphasSpec)) termAlphasUptoCard

/-- THE SECOND FORM's CARD OF 'spindlelaw10.TermSame'. -/
def termSameUptoCard : Claim7 := { stood := { row := termSameUptoRow, standIns := [], harness := (true, "87e1e8981912f6f0ca570a76a7f928f7b3d3258809ada536517283d6dec8bb60"), looks := true }, kinds := [], alts := [], laidByText := true, laidKinds := [.data, .data, .data], laidTests := true, laidLooks := .later }
def TermSameUptoCardSaid : Prop := Claim7.holds Tryz.pinned (.plain (OpenSpec.upto termSameSpec)) termSameUptoCard

/-- THE SECOND FORM's CARD OF 'spindlelaw10.TermParts'. -/
def termPartsUptoCard : Claim7 := { stood := { row := termPartsUptoRow, standIns := [], harness := (true, "87e1e8981912f6f0ca570a76a7f928f7b3d3258809ada536517283d6dec8bb60"), looks := true }, kinds := [], alts := [], laidByText := true, laidKinds := [.data, .data, .data], laidTests := true, laidLooks := .later }
def TermPartsUptoCardSaid : Prop := Claim7.holds Tryz.pinned (.plain (OpenSpec.upto termPartsSpec)) termPartsUptoCard
end Rows
end Go.Proofs.YtpiekdcbjkgipaaGreatDoor
