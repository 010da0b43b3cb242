/-
  DERIVED. GIVEN WITH THE SEED: THE CARDS: each row of YtbkjmmeipbbaaaaDoorRows.lean that lists a variable, with what it lists TIED to the program's text (the seventh form; the later family's looks); each row that meets fmt, with fmt's text TOLD by the authors' own Lean function (tested against real Go, not proved from fmt's source: count such statements apart). THE CARD IS WHAT COUNTS. Prove the row's statement (the work); the ties are given (YtbkjmmeipbbaaaaDoorTie.lean); close each card by the builder's one call (the guide's Derived/Test/ToyasCard.lean, 'card_holds'). Laid BY PROGRAM, IN A SANDBOX (cutbox-door.mjs). By AI agents, Wed Nov 11 2026. No macro, syntax, notation, axiom, sorry.
-/
import Derived.Test.YtbkjmmeipbbaaaaDoorRows
import GoSem.ClaimSeven
namespace Go.Proofs.YtbkjmmeipbbaaaaDoor
namespace Rows

/-- THE TIED CARD OF 'spindlelaw11.EnvAlias'. -/
def envAliasCard : Claim7 := { stood := { row := envAliasRow, standIns := [], harness := (true, "87e617316c07eb32416db8b236c249778bc4f7927352fbe5087585c10d7654e5"), looks := true }, kinds := [], alts := [], laidByText := true, laidKinds := [.data, .data, .data], laidTests := true, laidLooks := .later }
def EnvAliasCardSaid : Prop := Claim7.holds Tryd.pinned (.plain (OpenSpec.ofChange envAliasSpec)) envAliasCard

/-- THE TIED CARD OF 'spindlelaw11.EnvNil'. -/
def envNilCard : Claim7 := { stood := { row := envNilRow, standIns := [], harness := (true, "87e617316c07eb32416db8b236c249778bc4f7927352fbe5087585c10d7654e5"), looks := true }, kinds := [], alts := [], laidByText := true, laidKinds := [.data, .data, .data], laidTests := true, laidLooks := .later }
def EnvNilCardSaid : Prop := Claim7.holds Tryd.pinned (.plain (OpenSpec.ofChange envNilSpec)) envNilCard

/-- THE TIED CARD OF 'spindlelaw11.EnvDeep'. -/
def envDeepCard : Claim7 := { stood := { row := envDeepRow, standIns := [], harness := (true, "87e617316c07eb32416db8b236c249778bc4f7927352fbe5087585c10d7654e5"), looks := true }, kinds := [], alts := [], laidByText := true, laidKinds := [.data, .data, .data], laidTests := true, laidLooks := .later }
def EnvDeepCardSaid : Prop := Claim7.holds Tryd.pinned (.plain (OpenSpec.ofChange envDeepSpec)) envDeepCard

/-- THE SECOND FORM's CARD OF 'spindlelaw11.EnvAlias'. -/
def envAliasUptoCard : Claim7 := { stood := { row := envAliasUptoRow, standIns := [], harness := (true, "87e617316c07eb32416db8b236c249778bc4f7927352fbe5087585c10d7654e5"), looks := true }, kinds := [], alts := [], laidByText := true, laidKinds := [.data, .data, .data], laidTests := true, laidLooks := .later }
def EnvAliasUptoCardSaid : Prop := Claim7.holds Tryd.pinned (.plain (OpenSpec.upto envAliasSpec)) envAliasUptoCard

/-- THE SECOND FORM's CARD OF 'spindlelaw11.EnvNil'. -/
def envNilUptoCard : Claim7 := { stood := { row := envNilUptoRow, standIns := [], harness := (true, "87e617316c07eb32416db8b236c249778bc4f7927352fbe5087585c10d7654e5"), looks := true }, kinds := [], alts := [], laidByText := true, laidKinds := [.data, .data, .data], laidTests := true, laidLooks := .later }
def EnvNilUptoCardSaid : Prop := Claim7.holds Tryd.pinned (.plain (OpenSpec.upto envNilSpec)) envNilUptoCard

/-- THE SECOND FORM's CARD OF 'spindlelaw11.EnvDeep'. -/
def envDeepUptoCard : Claim7 := { stood := { row := envDeepUptoRow, standIns := [], harness := (true, "87e617316c07eb32416db8b236c249778bc4f7927352fbe5087585c10d7654e5"), looks := true }, kinds := [], alts := [], laidByText := true, laidKinds := [.data, .data, .data], laidTests := true, laidLooks := .later }
def EnvDeepUptoCardSaid : Prop := Claim7.holds Tryd.pinned (.plain (OpenSpec.upto envDeepSpec)) envDeepUptoCard
end Rows
end Go.Proofs.YtbkjmmeipbbaaaaDoor
