/-
  DERIVED. GIVEN WITH THE SEED: THE CARDS: each row of YtagedholocgahaaGreatDoorRows.lean that lists a variable, with what it lists TIED to the program's text (the seventh form; the later family's looks); each row that meets fmt, with fmt's text TOLD by the authors' own Lean function (tested against real Go, not proved from fmt's source: count such statements apart). THE CARD IS WHAT COUNTS. Prove the row's statement (the work); the ties are given (YtagedholocgahaaGreatDoorTie.lean); close each card by the builder's one call (the guide's Derived/Test/ToyasCard.lean, 'card_holds'). Laid BY PROGRAM, IN A SANDBOX (cutbox-door.mjs). By AI agents, Wed Nov 11 2026. No macro, syntax, notation, axiom, sorry.
-/
import Derived.Test.YtagedholocgahaaGreatDoorRows
import GoSem.ClaimSeven
namespace Go.Proofs.YtagedholocgahaaGreatDoor
namespace Rows

/-- THE TIED CARD OF 'spindlelaw05.TreadKeeps'. -/
def treadKeepsCard : Claim7 := { stood := { row := treadKeepsRow, standIns := [], harness := (true, "b9f4c15ad754a946f00ecd4d6fdc47be75cf61c52aaa27c60b7d6828a8b76f32"), looks := true }, kinds := [], alts := [], laidByText := true, laidKinds := [.data], laidTests := true, laidLooks := .later }
def TreadKeepsCardSaid : Prop := Claim7.holds Tryz.pinned (.plain (OpenSpec.ofChange treadKeepsSpec)) treadKeepsCard

/-- THE TIED CARD OF 'spindlelaw05.TreadFlip'. -/
def treadFlipCard : Claim7 := { stood := { row := treadFlipRow, standIns := [], harness := (true, "b9f4c15ad754a946f00ecd4d6fdc47be75cf61c52aaa27c60b7d6828a8b76f32"), looks := true }, kinds := [], alts := [], laidByText := true, laidKinds := [.data], laidTests := true, laidLooks := .later }
def TreadFlipCardSaid : Prop := Claim7.holds Tryz.pinned (.plain (OpenSpec.ofChange treadFlipSpec)) treadFlipCard

/-- THE TIED CARD OF 'spindlelaw05.TreadWeak'. -/
def treadWeakCard : Claim7 := { stood := { row := treadWeakRow, standIns := [], harness := (true, "b9f4c15ad754a946f00ecd4d6fdc47be75cf61c52aaa27c60b7d6828a8b76f32"), looks := true }, kinds := [], alts := [], laidByText := true, laidKinds := [.data], laidTests := true, laidLooks := .later }
def TreadWeakCardSaid : Prop := Claim7.holds Tryz.pinned (.plain (OpenSpec.ofChange treadWeakSpec)) treadWeakCard

/-- THE TIED CARD OF 'spindlelaw06.ObjFields'. -/
def objFieldsCard : Claim7 := { stood := { row := objFieldsRow, standIns := [], harness := (true, "b9f4c15ad754a946f00ecd4d6fdc47be75cf61c52aaa27c60b7d6828a8b76f32"), looks := true }, kinds := [], alts := [], laidByText := true, laidKinds := [.data], laidTests := true, laidLooks := .later }
def ObjFieldsCardSaid : Prop := Claim7.holds Tryz.pinned (.plain (OpenSpec.ofChange objFieldsSpec)) objFieldsCard

/-- THE TIED CARD OF 'spindlelaw06.ObjStrings'. -/
def objStringsCard : Claim7 := { stood := { row := objStringsRow, standIns := [], harness := (true, "b9f4c15ad754a946f00ecd4d6fdc47be75cf61c52aaa27c60b7d6828a8b76f32"), looks := true }, kinds := [], alts := [], laidByText := true, laidKinds := [.data], laidTests := true, laidLooks := .later }
def ObjStringsCardSaid : Prop := Claim7.holds Tryz.pinned (.plain (OpenSpec.ofChange objStringsSpec)) objStringsCard

/-- THE TIED CARD OF 'spindlelaw06.ObjFill'. -/
def objFillCard : Claim7 := { stood := { row := objFillRow, standIns := [], harness := (true, "b9f4c15ad754a946f00ecd4d6fdc47be75cf61c52aaa27c60b7d6828a8b76f32"), looks := true }, kinds := [], alts := [], laidByText := true, laidKinds := [.data], laidTests := true, laidLooks := .later }
def ObjFillCardSaid : Prop := Claim7.holds Tryz.pinned (.plain (OpenSpec.ofChange objFillSpec)) objFillCard

/-- THE TIED CARD OF 'spindlelaw06.ObjKept'. -/
def objKeptCard : Claim7 := { stood := { row := objKeptRow, standIns := [], harness := (true, "b9f4c15ad754a946f00ecd4d6fdc47be75cf61c52aaa27c60b7d6828a8b76f32"), looks := true }, kinds := [], alts := [], laidByText := true, laidKinds := [.data], laidTests := true, laidLooks := .later }
def ObjKeptCardSaid : Prop := Claim7.holds Tryz.pinned (.plain (OpenSpec.ofChange objKeptSpec)) objKeptCard

/-- THE SECOND FORM's CARD OF 'spindlelaw05.TreadKeeps'. -/
def treadKeepsUptoCard : Claim7 := { stood := { row := treadKeepsUptoRow, standIns := [], harness := (true, "b9f4c15ad754a946f00ecd4d6fdc47be75cf61c52aaa27c60b7d6828a8b76f32"), looks := true }, kinds := [], alts := [], laidByText := true, laidKinds := [.data], laidTests := true, laidLooks := .later }
def TreadKeepsUptoCardSaid : Prop := Claim7.holds Tryz.pinned (.plain (OpenSpec.upto treadKeepsSpec)) treadKeepsUptoCard

/-- THE SECOND FORM's CARD OF 'spindlelaw05.TreadFlip'. -/
def treadFlipUptoCard : Claim7 := { stood := { row := treadFlipUptoRow, standIns := [], harness := (true, "b9f4c15ad754a946f00ecd4d6fdc47be75cf61c52aaa27c60b7d6828a8b76f32"), looks := true }, kinds := [], alts := [], laidByText := true, laidKinds := [.data], laidTests := true, laidLooks := .later }
def TreadFlipUptoCardSaid : Prop := Claim7.holds Tryz.pinned (.plain (OpenSpec.upto treadFlipSpec)) treadFlipUptoCard

/-- THE SECOND FORM's CARD OF 'spindlelaw05.TreadWeak'. -/
def treadWeakUptoCard : Claim7 := { stood := { row := treadWeakUptoRow, standIns := [], harness := (true, "b9f4c15ad754a946f00ecd4d6fdc47be75cf61c52aaa27c60b7d6828a8b76f32"), looks := true }, kinds := [], alts := [], laidByText := true, laidKinds := [.data], laidTests := true, laidLooks := .later }
def TreadWeakUptoCardSaid : Prop := Claim7.holds Tryz.pinned (.plain (OpenSpec.upto treadWeakSpec)) treadWeakUptoCard

/-- THE SECOND FORM's CARD OF 'spindlelaw06.ObjFields'. -/
def objFieldsUptoCard : Claim7 := { stood := { row := objFieldsUptoRow, standIns := [], harness := (true, "b9f4c15ad754a946f00ecd4d6fdc47be75cf61c52aaa27c60b7d6828a8b76f32"), looks := true }, kinds := [], alts := [], laidByText := true, laidKinds := [.data], laidTests := true, laidLooks := .later }
def ObjFieldsUptoCardSaid : Prop := Claim7.holds Tryz.pinned (.plain (OpenSpec.upto objFieldsSpec)) objFieldsUptoCard

/-- THE SECOND FORM's CARD OF 'spindlelaw06.ObjStrings'. -/
def objStringsUptoCard : Claim7 := { stood := { row := objStringsUptoRow, standIns := [], harness := (true, "b9f4c15ad754a946f00ecd4d6fdc47be75cf61c52aaa27c60b7d6828a8b76f32"), looks := true }, kinds := [], alts := [], laidByText := true, laidKinds := [.data], laidTests := true, laidLooks := .later }
def ObjStringsUptoCardSaid : Prop := Claim7.holds Tryz.pinned (.plain (OpenSpec.upto objStringsSpec)) objStringsUptoCard

/-- THE SECOND FORM's CARD OF 'spindlelaw06.ObjFill'. -/
def objFillUptoCard : Claim7 := { stood := { row := objFillUptoRow, standIns := [], harness := (true, "b9f4c15ad754a946f00ecd4d6fdc47be75cf61c52aaa27c60b7d6828a8b76f32"), looks := true }, kinds := [], alts := [], laidByText := true, laidKinds := [.data], laidTests := true, laidLooks := .later }
def ObjFillUptoCardSaid : Prop := Claim7.holds Tryz.pinned (.plain (OpenSpec.upto objFillSpec)) objFillUptoCard

/-- THE SECOND FORM's CARD OF 'spindlelaw06.ObjKept'. -/
def objKeptUptoCard : Claim7 := { stood := { row := objKeptUptoRow, standIns := [], harness := (true, "b9f4c15ad754a946f00ecd4d6fdc47be75cf61c52aaa27c60b7d6828a8b76f32"), looks := true }, kinds := [], alts := [], laidByText := true, laidKinds := [.data], laidTests := true, laidLooks := .later }
def ObjKeptUptoCardSaid : Prop := Claim7.holds Tryz.pinned (.plain (OpenSpec.upto objKeptSpec)) objKeptUptoCard
end Rows
end Go.Proofs.YtagedholocgahaaGreatDoor
