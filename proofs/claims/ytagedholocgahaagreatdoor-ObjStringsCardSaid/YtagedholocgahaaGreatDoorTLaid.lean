/- What the rows' list of the table of sizes gives a walk, and a world that meets it. -/
import Derived.Test.YtagedholocgahaaGreatDoorRows
import Derived.Test.YtagedholocgahaaGreatDoorTie
import Derived.Test.YtagedholocgahaaGreatDoorCards
import Derived.Test.YtagedholocgahaaGreatDoorTHeap
import Derived.Test.YtagedholocgahaaGreatDoorLaw
import Derived.LaidSub
import Derived.Deep.DeepHandedRow
import Derived.Lib.LaidTab
namespace Go.Proofs.YtagedholocgahaaGreatDoor
open Go.ChangeShapes Go.WideShapes Go.ChangeAt Go.RowKit

theorem gTab : Tryz.prog.globalNamed "spindle/tread.sizes" = some 0 := by kernel_rfl
theorem gTabType : (Tryz.prog.globals[0]?).map (·.type) = some 22 := by kernel_rfl
theorem cellsTab : Tryz.prog.cellsOf 22 = 4 := by kernel_rfl
theorem cellsInt : Tryz.prog.cellsOf 3 = 1 := by kernel_rfl

/-- The list that each row of this seat bears. -/
def laidList : List (String × DataW Unit) := [("spindle/tread.sizes", Rows.laid_spindle_tread_sizes)]
/-- What the list gives: the table stands. -/
theorem table {W : World} (h : laidMetH Tryz.prog laidList W) : Tab W := by
  have h1 : laidMetH Tryz.prog [("spindle/tread.sizes", Lib.tabData .i64 [3, 7, 31, 127])] W := h
  have h2 := Lib.tabIs_of_head (rest := []) gTab gTabType Tryz.underlying22 Tryz.underlying3 cellsInt cellsTab h1
  have c := fun i hi => h2.cell gTab i hi
  have c0 := c 0 (by decide)
  refine ⟨World.block_lt_of_cell? W _ c0, fun i hi => ?_⟩
  rcases lt4 hi with rfl | rfl | rfl | rfl
  · exact c0
  · exact c 1 (by decide)
  · exact c 2 (by decide)
  · exact c 3 (by decide)

/-- the table's cells, filled -/
def filled (zs : List Value) : Obj → Obj
  | .cells _ t frozen => .cells zs.toArray t frozen
  | o => o
/-- A world for the witness: the settled one, the table holding what its initialiser lays. -/
noncomputable def laidWorld (os : Os) : World :=
  { World.holding Tryz.prog os ⟨#[], #[], []⟩ with heap := (World.holding Tryz.prog os ⟨#[], #[], []⟩).heap.modify 0 (filled [.int .i64 3, .int .i64 7, .int .i64 31, .int .i64 127]) }
theorem laid_met (os : Os) (args : Array Value) : laidMet Tryz.prog laidList ((laidWorld os).forCall (fun _ _ => 0) ⟨#[], args, []⟩).memory :=
  laidMet_of_run' 8 (by kernel_rfl) (by kernel_rfl)
end Go.Proofs.YtagedholocgahaaGreatDoor
