/- The law's shifted: a term whose locals are counted down, in its place. -/
import Derived.Test.YthbgopmpdkefkaaGreatDoorQ30
import Derived.Test.YthbgopmpdkefkaaGreatDoorQ39
import Derived.Test.YthbgopmpdkefkaaGreatDoorQ36
import Derived.Deep.Cut
import Derived.Deep.CutRange
import Derived.Deep.CutBlock
namespace Go.Proofs.YthbgopmpdkefkaaGreatDoor
open Go.ChangeShapes Go.WideShapes Go.ChangeAt Go.RowKit Go.Deep
open TM (Tl Tm)

namespace TM
end TM
end Go.Proofs.YthbgopmpdkefkaaGreatDoor
