/- The laws of layer 10, Same being what it is. -/
import Derived.Test.YtohelmhplofejaaGreatDoorQ43
import Derived.Test.YtohelmhplofejaaGreatDoorQ42
namespace Go.Proofs.YtohelmhplofejaaGreatDoor
open Go.RowKit
open TM (Tl Tm)

theorem same_as : SameAny := fun a b w u1 u2 u3 v1 v2 v3 h1 h2 b1 b2 => tsame_any a b w u1 u2 u3 v1 v2 v3 h1 h2 b1 b2
theorem termChecks_walk (t : Tm) (w : World) (vp vi vk : Value) (h : TmIn w t vp vi vk) (hB : TmBd t) (hT : Tab w) :
    Calls Tryz.prog 3 #[tmv t vp vi vk] w fun e w' => e = .returned (.bool true) ∧ Below w.heap.size w w' := termChecks_of same_as t w vp vi vk h hB hT
end Go.Proofs.YtohelmhplofejaaGreatDoor
