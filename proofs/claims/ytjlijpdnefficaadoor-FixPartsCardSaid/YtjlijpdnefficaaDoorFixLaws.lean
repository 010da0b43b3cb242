/- The first laws of layer 2, walked: sums and divisions against the document's own. -/
import Derived.Test.YtjlijpdnefficaaDoorFixRefB
import Derived.Test.YtjlijpdnefficaaDoorFixAwake
namespace Go.Proofs.YtjlijpdnefficaaDoor
open Go.ChangeShapes Go.WideShapes Go.ChangeAt Go.RowKit

set_option maxHeartbeats 1000000 in
theorem fixSums_walk (a b : Int) (w : World) (ht : Tab w) :
    Calls Tryd.prog 3 #[.int .i64 a, .int .i64 b] w fun e w' => e = .returned (.bool true) ∧ Went w w' := by
  go_enter Tryd.func3, Tryd.ntmps3
  go_wp2_with (first
    | (go_at_call 12; (with_reducible refine (add_any _ _ _).mono ?_); rintro e w' ⟨rfl, rfl⟩; unfold ans)
    | (go_at_call 14; (with_reducible refine (sub_any _ _ _).mono ?_); rintro e w' ⟨rfl, rfl⟩; unfold ans)
    | (go_at_call 16; (with_reducible refine (mul_any _ _ _).mono ?_); rintro e w' ⟨rfl, rfl⟩; unfold ans)
    | (go_at_call 13; (with_reducible refine (radd_any _ _ _).mono ?_); rintro e w' ⟨rfl, rfl⟩; unfold two)
    | (go_at_call 15; (with_reducible refine (rsub_any _ _ _).mono ?_); rintro e w' ⟨rfl, rfl⟩; unfold two)
    | (go_at_call 17; (with_reducible refine (rmul_any _ _ _).mono ?_); rintro e w' ⟨rfl, rfl⟩; unfold two)
    | (go_at_call 18; (with_reducible refine (awake_any _ ht).mono ?_); rintro e w1 ⟨rfl, hw⟩)
    | (go_at_call 19; (with_reducible refine (says_any _ (fair_add _ _) _).mono ?_); rintro e w' ⟨rfl, rfl⟩)
    | (go_at_call 19; (with_reducible refine (says_any _ (fair_sub _ _) _).mono ?_); rintro e w' ⟨rfl, rfl⟩)
    | (go_at_call 19; (with_reducible refine (says_any _ (fair_mul _ _) _).mono ?_); rintro e w' ⟨rfl, rfl⟩))
  go_ret
  exact ⟨rfl, hw⟩

set_option maxHeartbeats 1000000 in
theorem fixParts_walk (a b : Int) (w : World) (ht : Tab w) :
    Calls Tryd.prog 4 #[.int .i64 a, .int .i64 b] w fun e w' => e = .returned (.bool true) ∧ Went w w' := by
  go_enter Tryd.func4, Tryd.ntmps4
  go_wp2_with (first
    | (go_at_call 20; (with_reducible refine (quo_any _ _ _).mono ?_); rintro e w' ⟨rfl, rfl⟩; unfold ans)
    | (go_at_call 22; (with_reducible refine (rem_any _ _ _).mono ?_); rintro e w' ⟨rfl, rfl⟩; unfold ans)
    | (go_at_call 24; (with_reducible refine (mod_any _ _ _).mono ?_); rintro e w' ⟨rfl, rfl⟩; unfold ans)
    | (go_at_call 21; (with_reducible refine (rquo_any _ _ _).mono ?_); rintro e w' ⟨rfl, rfl⟩; unfold two)
    | (go_at_call 23; (with_reducible refine (rrem_any _ _ _).mono ?_); rintro e w' ⟨rfl, rfl⟩; unfold two)
    | (go_at_call 25; (with_reducible refine (rmod_any _ _ _).mono ?_); rintro e w' ⟨rfl, rfl⟩; unfold two)
    | (go_at_call 18; (with_reducible refine (awake_any _ ht).mono ?_); rintro e w1 ⟨rfl, hw⟩)
    | (go_at_call 19; (with_reducible refine (says_any _ (fair_quo _ _) _).mono ?_); rintro e w' ⟨rfl, rfl⟩)
    | (go_at_call 19; (with_reducible refine (says_any _ (fair_rem _ _) _).mono ?_); rintro e w' ⟨rfl, rfl⟩)
    | (go_at_call 19; (with_reducible refine (says_any _ (fair_mod _ _) _).mono ?_); rintro e w' ⟨rfl, rfl⟩))
  go_ret
  exact ⟨rfl, hw⟩
end Go.Proofs.YtjlijpdnefficaaDoor
