/- What every row's world gives: the library's word MaxLen holds some number. -/
import Derived.Test.YtbkjmmeipbbaaaaDoorEnvCallsC
import Derived.Shelf.Vars
namespace Go.Proofs.YtbkjmmeipbbaaaaDoor
theorem mtab_of {W : World} (h : W.ShapedOpen Tryd.prog) : MTab W :=
  cell_of_shapedOpen_int (g := 0) (t := 3) (zero := #[.int .i64 0]) h (of_decide_eq_true (by kernel_rfl)) (by kernel_rfl) rfl (by kernel_rfl) (by kernel_rfl) Tryd.underlying3
end Go.Proofs.YtbkjmmeipbbaaaaDoor
