/- Package term: Same. -/
import Derived.Test.YtpiekdcbjkgipaaGreatQ37
import Derived.Test.YtpiekdcbjkgipaaGreatQ27
import Derived.Deep.RegionHeld3
namespace Go.Proofs.YtpiekdcbjkgipaaGreat
open Go.ChangeShapes Go.WideShapes Go.ChangeAt Go.RowKit Go.Deep
open TM (Tl Tm)

set_option maxRecDepth 100000 in
theorem load_term (w : World) (ev : Operand → Value) (o : Oper) (x : Operand) (g : Nat) (c0 c1 c2 c3 c4 c5 c6 c7 c8 : Value) (ho : o.op = .load 28 x) (hx : ev x = .pointer (some ⟨g, 0, none⟩)) (h : Lies w g 28 [c0, c1, c2, c3, c4, c5, c6, c7, c8]) :
    (execOp ev o).run Tryz.prog w = .ok (.value (.agg #[c0, c1, c2, c3, c4, c5, c6, c7, c8])) w := by
  have x0 := h.cell 0
  have x1 := h.cell 1
  have x2 := h.cell 2
  have x3 := h.cell 3
  have x4 := h.cell 4
  have x5 := h.cell 5
  have x6 := h.cell 6
  have x7 := h.cell 7
  have x8 := h.cell 8
  simp only [List.getElem?_cons_succ, List.getElem?_cons_zero] at x0 x1 x2 x3 x4 x5 x6 x7 x8
  obtain ⟨d, op, ty, ps, af, gd⟩ := o
  simp only at ho
  subst ho
  clear h
  go_simp
end Go.Proofs.YtpiekdcbjkgipaaGreat
