/- Package datum's Copy, as package term calls it (481802b9; before that term had a function of its own: XTermCopyOld). -/
import Derived.Test.YtpiekdcbjkgipaaQ29
import Derived.Test.YtpiekdcbjkgipaaQ36
import Derived.Deep.RegionWith
namespace Go.Proofs.Ytpiekdcbjkgipaa
open Go.ChangeShapes Go.WideShapes Go.ChangeAt Go.RowKit Go.Deep

def CpN (x : RM.Dm) (w : World) (e : Ending) (w' : World) : Prop := ∃ v', e = .returned (dtv x v') ∧ Dat w' (fun g => w.heap.size ≤ g) v' x.is ∧ Went w w'
theorem copied_any (x : RM.Dm) (w : World) (v : Value) (h : In w v x.is) (hs : SM.sz x.is ≤ 5000) : Calls Try.prog 30 #[dtv x v] w (CpN x w) := copy_any x w v h hs
end Go.Proofs.Ytpiekdcbjkgipaa
