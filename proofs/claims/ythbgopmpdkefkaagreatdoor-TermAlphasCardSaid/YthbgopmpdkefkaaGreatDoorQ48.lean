/- The law TermChecks, walked. -/
import Derived.Test.YthbgopmpdkefkaaGreatDoorQ42
import Derived.Test.YthbgopmpdkefkaaGreatDoorQ47
import Derived.Test.YthbgopmpdkefkaaGreatDoorQ34
import Derived.Test.YthbgopmpdkefkaaGreatDoorQ30
import Derived.Test.YthbgopmpdkefkaaGreatDoorQ6
import Derived.Deep.RegionHeld3
import Derived.Test.YthbgopmpdkefkaaGreatDoorQ36
namespace Go.Proofs.YthbgopmpdkefkaaGreatDoor
open Go.ChangeShapes Go.WideShapes Go.ChangeAt Go.RowKit Go.Deep
open TM (Tl Tm)

theorem smt_facts {t : Tm} (h : TM.smt t = true) : TM.sd1 t = true ∧ TM.sz t.ks + 1 < 5000 ∧ (t.ps ++ TM.prs t.ks).length ≤ 1000000 := by
  have h2 := TM.smt_prs h
  simp only [TM.smt, Bool.and_eq_true, decide_eq_true_eq] at h
  exact ⟨h.2, h.1.2, h2⟩
end Go.Proofs.YthbgopmpdkefkaaGreatDoor
