/- What package read finds right: fields, kinds, parts, and the whole. -/
import Derived.Test.YtbomodendobnkaaGreatQ7
import Derived.Test.YtbomodendobnkaaGreatQ23
import Derived.Test.YtbomodendobnkaaGreatQ27
namespace Go.Proofs.YtbomodendobnkaaGreat
open Go.ChangeShapes Go.WideShapes Go.ChangeAt Go.RowKit

namespace SM
def nm (k n : Int) : Bool := if k = 1 then decide (-1152921504606846976 ≤ n ∧ n ≤ 1152921504606846975) else if k = 2 then decide (n = 0 ∨ n = 1) else decide (0 ≤ n ∧ n ≤ 255)
def tx (k : Int) (s : List UInt8) : Bool := if k = 5 then LM.sym s else decide (s.length ≤ 500)
def dt (is : RM.Dl) : Bool := decide (2 ≤ is.len) && decide (lastk is ≠ 6 ∧ lastk is ≠ 7)
/-- all of a row are right, and not too deep, the row being so many within others -/
def rt (D : Int) (d : RM.Dl) : Bool := decide ((hi d : Int) + D ≤ 64) && rgt d
def ro (D : Int) (x : RM.Dm) : Bool := kd x.k x.n x.s x.is && rt D x.is
theorem rt_at {D : Int} {d : RM.Dl} {i : Nat} {x : RM.Dm} (h : d.at_ i = some x) : rt D (dr d i) = (ro (D + 1) x && rt D (dr d (i + 1))) := by
  unfold rt ro
  rw [hi_at h, dr_at d i x h]
  show (decide _ && (kd x.k x.n x.s x.is && rgt x.is && rgt (dr d (i + 1)))) = _
  unfold rt
  cases kd x.k x.n x.s x.is <;> cases rgt x.is <;> cases rgt (dr d (i + 1)) <;> simp
  rw [← Bool.decide_and]
  congr 1
  simp only [eq_iff_iff]
  omega
theorem rt_end (D : Int) : rt D .nil = decide (D ≤ 64) := by simp [rt, rgt, hi]
end SM
theorem sym_any (S : ByteArray) (w : World) :
    Calls Tryz.prog 71 #[.string S] w fun e w' => e = .returned (.bool (LM.sym S.data.toList)) ∧ w = w' := by
  by_cases h2 : 60 < S.size
  · obtain ⟨e1, e3⟩ := empty_no (s := S) (by omega)
    rw [sym_short (.inr (.inl h2))]
    go_enter Tryz.func71, Tryz.ntmps71
    go_wp2
    go_ret
    exact ⟨rfl, rfl⟩
  · exact Symbol_any S (by omega) w
section
variable (k n : Int) (S : ByteArray) (A : Option Addr) (N c : Nat) (w : World)
theorem went_box (vs : Array Value) (t : TypeId) : Went w (w.alloc (.cells vs t)) := (Below.refl _ w).alloc (Nat.le_refl _) _
end
end Go.Proofs.YtbomodendobnkaaGreat
