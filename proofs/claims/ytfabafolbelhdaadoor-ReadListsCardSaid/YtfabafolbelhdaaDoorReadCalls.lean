/- What the small functions of package read give: what is wrong at a token, what a mark stands for, a token's kind, joined lists. -/
import Derived.Test.YtfabafolbelhdaaDoorReadNextB
import Derived.Test.YtfabafolbelhdaaDoorOwnD
import Derived.Deep.RegionLaw
namespace Go.Proofs.YtfabafolbelhdaaDoor
open Go.ChangeShapes Go.WideShapes Go.ChangeAt Go.RowKit

def dt0 : Value := .agg #[.int .i64 0, .int .i64 0, .string ⟨#[]⟩, .slice none 0 0]
/-- an error's kind with its place -/
def ekv (e : Int × Int × Int) : Value := .iface 58 (.agg #[.int .i64 e.2.1, .int .i64 e.2.2, .iface 48 (.int .i64 e.1)])

set_option maxRecDepth 100000 in
set_option maxHeartbeats 2000000 in
theorem fault_any (X : LM.Nx) (n : Nat) (x : Int) (w : World) :
    Calls Tryd.prog 26 #[tka6 X n, .iface 48 (.int .i64 x)] w fun e w' => e = .returned (.tuple #[dt0, ekv (x, X.line, X.col)]) ∧ Went w w' := by
  unfold tka6 dt0 ekv
  go_enter Tryd.func26, Tryd.ntmps26
  go_wp2_with fail
  go_region_with (fail)
  all_goals
    go_wp2_with fail
    exact bodyPost_ret (v := .tuple #[.agg #[.int .i64 0, .int .i64 0, .string ⟨#[]⟩, .slice none 0 0], .iface 58 (.agg #[.int .i64 X.line, .int .i64 X.col, .iface 48 (.int .i64 x)])]) (by simp [results, Tryd.results26, go_sem]) rfl ⟨rfl, below_drewN (((Below.refl _ w).alloc (Nat.le_refl _) _).alloc (by simp) _) 1⟩

theorem kindOf_any (X : LM.Nx) (n : Nat) (w : World) :
    Calls Tryd.prog 29 #[tka6 X n] w fun e w' => e = .returned (.int .i64 (RM.kof X.t.k)) ∧ Went w w' := by
  unfold tka6
  generalize X.t.k = k
  unfold RM.kof
  have hb : ∀ v, Went w (w.alloc (.cells v 44)) := fun v => (Below.refl _ w).alloc (Nat.le_refl _) _
  by_cases h9 : k = 9
  · subst h9
    go_enter Tryd.func29, Tryd.ntmps29
    go_wp2_with fail
    go_ret
    exact ⟨rfl, hb _⟩
  by_cases h10 : k = 10
  · subst h10
    go_enter Tryd.func29, Tryd.ntmps29
    go_wp2_with fail
    go_ret
    exact ⟨rfl, hb _⟩
  by_cases h11 : k = 11
  · subst h11
    go_enter Tryd.func29, Tryd.ntmps29
    go_wp2_with fail
    go_ret
    exact ⟨rfl, hb _⟩
  by_cases h12 : k = 12
  · subst h12
    go_enter Tryd.func29, Tryd.ntmps29
    go_wp2_with fail
    go_ret
    exact ⟨rfl, hb _⟩
  rw [if_neg h9, if_neg h10, if_neg h11, if_neg h12]
  have e9 : (k == 9) = false := by simp [h9]
  have e10 : (k == 10) = false := by simp [h10]
  have e11 : (k == 11) = false := by simp [h11]
  have e12 : (k == 12) = false := by simp [h12]
  clear h9 h10 h11 h12
  go_enter Tryd.func29, Tryd.ntmps29
  go_wp2_with fail
  go_ret
  exact ⟨rfl, hb _⟩

theorem nameOf_any (X : LM.Nx) (n : Nat) (w : World) :
    Calls Tryd.prog 42 #[tka6 X n] w fun e w' => e = .returned (.string ⟨(RM.mnm X.t.k).toArray⟩) ∧ Went w w' := by
  unfold tka6
  generalize X.t.k = k
  unfold RM.mnm
  have hb : ∀ v, Went w (w.alloc (.cells v 44)) := fun v => (Below.refl _ w).alloc (Nat.le_refl _) _
  by_cases h9 : k = 5
  · subst h9
    go_enter Tryd.func42, Tryd.ntmps42
    go_wp2_with fail
    go_ret
    exact ⟨rfl, hb _⟩
  by_cases h10 : k = 6
  · subst h10
    go_enter Tryd.func42, Tryd.ntmps42
    go_wp2_with fail
    go_ret
    exact ⟨rfl, hb _⟩
  by_cases h11 : k = 7
  · subst h11
    go_enter Tryd.func42, Tryd.ntmps42
    go_wp2_with fail
    go_ret
    exact ⟨rfl, hb _⟩
  rw [if_neg h9, if_neg h10, if_neg h11]
  have e9 : (k == 5) = false := by simp [h9]
  have e10 : (k == 6) = false := by simp [h10]
  have e11 : (k == 7) = false := by simp [h11]
  clear h9 h10 h11
  go_enter Tryd.func42, Tryd.ntmps42
  go_wp2_with fail
  go_ret
  exact ⟨rfl, hb _⟩
end Go.Proofs.YtfabafolbelhdaaDoor
