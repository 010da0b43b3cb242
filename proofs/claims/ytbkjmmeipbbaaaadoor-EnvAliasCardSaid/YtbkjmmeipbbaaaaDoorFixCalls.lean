/- What each call of package fix on two numbers gives: one contract a function. -/
import Derived.Test.YtbkjmmeipbbaaaaDoorRows
import Derived.Test.YtbkjmmeipbbaaaaDoorFixMath
import Derived.WalkKit
import Derived.ProofKit
import Derived.OpenShut
import Derived.Deep.QuietTactic
import Derived.BigQuiet
import Derived.Lib.Hide
namespace Go.Proofs.YtbkjmmeipbbaaaaDoor
open Go.ChangeShapes Go.WideShapes Go.ChangeAt Go.RowKit

theorem ret_i {k : IntKind} {a b : Int} (h : a = b) : Ending.returned (.int k a) = .returned (.int k b) := by rw [h]
theorem ret_b {a b : Bool} (h : a = b) : Ending.returned (.bool a) = .returned (.bool b) := by rw [h]
/-- the error of that kind, or none -/
def er (k : Int) : Value := if k = 0 then .nilIface else .iface 57 (.int .i64 k)
/-- a number and an error -/
def ans (p : Int × Int) : Value := .tuple #[.int .i64 p.1, er p.2]
theorem ans_yes (n : Int) : ans (n, 0) = .tuple #[.int .i64 n, .nilIface] := rfl
theorem ans_no (n k : Int) (h : k ≠ 0) : ans (n, k) = .tuple #[.int .i64 n, .iface 57 (.int .i64 k)] := by unfold ans er; simp only [if_neg h]

theorem isNumber_any (a : Int) (w : World) :
    Calls Tryd.prog 56 #[.int .i64 a] w fun e w' => e = .returned (.bool (FM.num a)) ∧ w = w' := by
  go_enter Tryd.func56, Tryd.ntmps56
  go_wp2
  all_goals
    go_ret
    refine ⟨ret_b ?_, rfl⟩
    simp [FM.num] <;> omega

theorem bounded_any (a : Int) (w : World) :
    Calls Tryd.prog 57 #[.int .i64 a] w fun e w' => e = .returned (ans (FM.bd a)) ∧ w = w' := by
  cases h : FM.num a
  · rw [FM.bd, h, if_neg (by simp), ans_no _ _ (by omega)]
    go_enter Tryd.func57, Tryd.ntmps57
    go_wp2_with (go_at_call 56; refine (isNumber_any _ _).mono ?_; rintro e w' ⟨rfl, rfl⟩)
    go_ret2
    exact ⟨rfl, rfl⟩
  · rw [FM.bd, h, if_pos rfl, ans_yes]
    go_enter Tryd.func57, Tryd.ntmps57
    go_wp2_with (go_at_call 56; refine (isNumber_any _ _).mono ?_; rintro e w' ⟨rfl, rfl⟩)
    go_ret2
    exact ⟨rfl, rfl⟩
end Go.Proofs.YtbkjmmeipbbaaaaDoor
