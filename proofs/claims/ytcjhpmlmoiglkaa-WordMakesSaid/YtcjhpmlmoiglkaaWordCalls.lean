/- What each function of the package word, and of the document's own answers, gives: one contract a function. -/
import Derived.Test.YtcjhpmlmoiglkaaRows
import Derived.Test.YtcjhpmlmoiglkaaWordMath
import Derived.WalkKit
import Derived.ProofKit
import Derived.OpenShut
import Derived.Deep.QuietTactic
import Derived.BigQuiet
import Derived.Lib.Hide
namespace Go.Proofs.Ytcjhpmlmoiglkaa
open Go.ChangeShapes Go.WideShapes Go.ChangeAt Go.RowKit

theorem ret_i {k : IntKind} {a b : Int} (h : a = b) : Ending.returned (.int k a) = .returned (.int k b) := by rw [h]
theorem ret_b {a b : Bool} (h : a = b) : Ending.returned (.bool a) = .returned (.bool b) := by rw [h]

theorem number_any (a : Int) (w : World) :
    Calls Try.prog 32 #[.int .u64 a] w fun e w' => e = .returned (.int .i64 (WM.nm a)) ∧ w = w' := by
  go_enter Try.func32, Try.ntmps32
  go_wp2
  go_ret
  exact ⟨rfl, rfl⟩

theorem pack_any (t n : Int) (t0 : 0 ≤ t) (t1 : t < 8) (w : World) :
    Calls Try.prog 29 #[.int .u64 t, .int .i64 n] w fun e w' => e = .returned (.int .u64 (WM.mk t n)) ∧ w = w' := by
  have H : bits .or .u64 (IntKind.u64.wrap (IntKind.u64.wrap n * 8)) t = WM.mk t n := by
    have e : IntKind.u64.wrap (IntKind.u64.wrap n * 8) = (n * 8) % 18446744073709551616 := by simp only [IntKind.wrap_u64]; omega
    rw [e, WM.or_low _ t (by omega) (by omega) (by omega) t0 t1]; rfl
  replace H := Lib.hid H
  go_enter Try.func29, Try.ntmps29
  go_wp2
  go_ret
  exact ⟨ret_i H.out, rfl⟩

theorem holds_any (t n : Int) (t0 : 0 ≤ t) (t1 : t < 8) (w : World) :
    Calls Try.prog 28 #[.int .u64 t, .int .i64 n] w fun e w' => e = .returned (.bool (WM.hd t n)) ∧ w = w' := by
  have ht : t = 0 ∨ t = 1 ∨ t = 2 ∨ t = 3 ∨ t = 4 ∨ t = 5 ∨ t = 6 ∨ t = 7 := by omega
  rcases ht with rfl | rfl | rfl | rfl | rfl | rfl | rfl | rfl
  all_goals
    go_enter Try.func28, Try.ntmps28
    go_wp2
    all_goals
      go_ret
      refine ⟨ret_b ?_, rfl⟩
      simp [WM.hd, WM.least, WM.most] <;> omega
end Go.Proofs.Ytcjhpmlmoiglkaa
