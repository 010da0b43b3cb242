/- The closed part of every law on words: the answers that the document fixes are given. -/
import Derived.Test.YtcjhpmlmoiglkaaWordCallsC
import Derived.Test.YtcjhpmlmoiglkaaErrIs
import Derived.Deep.RegionWith
namespace Go.Proofs.Ytcjhpmlmoiglkaa
open Go.ChangeShapes Go.WideShapes Go.ChangeAt Go.RowKit

theorem fix_yes (n : Int) (h : WM.hd 0 n = true) (w : World) :
    Calls Try.prog 9 #[.int .i64 n] w fun e w' => e = .returned (.tuple #[.int .u64 (WM.mk 0 n), .nilIface]) ∧ w = w' := by
  have H := fix_any n w
  simp only [made, h, if_true] at H
  exact H
theorem fix_no (n : Int) (h : WM.hd 0 n = false) (w : World) :
    Calls Try.prog 9 #[.int .i64 n] w fun e w' => e = .returned (.tuple #[.int .u64 0, .iface 30 (.int .i64 11)]) ∧ w = w' := by
  have H := fix_any n w
  simp only [made, h, Bool.false_eq_true, if_false] at H
  exact H
theorem fix_m1 (w : World) : Calls Try.prog 9 #[.int .i64 (-1)] w fun e w' => e = .returned (.tuple #[.int .u64 18446744073709551608, .nilIface]) ∧ w = w'  := by
  have H := fix_yes (-1) (by decide) w
  rw [show WM.mk 0 (-1) = 18446744073709551608 from by decide] at H
  exact H
theorem fix_big (w : World) : Calls Try.prog 9 #[.int .i64 1152921504606846976] w fun e w' => e = .returned (.tuple #[.int .u64 0, .iface 30 (.int .i64 11)]) ∧ w = w' :=
  fix_no 1152921504606846976 (by decide) w
theorem cell_2 (w : World) : Calls Try.prog 19 #[.int .i64 2] w fun e w' => e = .returned (.tuple #[.int .u64 17, .nilIface]) ∧ w = w' := by
  have H := cell_any 2 w
  rw [made, if_pos (by decide), show WM.mk 1 2 = 17 from by decide] at H
  exact H
theorem char_65 (w : World) : Calls Try.prog 20 #[.int .i64 65] w fun e w' => e = .returned (.tuple #[.int .u64 522, .nilIface]) ∧ w = w' := by
  have H := char_any 65 w
  rw [made, if_pos (by decide), show WM.mk 2 65 = 522 from by decide] at H
  exact H
theorem bool_true (w : World) : Calls Try.prog 24 #[.bool true] w fun e w' => e = .returned (.int .u64 11) ∧ w = w' := by
  have H := bool_any true w
  rw [if_pos rfl] at H
  exact H
theorem kind_7 (w : World) : Calls Try.prog 14 #[.int .u64 7] w fun e w' => e = .returned (.int .i64 0) ∧ w = w' := by
  have H := kind_any 7 (by omega) (by omega) w
  rw [show WM.kd 7 = 0 from by kernel_rfl] at H
  exact H

theorem awake_any (w : World) :
    Calls Try.prog 11 #[] w fun e w' => e = .returned (.bool true) ∧ w = w' := by
  go_enter Try.func11, Try.ntmps11
  go_wp2_with (first
    | (go_at_call 19; refine (cell_2 _).mono ?_; rintro e w' ⟨rfl, rfl⟩)
    | (go_at_call 20; refine (char_65 _).mono ?_; rintro e w' ⟨rfl, rfl⟩)
    | (go_at_call 9; (with_reducible refine (fix_m1 _).mono ?_); rintro e w' ⟨rfl, rfl⟩)
    | (go_at_call 9; (with_reducible refine (fix_big _).mono ?_); rintro e w' ⟨rfl, rfl⟩)
    | (go_at_call 12; (with_reducible refine (is_same _ _).mono ?_); rintro e w' ⟨rfl, rfl⟩)
    | (go_at_call 24; (with_reducible refine (bool_true _).mono ?_); rintro e w' ⟨rfl, rfl⟩)
    | (go_at_call 25; (with_reducible refine (nil_any _).mono ?_); rintro e w' ⟨rfl, rfl⟩)
    | (go_at_call 26; (with_reducible refine (void_any _).mono ?_); rintro e w' ⟨rfl, rfl⟩)
    | (go_at_call 27; (with_reducible refine (undef_any _).mono ?_); rintro e w' ⟨rfl, rfl⟩)
    | (go_at_call 14; (with_reducible refine (kind_7 _).mono ?_); rintro e w' ⟨rfl, rfl⟩))
  go_ret
  exact ⟨rfl, rfl⟩
end Go.Proofs.Ytcjhpmlmoiglkaa
