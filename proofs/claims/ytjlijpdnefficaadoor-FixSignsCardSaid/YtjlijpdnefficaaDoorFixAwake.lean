/- The closed part of every law of layer 2: the answers that the document fixes are given; and what 'says' tells. -/
import Derived.Test.YtjlijpdnefficaaDoorFixParse
import Derived.Test.YtjlijpdnefficaaDoorFixText
import Derived.Test.YtjlijpdnefficaaDoorErrIs
import Derived.Deep.RegionWith
namespace Go.Proofs.YtjlijpdnefficaaDoor
open Go.ChangeShapes Go.WideShapes Go.ChangeAt Go.RowKit

/-- beside an error the number is nought -/
def Fair (p : Int × Int) : Prop := p.2 ≠ 0 → p.1 = 0
theorem fair_bd (a : Int) : Fair (FM.bd a) := by unfold Fair FM.bd; split <;> simp
theorem fair_both {a b : Int} {x : Int × Int} (h : Fair x) : Fair (FM.both a b x) := by unfold FM.both; split; exact h; simp [Fair]
theorem fair_add (a b : Int) : Fair (FM.add a b) := fair_both (fair_bd _)
theorem fair_sub (a b : Int) : Fair (FM.sub a b) := fair_both (fair_bd _)
theorem fair_mul (a b : Int) : Fair (FM.mul a b) := fair_both (fair_bd _)
theorem fair_quo (a b : Int) : Fair (FM.quo a b) := fair_both (by split; simp [Fair]; exact fair_bd _)
theorem fair_rem (a b : Int) : Fair (FM.rem a b) := fair_both (by split <;> simp [Fair])
theorem fair_mod (a b : Int) : Fair (FM.mod a b) := fair_both (by split <;> simp [Fair])
theorem fair_parse (l : List UInt8) : Fair (FM.parse l) := by unfold FM.parse; split; exact fair_bd _; simp [Fair]

theorem says_pair (n k : Int) (h : k ≠ 0 → n = 0) (w : World) :
    Calls Tryd.prog 19 #[.int .i64 n, er k, .int .i64 n, .int .i64 k] w fun e w' => e = .returned (.bool true) ∧ w = w' := by
  by_cases hk : k = 0
  · subst hk
    unfold er
    rw [if_pos rfl]
    clear h
    go_enter Tryd.func19, Tryd.ntmps19
    go_wp2
    go_ret
    exact ⟨rfl, rfl⟩
  · obtain rfl := h hk
    unfold er
    rw [if_neg hk]
    have hb : (k != 0) = true := by simpa using hk
    clear h hk
    go_enter Tryd.func19, Tryd.ntmps19
    go_wp2_with (go_at_call 30; (with_reducible refine (is_same _ _).mono ?_); rintro e w' ⟨rfl, rfl⟩)
    go_ret
    exact ⟨rfl, rfl⟩
theorem says_any (p : Int × Int) (h : Fair p) (w : World) :
    Calls Tryd.prog 19 #[.int .i64 p.1, er p.2, .int .i64 p.1, .int .i64 p.2] w fun e w' => e = .returned (.bool true) ∧ w = w' :=
  says_pair p.1 p.2 h w

theorem add_big (w : World) : Calls Tryd.prog 12 #[.int .i64 1152921504606846975, .int .i64 1] w fun e w' => e = .returned (.tuple #[.int .i64 0, .iface 35 (.int .i64 11)]) ∧ w = w' := by
  have H := add_any 1152921504606846975 1 w
  rw [show FM.add 1152921504606846975 1 = (0, 11) by kernel_rfl, ans_no _ _ (by omega)] at H
  exact H
theorem quo_7 (w : World) : Calls Tryd.prog 20 #[.int .i64 (-7), .int .i64 2] w fun e w' => e = .returned (.tuple #[.int .i64 (-3), .nilIface]) ∧ w = w' := by
  have H := quo_any (-7) 2 w
  rw [show FM.quo (-7) 2 = (-3, 0) by kernel_rfl, ans_yes] at H
  exact H
theorem quo_0 (w : World) : Calls Tryd.prog 20 #[.int .i64 1, .int .i64 0] w fun e w' => e = .returned (.tuple #[.int .i64 0, .iface 35 (.int .i64 12)]) ∧ w = w' := by
  have H := quo_any 1 0 w
  rw [show FM.quo 1 0 = (0, 12) by kernel_rfl, ans_no _ _ (by omega)] at H
  exact H
theorem mod_7 (w : World) : Calls Tryd.prog 24 #[.int .i64 (-7), .int .i64 2] w fun e w' => e = .returned (.tuple #[.int .i64 1, .nilIface]) ∧ w = w' := by
  have H := mod_any (-7) 2 w
  rw [show FM.mod (-7) 2 = (1, 0) by kernel_rfl, ans_yes] at H
  exact H
theorem mod_2 (w : World) : Calls Tryd.prog 24 #[.int .i64 7, .int .i64 (-2)] w fun e w' => e = .returned (.tuple #[.int .i64 (-1), .nilIface]) ∧ w = w' := by
  have H := mod_any 7 (-2) w
  rw [show FM.mod 7 (-2) = (-1, 0) by kernel_rfl, ans_yes] at H
  exact H
theorem parse_7 (w : World) : Calls Tryd.prog 27 #[.string ⟨#[43, 48, 48, 55]⟩] w fun e w' => e = .returned (.tuple #[.int .i64 7, .nilIface]) ∧ w = w' := by
  have H := parse_any ⟨#[43, 48, 48, 55]⟩ (by decide) w
  rw [show FM.parse (ByteArray.mk #[43, 48, 48, 55]).data.toList = (7, 0) by kernel_rfl, ans_yes] at H
  exact H
theorem text_12 (w : World) (ht : Tab w) : Calls Tryd.prog 26 #[.int .i64 (-12)] w fun e w' => e = .returned (.string ⟨#[45, 49, 50]⟩) ∧ Went w w' := by
  have H := text_any (-12) (by omega) (by omega) w ht
  rw [show (Lib.itoa (-12)).toArray = #[45, 49, 50] by simp [Lib.itoa, Lib.decDigits]] at H
  exact H

set_option maxHeartbeats 1000000 in
theorem awake_any (w : World) (ht : Tab w) :
    Calls Tryd.prog 18 #[] w fun e w' => e = .returned (.bool true) ∧ Went w w' := by
  go_enter Tryd.func18, Tryd.ntmps18
  go_wp2_with (first
    | (go_at_call 12; (with_reducible refine (add_big _).mono ?_); rintro e w' ⟨rfl, rfl⟩)
    | (go_at_call 20; (with_reducible refine (quo_7 _).mono ?_); rintro e w' ⟨rfl, rfl⟩)
    | (go_at_call 20; (with_reducible refine (quo_0 _).mono ?_); rintro e w' ⟨rfl, rfl⟩)
    | (go_at_call 24; (with_reducible refine (mod_7 _).mono ?_); rintro e w' ⟨rfl, rfl⟩)
    | (go_at_call 24; (with_reducible refine (mod_2 _).mono ?_); rintro e w' ⟨rfl, rfl⟩)
    | (go_at_call 27; (with_reducible refine (parse_7 _).mono ?_); rintro e w' ⟨rfl, rfl⟩)
    | (go_at_call 30; (with_reducible refine (is_same _ _).mono ?_); rintro e w' ⟨rfl, rfl⟩)
    | (go_at_call 26; (with_reducible refine (text_12 _ ht).mono ?_); rintro e w' ⟨rfl, hw⟩))
  go_ret
  exact ⟨rfl, hw⟩
end Go.Proofs.YtjlijpdnefficaaDoor
