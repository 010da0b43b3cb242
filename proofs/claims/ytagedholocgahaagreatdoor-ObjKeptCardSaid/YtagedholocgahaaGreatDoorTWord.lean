/- What the calls of package word give that the heap uses. -/
import Derived.Test.YtagedholocgahaaGreatDoorTSt
import Derived.Test.YtagedholocgahaaGreatDoorWordMath
namespace Go.Proofs.YtagedholocgahaaGreatDoor
open Go.ChangeShapes Go.WideShapes Go.ChangeAt Go.RowKit

theorem number_any (a : Int) (w : World) :
    Calls Tryz.prog 77 #[.int .u64 a] w fun e w' => e = .returned (.int .i64 (WM.nm a)) ∧ w = w' := by
  go_enter Tryz.func77, Tryz.ntmps77
  go_wp2
  go_ret
  exact ⟨rfl, rfl⟩

theorem pack_any (t n : Int) (t0 : 0 ≤ t) (t1 : t < 8) (w : World) :
    Calls Tryz.prog 76 #[.int .u64 t, .int .i64 n] w fun e w' => e = .returned (.int .u64 (WM.mk t n)) ∧ w = w' := by
  have H : bits .or .u64 (IntKind.u64.wrap (IntKind.u64.wrap n * 8)) t = WM.mk t n := by
    have e : IntKind.u64.wrap (IntKind.u64.wrap n * 8) = (n * 8) % 18446744073709551616 := by simp only [IntKind.wrap_u64]; omega
    rw [e, WM.or_low _ t (by omega) (by omega) (by omega) t0 t1]; rfl
  replace H := Lib.hid H
  go_enter Tryz.func76, Tryz.ntmps76
  go_wp2
  go_ret
  exact ⟨ret_i H.out, rfl⟩

theorem holds_any (t n : Int) (t0 : 0 ≤ t) (t1 : t < 8) (w : World) :
    Calls Tryz.prog 75 #[.int .u64 t, .int .i64 n] w fun e w' => e = .returned (.bool (WM.hd t n)) ∧ w = w' := by
  have ht : t = 0 ∨ t = 1 ∨ t = 2 ∨ t = 3 ∨ t = 4 ∨ t = 5 ∨ t = 6 ∨ t = 7 := by omega
  rcases ht with rfl | rfl | rfl | rfl | rfl | rfl | rfl | rfl
  all_goals
    go_enter Tryz.func75, Tryz.ntmps75
    go_wp2
    all_goals
      go_ret
      refine ⟨ret_b ?_, rfl⟩
      simp [WM.hd, WM.least, WM.most] <;> omega
theorem bool_any (b : Bool) (w : World) :
    Calls Tryz.prog 120 #[.bool b] w fun e w' => e = .returned (.int .u64 (if b then 11 else 3)) ∧ w = w' := by
  cases b
  all_goals
    go_enter Tryz.func120, Tryz.ntmps120
    go_wp2_with (go_at_call 76; refine (pack_any _ _ (by omega) (by omega) _).mono ?_; rintro e w' ⟨rfl, rfl⟩)
    go_ret
    exact ⟨rfl, rfl⟩

theorem sole_any (k : Int) (h0 : 0 ≤ k) (h1 : k < 1000) (w : World) :
    Calls Tryz.prog 73 #[.int .i64 k] w fun e w' => e = .returned (.int .u64 (WM.mk 4 (k - 5))) ∧ w = w' := by
  go_enter Tryz.func73, Tryz.ntmps73
  go_wp2_with (go_at_call 76; refine (pack_any _ _ (by omega) (by omega) _).mono ?_; rintro e w' ⟨rfl, rfl⟩)
  go_ret
  exact ⟨rfl, rfl⟩

theorem nil_any (w : World) : Calls Tryz.prog 39 #[] w fun e w' => e = .returned (.int .u64 4) ∧ w = w' := by
  go_enter Tryz.func39, Tryz.ntmps39
  go_wp2_with (go_at_call 73; refine (sole_any _ (by omega) (by omega) _).mono ?_; rintro e w' ⟨rfl, rfl⟩)
  go_ret
  exact ⟨rfl, rfl⟩
theorem void_any (w : World) : Calls Tryz.prog 45 #[] w fun e w' => e = .returned (.int .u64 12) ∧ w = w' := by
  go_enter Tryz.func45, Tryz.ntmps45
  go_wp2_with (go_at_call 73; refine (sole_any _ (by omega) (by omega) _).mono ?_; rintro e w' ⟨rfl, rfl⟩)
  go_ret
  exact ⟨rfl, rfl⟩
theorem undef_any (w : World) : Calls Tryz.prog 47 #[] w fun e w' => e = .returned (.int .u64 20) ∧ w = w' := by
  go_enter Tryz.func47, Tryz.ntmps47
  go_wp2_with (go_at_call 73; refine (sole_any _ (by omega) (by omega) _).mono ?_; rintro e w' ⟨rfl, rfl⟩)
  go_ret
  exact ⟨rfl, rfl⟩

/-- what a maker gives: the word, or nothing and the error of that kind -/
def made (k t n : Int) : Value := if WM.hd t n then .tuple #[.int .u64 (WM.mk t n), .nilIface] else .tuple #[.int .u64 0, .iface 86 (.int .i64 k)]

theorem checked_any (t n : Int) (t0 : 0 ≤ t) (t1 : t < 8) (w : World) :
    Calls Tryz.prog 114 #[.int .u64 t, .int .i64 n] w fun e w' => e = .returned (made 2 t n) ∧ w = w' := by
  by_cases h : WM.hd t n = true
  · have H := Lib.hid h
    go_enter Tryz.func114, Tryz.ntmps114
    go_wp2_with (first | (go_at_call 76; refine (pack_any _ _ (by omega) (by omega) _).mono ?_; rintro e w' ⟨rfl, rfl⟩) | (go_at_call 75; refine (holds_any _ _ (by omega) (by omega) _).mono ?_; rintro e w' ⟨rfl, rfl⟩))
    go_ret2
    exact ⟨by simp [made, H.out], rfl⟩
  · replace h : WM.hd t n = false := by simpa using h
    have H := Lib.hid h
    go_enter Tryz.func114, Tryz.ntmps114
    go_wp2_with (first | (go_at_call 76; refine (pack_any _ _ (by omega) (by omega) _).mono ?_; rintro e w' ⟨rfl, rfl⟩) | (go_at_call 75; refine (holds_any _ _ (by omega) (by omega) _).mono ?_; rintro e w' ⟨rfl, rfl⟩))
    go_ret2
    exact ⟨by simp [made, H.out], rfl⟩

theorem fix_any (n : Int) (w : World) :
    Calls Tryz.prog 41 #[.int .i64 n] w fun e w' => e = .returned (made 11 0 n) ∧ w = w' := by
  by_cases h : WM.hd 0 n = true
  · have H := Lib.hid h
    go_enter Tryz.func41, Tryz.ntmps41
    go_wp2_with (first | (go_at_call 76; refine (pack_any _ _ (by omega) (by omega) _).mono ?_; rintro e w' ⟨rfl, rfl⟩) | (go_at_call 75; refine (holds_any _ _ (by omega) (by omega) _).mono ?_; rintro e w' ⟨rfl, rfl⟩))
    go_ret2
    exact ⟨by simp [made, H.out], rfl⟩
  · replace h : WM.hd 0 n = false := by simpa using h
    have H := Lib.hid h
    go_enter Tryz.func41, Tryz.ntmps41
    go_wp2_with (first | (go_at_call 76; refine (pack_any _ _ (by omega) (by omega) _).mono ?_; rintro e w' ⟨rfl, rfl⟩) | (go_at_call 75; refine (holds_any _ _ (by omega) (by omega) _).mono ?_; rintro e w' ⟨rfl, rfl⟩))
    go_ret2
    exact ⟨by simp [made, H.out], rfl⟩
theorem checked_yes (t n : Int) (t0 : 0 ≤ t) (t1 : t < 8) (h : WM.hd t n = true) (w : World) :
    Calls Tryz.prog 114 #[.int .u64 t, .int .i64 n] w fun e w' => e = .returned (.tuple #[.int .u64 (WM.mk t n), .nilIface]) ∧ w = w' := by
  have H := checked_any t n t0 t1 w
  simp only [made, h, if_true] at H
  exact H
theorem checked_no (t n : Int) (t0 : 0 ≤ t) (t1 : t < 8) (h : WM.hd t n = false) (w : World) :
    Calls Tryz.prog 114 #[.int .u64 t, .int .i64 n] w fun e w' => e = .returned (.tuple #[.int .u64 0, .iface 86 (.int .i64 2)]) ∧ w = w' := by
  have H := checked_any t n t0 t1 w
  simp only [made, h, Bool.false_eq_true, if_false] at H
  exact H

theorem cell_any (n : Int) (w : World) :
    Calls Tryz.prog 88 #[.int .i64 n] w fun e w' => e = .returned (made 2 1 n) ∧ w = w' := by
  by_cases h : WM.hd 1 n = true
  · have H := Lib.hid h
    go_enter Tryz.func88, Tryz.ntmps88
    go_wp2_with (go_at_call 114; refine (checked_yes _ _ (by omega) (by omega) H.out _).mono ?_; rintro e w' ⟨rfl, rfl⟩)
    go_ret2
    exact ⟨by simp [made, H.out], rfl⟩
  · replace h : WM.hd 1 n = false := by simpa using h
    have H := Lib.hid h
    go_enter Tryz.func88, Tryz.ntmps88
    go_wp2_with (go_at_call 114; refine (checked_no _ _ (by omega) (by omega) H.out _).mono ?_; rintro e w' ⟨rfl, rfl⟩)
    go_ret2
    exact ⟨by simp [made, H.out], rfl⟩

theorem kind_any (a : Int) (h0 : 0 ≤ a) (h1 : a < 18446744073709551616) (w : World) :
    Calls Tryz.prog 61 #[.int .u64 a] w fun e w' => e = .returned (.int .i64 (WM.kd a)) ∧ w = w' := by
  have H7 := WM.and7 a h0 h1
  have hb := WM.nm_bd a
  have ht : a % 8 = 0 ∨ a % 8 = 1 ∨ a % 8 = 2 ∨ a % 8 = 3 ∨ a % 8 = 4 ∨ a % 8 = 5 ∨ a % 8 = 6 ∨ a % 8 = 7 := by omega
  clear h0 h1
  rcases ht with ht | ht | ht | ht | ht | ht | ht | ht
  all_goals
    rw [ht] at H7
    have T := Lib.hid ht
    clear ht
    by_cases h : WM.hd (a % 8) (WM.nm a) = true
    · rw [T.out] at h
      go_enter Tryz.func61, Tryz.ntmps61
      go_wp2_with (first | (go_at_call 77; refine (number_any _ _).mono ?_; rintro e w' ⟨rfl, rfl⟩) | (go_at_call 75; refine (holds_any _ _ (by omega) (by omega) _).mono ?_; rintro e w' ⟨rfl, rfl⟩))
      go_ret
      refine ⟨ret_i ?_, rfl⟩
      first | (simp [WM.kd, T.out, WM.kt, h]; done) | (exfalso; simp [WM.hd, WM.least, WM.most] at h; omega)
    · replace h : WM.hd (a % 8) (WM.nm a) = false := by simpa using h
      have H := Lib.hid h
      rw [T.out] at h
      go_enter Tryz.func61, Tryz.ntmps61
      go_wp2_with (first | (go_at_call 77; refine (number_any _ _).mono ?_; rintro e w' ⟨rfl, rfl⟩) | (go_at_call 75; refine (holds_any _ _ (by omega) (by omega) _).mono ?_; rintro e w' ⟨rfl, rfl⟩))
      go_ret
      refine ⟨ret_i ?_, rfl⟩
      simp [WM.kd, H.out]
theorem value_any (a : Int) (h0 : 0 ≤ a) (h1 : a < 18446744073709551616) (w : World) :
    Calls Tryz.prog 42 #[.int .u64 a] w fun e w' => e = .returned (.int .i64 (WM.vl a)) ∧ w = w' := by
  by_cases h : WM.kd a = 0
  · have H := Lib.hid h
    have hb : (WM.kd a == 0) = true := by simpa using h
    clear h
    go_enter Tryz.func42, Tryz.ntmps42
    go_wp2_with (first | (go_at_call 61; refine (kind_any _ h0 h1 _).mono ?_; rintro e w' ⟨rfl, rfl⟩) | (go_at_call 77; refine (number_any _ _).mono ?_; rintro e w' ⟨rfl, rfl⟩))
    go_ret
    exact ⟨ret_i (by simp [WM.vl, H.out]), rfl⟩
  · have H := Lib.hid h
    have hb : (WM.kd a == 0) = false := by simpa using h
    clear h
    go_enter Tryz.func42, Tryz.ntmps42
    go_wp2_with (first | (go_at_call 61; refine (kind_any _ h0 h1 _).mono ?_; rintro e w' ⟨rfl, rfl⟩) | (go_at_call 77; refine (number_any _ _).mono ?_; rintro e w' ⟨rfl, rfl⟩))
    go_ret
    exact ⟨ret_i (by simp [WM.vl, H.out]), rfl⟩

end Go.Proofs.YtagedholocgahaaGreatDoor
