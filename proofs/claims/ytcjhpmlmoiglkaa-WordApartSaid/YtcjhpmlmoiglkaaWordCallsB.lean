/- What the makers of words, Kind, Value and True give: one contract a function. -/
import Derived.Test.YtcjhpmlmoiglkaaWordCalls
namespace Go.Proofs.Ytcjhpmlmoiglkaa
open Go.ChangeShapes Go.WideShapes Go.ChangeAt Go.RowKit

theorem bool_any (b : Bool) (w : World) :
    Calls Try.prog 24 #[.bool b] w fun e w' => e = .returned (.int .u64 (if b then 11 else 3)) ∧ w = w' := by
  cases b
  all_goals
    go_enter Try.func24, Try.ntmps24
    go_wp2_with (go_at_call 29; refine (pack_any _ _ (by omega) (by omega) _).mono ?_; rintro e w' ⟨rfl, rfl⟩)
    go_ret
    exact ⟨rfl, rfl⟩

theorem sole_any (k : Int) (h0 : 0 ≤ k) (h1 : k < 1000) (w : World) :
    Calls Try.prog 36 #[.int .i64 k] w fun e w' => e = .returned (.int .u64 (WM.mk 4 (k - 5))) ∧ w = w' := by
  go_enter Try.func36, Try.ntmps36
  go_wp2_with (go_at_call 29; refine (pack_any _ _ (by omega) (by omega) _).mono ?_; rintro e w' ⟨rfl, rfl⟩)
  go_ret
  exact ⟨rfl, rfl⟩

theorem nil_any (w : World) : Calls Try.prog 25 #[] w fun e w' => e = .returned (.int .u64 4) ∧ w = w' := by
  go_enter Try.func25, Try.ntmps25
  go_wp2_with (go_at_call 36; refine (sole_any _ (by omega) (by omega) _).mono ?_; rintro e w' ⟨rfl, rfl⟩)
  go_ret
  exact ⟨rfl, rfl⟩
theorem void_any (w : World) : Calls Try.prog 26 #[] w fun e w' => e = .returned (.int .u64 12) ∧ w = w' := by
  go_enter Try.func26, Try.ntmps26
  go_wp2_with (go_at_call 36; refine (sole_any _ (by omega) (by omega) _).mono ?_; rintro e w' ⟨rfl, rfl⟩)
  go_ret
  exact ⟨rfl, rfl⟩
theorem undef_any (w : World) : Calls Try.prog 27 #[] w fun e w' => e = .returned (.int .u64 20) ∧ w = w' := by
  go_enter Try.func27, Try.ntmps27
  go_wp2_with (go_at_call 36; refine (sole_any _ (by omega) (by omega) _).mono ?_; rintro e w' ⟨rfl, rfl⟩)
  go_ret
  exact ⟨rfl, rfl⟩

/-- what a maker gives: the word, or nothing and the error of that kind -/
def made (k t n : Int) : Value := if WM.hd t n then .tuple #[.int .u64 (WM.mk t n), .nilIface] else .tuple #[.int .u64 0, .iface 30 (.int .i64 k)]

theorem checked_any (t n : Int) (t0 : 0 ≤ t) (t1 : t < 8) (w : World) :
    Calls Try.prog 35 #[.int .u64 t, .int .i64 n] w fun e w' => e = .returned (made 2 t n) ∧ w = w' := by
  by_cases h : WM.hd t n = true
  · have H := Lib.hid h
    go_enter Try.func35, Try.ntmps35
    go_wp2_with (first | (go_at_call 29; refine (pack_any _ _ (by omega) (by omega) _).mono ?_; rintro e w' ⟨rfl, rfl⟩) | (go_at_call 28; refine (holds_any _ _ (by omega) (by omega) _).mono ?_; rintro e w' ⟨rfl, rfl⟩))
    go_ret2
    exact ⟨by simp [made, H.out], rfl⟩
  · replace h : WM.hd t n = false := by simpa using h
    have H := Lib.hid h
    go_enter Try.func35, Try.ntmps35
    go_wp2_with (first | (go_at_call 29; refine (pack_any _ _ (by omega) (by omega) _).mono ?_; rintro e w' ⟨rfl, rfl⟩) | (go_at_call 28; refine (holds_any _ _ (by omega) (by omega) _).mono ?_; rintro e w' ⟨rfl, rfl⟩))
    go_ret2
    exact ⟨by simp [made, H.out], rfl⟩

theorem fix_any (n : Int) (w : World) :
    Calls Try.prog 9 #[.int .i64 n] w fun e w' => e = .returned (made 11 0 n) ∧ w = w' := by
  by_cases h : WM.hd 0 n = true
  · have H := Lib.hid h
    go_enter Try.func9, Try.ntmps9
    go_wp2_with (first | (go_at_call 29; refine (pack_any _ _ (by omega) (by omega) _).mono ?_; rintro e w' ⟨rfl, rfl⟩) | (go_at_call 28; refine (holds_any _ _ (by omega) (by omega) _).mono ?_; rintro e w' ⟨rfl, rfl⟩))
    go_ret2
    exact ⟨by simp [made, H.out], rfl⟩
  · replace h : WM.hd 0 n = false := by simpa using h
    have H := Lib.hid h
    go_enter Try.func9, Try.ntmps9
    go_wp2_with (first | (go_at_call 29; refine (pack_any _ _ (by omega) (by omega) _).mono ?_; rintro e w' ⟨rfl, rfl⟩) | (go_at_call 28; refine (holds_any _ _ (by omega) (by omega) _).mono ?_; rintro e w' ⟨rfl, rfl⟩))
    go_ret2
    exact ⟨by simp [made, H.out], rfl⟩
theorem checked_yes (t n : Int) (t0 : 0 ≤ t) (t1 : t < 8) (h : WM.hd t n = true) (w : World) :
    Calls Try.prog 35 #[.int .u64 t, .int .i64 n] w fun e w' => e = .returned (.tuple #[.int .u64 (WM.mk t n), .nilIface]) ∧ w = w' := by
  have H := checked_any t n t0 t1 w
  simp only [made, h, if_true] at H
  exact H
theorem checked_no (t n : Int) (t0 : 0 ≤ t) (t1 : t < 8) (h : WM.hd t n = false) (w : World) :
    Calls Try.prog 35 #[.int .u64 t, .int .i64 n] w fun e w' => e = .returned (.tuple #[.int .u64 0, .iface 30 (.int .i64 2)]) ∧ w = w' := by
  have H := checked_any t n t0 t1 w
  simp only [made, h, Bool.false_eq_true, if_false] at H
  exact H

theorem cell_any (n : Int) (w : World) :
    Calls Try.prog 19 #[.int .i64 n] w fun e w' => e = .returned (made 2 1 n) ∧ w = w' := by
  by_cases h : WM.hd 1 n = true
  · have H := Lib.hid h
    go_enter Try.func19, Try.ntmps19
    go_wp2_with (go_at_call 35; refine (checked_yes _ _ (by omega) (by omega) H.out _).mono ?_; rintro e w' ⟨rfl, rfl⟩)
    go_ret2
    exact ⟨by simp [made, H.out], rfl⟩
  · replace h : WM.hd 1 n = false := by simpa using h
    have H := Lib.hid h
    go_enter Try.func19, Try.ntmps19
    go_wp2_with (go_at_call 35; refine (checked_no _ _ (by omega) (by omega) H.out _).mono ?_; rintro e w' ⟨rfl, rfl⟩)
    go_ret2
    exact ⟨by simp [made, H.out], rfl⟩

theorem char_any (n : Int) (w : World) :
    Calls Try.prog 20 #[.int .i64 n] w fun e w' => e = .returned (made 2 2 n) ∧ w = w' := by
  by_cases h : WM.hd 2 n = true
  · have H := Lib.hid h
    go_enter Try.func20, Try.ntmps20
    go_wp2_with (go_at_call 35; refine (checked_yes _ _ (by omega) (by omega) H.out _).mono ?_; rintro e w' ⟨rfl, rfl⟩)
    go_ret2
    exact ⟨by simp [made, H.out], rfl⟩
  · replace h : WM.hd 2 n = false := by simpa using h
    have H := Lib.hid h
    go_enter Try.func20, Try.ntmps20
    go_wp2_with (go_at_call 35; refine (checked_no _ _ (by omega) (by omega) H.out _).mono ?_; rintro e w' ⟨rfl, rfl⟩)
    go_ret2
    exact ⟨by simp [made, H.out], rfl⟩

theorem symbol_any (n : Int) (w : World) :
    Calls Try.prog 21 #[.int .i64 n] w fun e w' => e = .returned (made 2 5 n) ∧ w = w' := by
  by_cases h : WM.hd 5 n = true
  · have H := Lib.hid h
    go_enter Try.func21, Try.ntmps21
    go_wp2_with (go_at_call 35; refine (checked_yes _ _ (by omega) (by omega) H.out _).mono ?_; rintro e w' ⟨rfl, rfl⟩)
    go_ret2
    exact ⟨by simp [made, H.out], rfl⟩
  · replace h : WM.hd 5 n = false := by simpa using h
    have H := Lib.hid h
    go_enter Try.func21, Try.ntmps21
    go_wp2_with (go_at_call 35; refine (checked_no _ _ (by omega) (by omega) H.out _).mono ?_; rintro e w' ⟨rfl, rfl⟩)
    go_ret2
    exact ⟨by simp [made, H.out], rfl⟩

theorem prim_any (n : Int) (w : World) :
    Calls Try.prog 22 #[.int .i64 n] w fun e w' => e = .returned (made 2 6 n) ∧ w = w' := by
  by_cases h : WM.hd 6 n = true
  · have H := Lib.hid h
    go_enter Try.func22, Try.ntmps22
    go_wp2_with (go_at_call 35; refine (checked_yes _ _ (by omega) (by omega) H.out _).mono ?_; rintro e w' ⟨rfl, rfl⟩)
    go_ret2
    exact ⟨by simp [made, H.out], rfl⟩
  · replace h : WM.hd 6 n = false := by simpa using h
    have H := Lib.hid h
    go_enter Try.func22, Try.ntmps22
    go_wp2_with (go_at_call 35; refine (checked_no _ _ (by omega) (by omega) H.out _).mono ?_; rintro e w' ⟨rfl, rfl⟩)
    go_ret2
    exact ⟨by simp [made, H.out], rfl⟩

theorem kind_any (a : Int) (h0 : 0 ≤ a) (h1 : a < 18446744073709551616) (w : World) :
    Calls Try.prog 14 #[.int .u64 a] w fun e w' => e = .returned (.int .i64 (WM.kd a)) ∧ w = w' := by
  have H7 := WM.and7 a h0 h1
  have hb := WM.nm_bd a
  have ht : a % 8 = 0 ∨ a % 8 = 1 ∨ a % 8 = 2 ∨ a % 8 = 3 ∨ a % 8 = 4 ∨ a % 8 = 5 ∨ a % 8 = 6 ∨ a % 8 = 7 := by omega
  clear h0 h1
  rcases ht with ht | ht | ht | ht | ht | ht | ht | ht
  all_goals
    rw [ht] at H7
    have T := Lib.hid ht
    clear ht
    by_cases h : WM.hd (a % 8) (WM.nm a) = true
    · rw [T.out] at h
      go_enter Try.func14, Try.ntmps14
      go_wp2_with (first | (go_at_call 32; refine (number_any _ _).mono ?_; rintro e w' ⟨rfl, rfl⟩) | (go_at_call 28; refine (holds_any _ _ (by omega) (by omega) _).mono ?_; rintro e w' ⟨rfl, rfl⟩))
      go_ret
      refine ⟨ret_i ?_, rfl⟩
      first | (simp [WM.kd, T.out, WM.kt, h]; done) | (exfalso; simp [WM.hd, WM.least, WM.most] at h; omega)
    · replace h : WM.hd (a % 8) (WM.nm a) = false := by simpa using h
      have H := Lib.hid h
      rw [T.out] at h
      go_enter Try.func14, Try.ntmps14
      go_wp2_with (first | (go_at_call 32; refine (number_any _ _).mono ?_; rintro e w' ⟨rfl, rfl⟩) | (go_at_call 28; refine (holds_any _ _ (by omega) (by omega) _).mono ?_; rintro e w' ⟨rfl, rfl⟩))
      go_ret
      refine ⟨ret_i ?_, rfl⟩
      simp [WM.kd, H.out]
end Go.Proofs.Ytcjhpmlmoiglkaa
