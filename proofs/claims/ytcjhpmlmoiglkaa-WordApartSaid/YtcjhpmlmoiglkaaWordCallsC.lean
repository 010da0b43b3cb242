/- What Value, True and the document's own answers for words give: one contract a function. -/
import Derived.Test.YtcjhpmlmoiglkaaWordCallsB
namespace Go.Proofs.Ytcjhpmlmoiglkaa
open Go.ChangeShapes Go.WideShapes Go.ChangeAt Go.RowKit

theorem value_any (a : Int) (h0 : 0 ≤ a) (h1 : a < 18446744073709551616) (w : World) :
    Calls Try.prog 15 #[.int .u64 a] w fun e w' => e = .returned (.int .i64 (WM.vl a)) ∧ w = w' := by
  by_cases h : WM.kd a = 0
  · have H := Lib.hid h
    have hb : (WM.kd a == 0) = true := by simpa using h
    clear h
    go_enter Try.func15, Try.ntmps15
    go_wp2_with (first | (go_at_call 14; refine (kind_any _ h0 h1 _).mono ?_; rintro e w' ⟨rfl, rfl⟩) | (go_at_call 32; refine (number_any _ _).mono ?_; rintro e w' ⟨rfl, rfl⟩))
    go_ret
    exact ⟨ret_i (by simp [WM.vl, H.out]), rfl⟩
  · have H := Lib.hid h
    have hb : (WM.kd a == 0) = false := by simpa using h
    clear h
    go_enter Try.func15, Try.ntmps15
    go_wp2_with (first | (go_at_call 14; refine (kind_any _ h0 h1 _).mono ?_; rintro e w' ⟨rfl, rfl⟩) | (go_at_call 32; refine (number_any _ _).mono ?_; rintro e w' ⟨rfl, rfl⟩))
    go_ret
    exact ⟨ret_i (by simp [WM.vl, H.out]), rfl⟩

theorem true_any (a : Int) (w : World) :
    Calls Try.prog 16 #[.int .u64 a] w fun e w' => e = .returned (.bool (WM.tru a)) ∧ w = w' := by
  go_enter Try.func16, Try.ntmps16
  go_wp2_with (go_at_call 24; refine (bool_any _ _).mono ?_; rintro e w' ⟨rfl, rfl⟩)
  go_ret
  exact ⟨rfl, rfl⟩

theorem whole_any (n : Int) (w : World) :
    Calls Try.prog 10 #[.int .i64 n] w fun e w' => e = .returned (.bool (WM.hd 0 n)) ∧ w = w' := by
  go_enter Try.func10, Try.ntmps10
  go_wp2
  all_goals
    go_ret
    refine ⟨ret_b ?_, rfl⟩
    rw [Bool.eq_iff_iff]
    simp [WM.hd, WM.least, WM.most]
    omega

theorem make_any (t n : Int) (t0 : 0 ≤ t) (t1 : t < 8) (w : World) :
    Calls Try.prog 13 #[.int .i64 t, .int .i64 n] w fun e w' => e = .returned (.int .u64 (WM.mk t n)) ∧ w = w' := by
  go_enter Try.func13, Try.ntmps13
  go_wp2
  go_ret
  refine ⟨ret_i ?_, rfl⟩
  simp only [IntKind.wrap_u64, WM.mk]; omega

theorem num_any (a : Int) (h0 : 0 ≤ a) (h1 : a < 18446744073709551616) (w : World) :
    Calls Try.prog 33 #[.int .u64 a] w fun e w' => e = .returned (.int .i64 (WM.nm a)) ∧ w = w' := by
  have hn : 0 ≤ a / 8 := by omega
  have hn1 : a / 8 < 2305843009213693952 := by omega
  by_cases h : 1152921504606846976 ≤ a / 8
  all_goals
    go_enter Try.func33, Try.ntmps33
    go_wp2
    go_ret
    refine ⟨ret_i ?_, rfl⟩
    simp only [wrap64, WM.nm]; omega

theorem tag_any (a : Int) (h0 : 0 ≤ a) (h1 : a < 18446744073709551616) (w : World) :
    Calls Try.prog 34 #[.int .u64 a] w fun e w' => e = .returned (.int .i64 (a % 8)) ∧ w = w' := by
  have hn : 0 ≤ a % 8 := by omega
  have hn1 : a % 8 < 8 := by omega
  go_enter Try.func34, Try.ntmps34
  go_wp2
  go_ret
  exact ⟨rfl, rfl⟩

theorem refkind_any (a : Int) (h0 : 0 ≤ a) (h1 : a < 18446744073709551616) (w : World) :
    Calls Try.prog 17 #[.int .u64 a] w fun e w' => e = .returned (.int .i64 (WM.kd a)) ∧ w = w' := by
  have hb := WM.nm_bd a
  have H0 := Lib.hid (WM.hd0 a)
  have ht : a % 8 = 0 ∨ a % 8 = 1 ∨ a % 8 = 2 ∨ a % 8 = 3 ∨ a % 8 = 4 ∨ a % 8 = 5 ∨ a % 8 = 6 ∨ a % 8 = 7 := by omega
  rcases ht with ht | ht | ht | ht | ht | ht | ht | ht
  all_goals
    have T := Lib.hid ht
    go_enter Try.func17, Try.ntmps17
    go_wp2_with (first | (go_at_call 33; refine (num_any _ h0 h1 _).mono ?_; rintro e w' ⟨rfl, rfl⟩) | (go_at_call 34; refine (tag_any _ h0 h1 _).mono ?_; rintro e w' ⟨rfl, rfl⟩))
  all_goals
    go_ret
    refine ⟨ret_i ?_, rfl⟩
    try simp only [beq_iff_eq, beq_eq_false_iff_ne] at *
    simp only [WM.kd, WM.hd, WM.least, WM.most, WM.kt, T.out]
    simp <;> omega

theorem refvalue_any (a : Int) (h0 : 0 ≤ a) (h1 : a < 18446744073709551616) (w : World) :
    Calls Try.prog 18 #[.int .u64 a] w fun e w' => e = .returned (.int .i64 (WM.vl a)) ∧ w = w' := by
  by_cases h : WM.kd a = 0
  · have H := Lib.hid h
    have hb : (WM.kd a == 0) = true := by simpa using h
    clear h
    go_enter Try.func18, Try.ntmps18
    go_wp2_with (first | (go_at_call 17; refine (refkind_any _ h0 h1 _).mono ?_; rintro e w' ⟨rfl, rfl⟩) | (go_at_call 33; refine (num_any _ h0 h1 _).mono ?_; rintro e w' ⟨rfl, rfl⟩))
    go_ret
    exact ⟨ret_i (by simp [WM.vl, H.out]), rfl⟩
  · have H := Lib.hid h
    have hb : (WM.kd a == 0) = false := by simpa using h
    clear h
    go_enter Try.func18, Try.ntmps18
    go_wp2_with (first | (go_at_call 17; refine (refkind_any _ h0 h1 _).mono ?_; rintro e w' ⟨rfl, rfl⟩) | (go_at_call 33; refine (num_any _ h0 h1 _).mono ?_; rintro e w' ⟨rfl, rfl⟩))
    go_ret
    exact ⟨ret_i (by simp [WM.vl, H.out]), rfl⟩
end Go.Proofs.Ytcjhpmlmoiglkaa
