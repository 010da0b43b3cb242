/- What the calls of package word give that the heap uses. -/
import Derived.Test.YtdfeapjjgpdcoaaDoorTSt
import Derived.Test.YtdfeapjjgpdcoaaDoorWordMath
namespace Go.Proofs.YtdfeapjjgpdcoaaDoor
open Go.ChangeShapes Go.WideShapes Go.ChangeAt Go.RowKit

theorem number_any (a : Int) (w : World) :
    Calls Tryd.prog 65 #[.int .u64 a] w fun e w' => e = .returned (.int .i64 (WM.nm a)) ∧ w = w' := by
  go_enter Tryd.func65, Tryd.ntmps65
  go_wp2
  go_ret
  exact ⟨rfl, rfl⟩

theorem pack_any (t n : Int) (t0 : 0 ≤ t) (t1 : t < 8) (w : World) :
    Calls Tryd.prog 70 #[.int .u64 t, .int .i64 n] w fun e w' => e = .returned (.int .u64 (WM.mk t n)) ∧ w = w' := by
  have H : bits .or .u64 (IntKind.u64.wrap (IntKind.u64.wrap n * 8)) t = WM.mk t n := by
    have e : IntKind.u64.wrap (IntKind.u64.wrap n * 8) = (n * 8) % 18446744073709551616 := by simp only [IntKind.wrap_u64]; omega
    rw [e, WM.or_low _ t (by omega) (by omega) (by omega) t0 t1]; rfl
  replace H := Lib.hid H
  go_enter Tryd.func70, Tryd.ntmps70
  go_wp2
  go_ret
  exact ⟨ret_i H.out, rfl⟩

theorem holds_any (t n : Int) (t0 : 0 ≤ t) (t1 : t < 8) (w : World) :
    Calls Tryd.prog 66 #[.int .u64 t, .int .i64 n] w fun e w' => e = .returned (.bool (WM.hd t n)) ∧ w = w' := by
  have ht : t = 0 ∨ t = 1 ∨ t = 2 ∨ t = 3 ∨ t = 4 ∨ t = 5 ∨ t = 6 ∨ t = 7 := by omega
  rcases ht with rfl | rfl | rfl | rfl | rfl | rfl | rfl | rfl
  all_goals
    go_enter Tryd.func66, Tryd.ntmps66
    go_wp2
    all_goals
      go_ret
      refine ⟨ret_b ?_, rfl⟩
      simp [WM.hd, WM.least, WM.most] <;> omega
theorem bool_any (b : Bool) (w : World) :
    Calls Tryd.prog 92 #[.bool b] w fun e w' => e = .returned (.int .u64 (if b then 11 else 3)) ∧ w = w' := by
  cases b
  all_goals
    go_enter Tryd.func92, Tryd.ntmps92
    go_wp2_with (go_at_call 70; refine (pack_any _ _ (by omega) (by omega) _).mono ?_; rintro e w' ⟨rfl, rfl⟩)
    go_ret
    exact ⟨rfl, rfl⟩

theorem sole_any (k : Int) (h0 : 0 ≤ k) (h1 : k < 1000) (w : World) :
    Calls Tryd.prog 67 #[.int .i64 k] w fun e w' => e = .returned (.int .u64 (WM.mk 4 (k - 5))) ∧ w = w' := by
  go_enter Tryd.func67, Tryd.ntmps67
  go_wp2_with (go_at_call 70; refine (pack_any _ _ (by omega) (by omega) _).mono ?_; rintro e w' ⟨rfl, rfl⟩)
  go_ret
  exact ⟨rfl, rfl⟩

theorem nil_any (w : World) : Calls Tryd.prog 27 #[] w fun e w' => e = .returned (.int .u64 4) ∧ w = w' := by
  go_enter Tryd.func27, Tryd.ntmps27
  go_wp2_with (go_at_call 67; refine (sole_any _ (by omega) (by omega) _).mono ?_; rintro e w' ⟨rfl, rfl⟩)
  go_ret
  exact ⟨rfl, rfl⟩
theorem void_any (w : World) : Calls Tryd.prog 28 #[] w fun e w' => e = .returned (.int .u64 12) ∧ w = w' := by
  go_enter Tryd.func28, Tryd.ntmps28
  go_wp2_with (go_at_call 67; refine (sole_any _ (by omega) (by omega) _).mono ?_; rintro e w' ⟨rfl, rfl⟩)
  go_ret
  exact ⟨rfl, rfl⟩
theorem undef_any (w : World) : Calls Tryd.prog 29 #[] w fun e w' => e = .returned (.int .u64 20) ∧ w = w' := by
  go_enter Tryd.func29, Tryd.ntmps29
  go_wp2_with (go_at_call 67; refine (sole_any _ (by omega) (by omega) _).mono ?_; rintro e w' ⟨rfl, rfl⟩)
  go_ret
  exact ⟨rfl, rfl⟩

/-- what a maker gives: the word, or nothing and the error of that kind -/
def made (k t n : Int) : Value := if WM.hd t n then .tuple #[.int .u64 (WM.mk t n), .nilIface] else .tuple #[.int .u64 0, .iface 70 (.int .i64 k)]

theorem checked_any (t n : Int) (t0 : 0 ≤ t) (t1 : t < 8) (w : World) :
    Calls Tryd.prog 82 #[.int .u64 t, .int .i64 n] w fun e w' => e = .returned (made 2 t n) ∧ w = w' := by
  by_cases h : WM.hd t n = true
  · have H := Lib.hid h
    go_enter Tryd.func82, Tryd.ntmps82
    go_wp2_with (first | (go_at_call 70; refine (pack_any _ _ (by omega) (by omega) _).mono ?_; rintro e w' ⟨rfl, rfl⟩) | (go_at_call 66; refine (holds_any _ _ (by omega) (by omega) _).mono ?_; rintro e w' ⟨rfl, rfl⟩))
    go_ret2
    exact ⟨by simp [made, H.out], rfl⟩
  · replace h : WM.hd t n = false := by simpa using h
    have H := Lib.hid h
    go_enter Tryd.func82, Tryd.ntmps82
    go_wp2_with (first | (go_at_call 70; refine (pack_any _ _ (by omega) (by omega) _).mono ?_; rintro e w' ⟨rfl, rfl⟩) | (go_at_call 66; refine (holds_any _ _ (by omega) (by omega) _).mono ?_; rintro e w' ⟨rfl, rfl⟩))
    go_ret2
    exact ⟨by simp [made, H.out], rfl⟩

theorem fix_any (n : Int) (w : World) :
    Calls Tryd.prog 36 #[.int .i64 n] w fun e w' => e = .returned (made 11 0 n) ∧ w = w' := by
  by_cases h : WM.hd 0 n = true
  · have H := Lib.hid h
    go_enter Tryd.func36, Tryd.ntmps36
    go_wp2_with (first | (go_at_call 70; refine (pack_any _ _ (by omega) (by omega) _).mono ?_; rintro e w' ⟨rfl, rfl⟩) | (go_at_call 66; refine (holds_any _ _ (by omega) (by omega) _).mono ?_; rintro e w' ⟨rfl, rfl⟩))
    go_ret2
    exact ⟨by simp [made, H.out], rfl⟩
  · replace h : WM.hd 0 n = false := by simpa using h
    have H := Lib.hid h
    go_enter Tryd.func36, Tryd.ntmps36
    go_wp2_with (first | (go_at_call 70; refine (pack_any _ _ (by omega) (by omega) _).mono ?_; rintro e w' ⟨rfl, rfl⟩) | (go_at_call 66; refine (holds_any _ _ (by omega) (by omega) _).mono ?_; rintro e w' ⟨rfl, rfl⟩))
    go_ret2
    exact ⟨by simp [made, H.out], rfl⟩
theorem checked_yes (t n : Int) (t0 : 0 ≤ t) (t1 : t < 8) (h : WM.hd t n = true) (w : World) :
    Calls Tryd.prog 82 #[.int .u64 t, .int .i64 n] w fun e w' => e = .returned (.tuple #[.int .u64 (WM.mk t n), .nilIface]) ∧ w = w' := by
  have H := checked_any t n t0 t1 w
  simp only [made, h, if_true] at H
  exact H
theorem checked_no (t n : Int) (t0 : 0 ≤ t) (t1 : t < 8) (h : WM.hd t n = false) (w : World) :
    Calls Tryd.prog 82 #[.int .u64 t, .int .i64 n] w fun e w' => e = .returned (.tuple #[.int .u64 0, .iface 70 (.int .i64 2)]) ∧ w = w' := by
  have H := checked_any t n t0 t1 w
  simp only [made, h, Bool.false_eq_true, if_false] at H
  exact H

theorem cell_any (n : Int) (w : World) :
    Calls Tryd.prog 46 #[.int .i64 n] w fun e w' => e = .returned (made 2 1 n) ∧ w = w' := by
  by_cases h : WM.hd 1 n = true
  · have H := Lib.hid h
    go_enter Tryd.func46, Tryd.ntmps46
    go_wp2_with (go_at_call 82; refine (checked_yes _ _ (by omega) (by omega) H.out _).mono ?_; rintro e w' ⟨rfl, rfl⟩)
    go_ret2
    exact ⟨by simp [made, H.out], rfl⟩
  · replace h : WM.hd 1 n = false := by simpa using h
    have H := Lib.hid h
    go_enter Tryd.func46, Tryd.ntmps46
    go_wp2_with (go_at_call 82; refine (checked_no _ _ (by omega) (by omega) H.out _).mono ?_; rintro e w' ⟨rfl, rfl⟩)
    go_ret2
    exact ⟨by simp [made, H.out], rfl⟩

theorem kind_any (a : Int) (h0 : 0 ≤ a) (h1 : a < 18446744073709551616) (w : World) :
    Calls Tryd.prog 26 #[.int .u64 a] w fun e w' => e = .returned (.int .i64 (WM.kd a)) ∧ w = w' := by
  have H7 := WM.and7 a h0 h1
  have hb := WM.nm_bd a
  have ht : a % 8 = 0 ∨ a % 8 = 1 ∨ a % 8 = 2 ∨ a % 8 = 3 ∨ a % 8 = 4 ∨ a % 8 = 5 ∨ a % 8 = 6 ∨ a % 8 = 7 := by omega
  clear h0 h1
  rcases ht with ht | ht | ht | ht | ht | ht | ht | ht
  all_goals
    rw [ht] at H7
    have T := Lib.hid ht
    clear ht
    by_cases h : WM.hd (a % 8) (WM.nm a) = true
    · rw [T.out] at h
      go_enter Tryd.func26, Tryd.ntmps26
      go_wp2_with (first | (go_at_call 65; refine (number_any _ _).mono ?_; rintro e w' ⟨rfl, rfl⟩) | (go_at_call 66; refine (holds_any _ _ (by omega) (by omega) _).mono ?_; rintro e w' ⟨rfl, rfl⟩))
      go_ret
      refine ⟨ret_i ?_, rfl⟩
      first | (simp [WM.kd, T.out, WM.kt, h]; done) | (exfalso; simp [WM.hd, WM.least, WM.most] at h; omega)
    · replace h : WM.hd (a % 8) (WM.nm a) = false := by simpa using h
      have H := Lib.hid h
      rw [T.out] at h
      go_enter Tryd.func26, Tryd.ntmps26
      go_wp2_with (first | (go_at_call 65; refine (number_any _ _).mono ?_; rintro e w' ⟨rfl, rfl⟩) | (go_at_call 66; refine (holds_any _ _ (by omega) (by omega) _).mono ?_; rintro e w' ⟨rfl, rfl⟩))
      go_ret
      refine ⟨ret_i ?_, rfl⟩
      simp [WM.kd, H.out]
theorem value_any (a : Int) (h0 : 0 ≤ a) (h1 : a < 18446744073709551616) (w : World) :
    Calls Tryd.prog 96 #[.int .u64 a] w fun e w' => e = .returned (.int .i64 (WM.vl a)) ∧ w = w' := by
  by_cases h : WM.kd a = 0
  · have H := Lib.hid h
    have hb : (WM.kd a == 0) = true := by simpa using h
    clear h
    go_enter Tryd.func96, Tryd.ntmps96
    go_wp2_with (first | (go_at_call 26; refine (kind_any _ h0 h1 _).mono ?_; rintro e w' ⟨rfl, rfl⟩) | (go_at_call 65; refine (number_any _ _).mono ?_; rintro e w' ⟨rfl, rfl⟩))
    go_ret
    exact ⟨ret_i (by simp [WM.vl, H.out]), rfl⟩
  · have H := Lib.hid h
    have hb : (WM.kd a == 0) = false := by simpa using h
    clear h
    go_enter Tryd.func96, Tryd.ntmps96
    go_wp2_with (first | (go_at_call 26; refine (kind_any _ h0 h1 _).mono ?_; rintro e w' ⟨rfl, rfl⟩) | (go_at_call 65; refine (number_any _ _).mono ?_; rintro e w' ⟨rfl, rfl⟩))
    go_ret
    exact ⟨ret_i (by simp [WM.vl, H.out]), rfl⟩

end Go.Proofs.YtdfeapjjgpdcoaaDoor
