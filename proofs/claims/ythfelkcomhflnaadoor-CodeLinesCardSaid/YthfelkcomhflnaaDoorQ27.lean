/- Package code: isRight, a kind at a time, the others. -/
import Derived.Test.YthfelkcomhflnaaDoorQ26
namespace Go.Proofs.YthfelkcomhflnaaDoor
open Go.ChangeShapes Go.WideShapes Go.ChangeAt Go.RowKit Go.Deep
open CD (Ins)

section
variable (w : World) (a b : Int) (S : ByteArray) (dk dn : Int) (dS : ByteArray) (I : Option Addr) (M c7 : Nat) (n : Int) (nb : Bool)
set_option maxRecDepth 100000 in
set_option maxHeartbeats 8000000 in
theorem ins2 (k : Int) (hk : k = 2 ∨ k = 4) (hE : ∀ w' : World, Calls Tryd.prog 40 #[.agg #[.int .i64 dk, .int .i64 dn, .string dS, .slice I M c7]] w' fun e w2 => e = .returned (.bool nb) ∧ Went w' w2) :
    Calls Tryd.prog 27 #[.agg #[.int .i64 k, .int .i64 a, .int .i64 b, .string S, .int .i64 dk, .int .i64 dn, .string dS, .slice I M c7], .int .i64 n] w
      fun e w' => e = .returned (.bool (decide (0 ≤ a ∧ a ≤ 200) && decide (0 ≤ b ∧ b ≤ 23) && decide (S.data.toList = []) && nb)) ∧ Went w w' := by
  have hE' := Lib.hid hE
  clear hE
  obtain ⟨u1, hU1e⟩ : ∃ u1, decide (0 ≤ a ∧ a ≤ 200) = u1 := ⟨_, rfl⟩
  have hU1' := Lib.hid (fun w' : World => by have := upTo_any a 200 w'; rw [hU1e] at this; exact this)
  rw [hU1e]
  clear hU1e
  obtain ⟨u2, hU2e⟩ : ∃ u2, decide (0 ≤ b ∧ b ≤ 23) = u2 := ⟨_, rfl⟩
  have hU2' := Lib.hid (fun w' : World => by have := upTo_any b 23 w'; rw [hU2e] at this; exact this)
  rw [hU2e]
  clear hU2e
  obtain ⟨se, hse0⟩ : ∃ se, decide (S.data.toList = []) = se := ⟨_, rfl⟩
  rw [hse0]
  have hse := Lib.hid hse0
  clear hse0
  rcases hk with rfl | rfl
  all_goals
    cases u1
    · go_enter Tryd.func27, Tryd.ntmps27
      go_wp2_with (first
        | (go_at_call 37; (with_reducible refine (hU1'.out _).mono ?_); rintro e w2 ⟨rfl, rfl⟩)
        | (go_at_call 37; (with_reducible refine (hU2'.out _).mono ?_); rintro e w2 ⟨rfl, rfl⟩)
        | (go_at_call 40; refine (hE'.out _).mono ?_; rintro e w9 ⟨rfl, hb9⟩))
      go_ret
      first
        | exact ⟨ret_b (by simp []), (Below.refl _ w).alloc (Nat.le_refl _) _⟩
        | exact ⟨ret_b (by simp []), went_then ((Below.refl _ w).alloc (Nat.le_refl _) _) hb9⟩
    · cases u2
      · go_enter Tryd.func27, Tryd.ntmps27
        go_wp2_with (first
          | (go_at_call 37; (with_reducible refine (hU1'.out _).mono ?_); rintro e w2 ⟨rfl, rfl⟩)
          | (go_at_call 37; (with_reducible refine (hU2'.out _).mono ?_); rintro e w2 ⟨rfl, rfl⟩)
          | (go_at_call 40; refine (hE'.out _).mono ?_; rintro e w9 ⟨rfl, hb9⟩))
        go_ret
        first
          | exact ⟨ret_b (by simp []), (Below.refl _ w).alloc (Nat.le_refl _) _⟩
          | exact ⟨ret_b (by simp []), went_then ((Below.refl _ w).alloc (Nat.le_refl _) _) hb9⟩
      · rcases Nat.eq_zero_or_pos S.size with hS0 | hS0
        · obtain ⟨e1, e3, e4⟩ := empty_yes (s := S) hS0
          obtain rfl : se = true := by rw [← hse.out]; exact decide_eq_true e4
          clear e4
          go_enter Tryd.func27, Tryd.ntmps27
          go_wp2_with (first
            | (go_at_call 37; (with_reducible refine (hU1'.out _).mono ?_); rintro e w2 ⟨rfl, rfl⟩)
            | (go_at_call 37; (with_reducible refine (hU2'.out _).mono ?_); rintro e w2 ⟨rfl, rfl⟩)
            | (go_at_call 40; refine (hE'.out _).mono ?_; rintro e w9 ⟨rfl, hb9⟩))
          go_ret
          first
            | exact ⟨ret_b (by simp []), (Below.refl _ w).alloc (Nat.le_refl _) _⟩
            | exact ⟨ret_b (by simp []), went_then ((Below.refl _ w).alloc (Nat.le_refl _) _) hb9⟩
        · obtain ⟨e1, e3⟩ := empty_no (s := S) hS0
          obtain rfl : se = false := by rw [← hse.out]; exact decide_eq_false (full_list (S := S) hS0)
          go_enter Tryd.func27, Tryd.ntmps27
          go_wp2_with (first
            | (go_at_call 37; (with_reducible refine (hU1'.out _).mono ?_); rintro e w2 ⟨rfl, rfl⟩)
            | (go_at_call 37; (with_reducible refine (hU2'.out _).mono ?_); rintro e w2 ⟨rfl, rfl⟩)
            | (go_at_call 40; refine (hE'.out _).mono ?_; rintro e w9 ⟨rfl, hb9⟩))
          go_ret
          first
            | exact ⟨ret_b (by simp []), (Below.refl _ w).alloc (Nat.le_refl _) _⟩
            | exact ⟨ret_b (by simp []), went_then ((Below.refl _ w).alloc (Nat.le_refl _) _) hb9⟩
set_option maxRecDepth 100000 in
set_option maxHeartbeats 8000000 in
theorem ins9 (k : Int) (hk : k = 9) (hE : ∀ w' : World, Calls Tryd.prog 40 #[.agg #[.int .i64 dk, .int .i64 dn, .string dS, .slice I M c7]] w' fun e w2 => e = .returned (.bool nb) ∧ Went w' w2) (hn : 1 ≤ n ∧ n ≤ 1000000) :
    Calls Tryd.prog 27 #[.agg #[.int .i64 k, .int .i64 a, .int .i64 b, .string S, .int .i64 dk, .int .i64 dn, .string dS, .slice I M c7], .int .i64 n] w
      fun e w' => e = .returned (.bool (decide (0 ≤ b ∧ b ≤ 49 ∧ b ≠ 1) && decide (0 ≤ a ∧ a < n) && decide (S.data.toList = []) && nb)) ∧ Went w w' := by
  have hE' := Lib.hid hE
  clear hE
  obtain ⟨tk, hTe⟩ : ∃ tk, decide (0 ≤ b ∧ b ≤ 49 ∧ b ≠ 1) = tk := ⟨_, rfl⟩
  have hT' := Lib.hid (fun w' : World => by have := takes_p b w'; rw [hTe] at this; exact this)
  rw [hTe]
  clear hTe
  obtain ⟨pl, hPe⟩ : ∃ pl, decide (0 ≤ a ∧ a < n) = pl := ⟨_, rfl⟩
  have hP' := Lib.hid (fun w' : World => by have := upTo_any a (n - 1) w'; rw [show decide (0 ≤ a ∧ a ≤ n - 1) = pl by rw [← hPe]; congr 1; rw [eq_iff_iff]; omega] at this; exact this)
  rw [hPe]
  clear hPe
  obtain ⟨se, hse0⟩ : ∃ se, decide (S.data.toList = []) = se := ⟨_, rfl⟩
  rw [hse0]
  have hse := Lib.hid hse0
  clear hse0
  obtain rfl := hk
  cases tk
  · go_enter Tryd.func27, Tryd.ntmps27
    go_wp2_with (first
      | (go_at_call 39; refine (hT'.out _).mono ?_; rintro e w2 ⟨rfl, rfl⟩)
      | (go_at_call 37; (with_reducible refine (hP'.out _).mono ?_); rintro e w2 ⟨rfl, rfl⟩)
      | (go_at_call 40; refine (hE'.out _).mono ?_; rintro e w9 ⟨rfl, hb9⟩))
    go_ret
    first
      | exact ⟨ret_b (by simp []), (Below.refl _ w).alloc (Nat.le_refl _) _⟩
      | exact ⟨ret_b (by simp []), went_then ((Below.refl _ w).alloc (Nat.le_refl _) _) hb9⟩
  · cases pl
    · go_enter Tryd.func27, Tryd.ntmps27
      go_wp2_with (first
        | (go_at_call 39; refine (hT'.out _).mono ?_; rintro e w2 ⟨rfl, rfl⟩)
        | (go_at_call 37; (with_reducible refine (hP'.out _).mono ?_); rintro e w2 ⟨rfl, rfl⟩)
        | (go_at_call 40; refine (hE'.out _).mono ?_; rintro e w9 ⟨rfl, hb9⟩))
      go_ret
      first
        | exact ⟨ret_b (by simp []), (Below.refl _ w).alloc (Nat.le_refl _) _⟩
        | exact ⟨ret_b (by simp []), went_then ((Below.refl _ w).alloc (Nat.le_refl _) _) hb9⟩
    · rcases Nat.eq_zero_or_pos S.size with hS0 | hS0
      · obtain ⟨e1, e3, e4⟩ := empty_yes (s := S) hS0
        obtain rfl : se = true := by rw [← hse.out]; exact decide_eq_true e4
        clear e4
        go_enter Tryd.func27, Tryd.ntmps27
        go_wp2_with (first
          | (go_at_call 39; refine (hT'.out _).mono ?_; rintro e w2 ⟨rfl, rfl⟩)
          | (go_at_call 37; (with_reducible refine (hP'.out _).mono ?_); rintro e w2 ⟨rfl, rfl⟩)
          | (go_at_call 40; refine (hE'.out _).mono ?_; rintro e w9 ⟨rfl, hb9⟩))
        go_ret
        first
          | exact ⟨ret_b (by simp []), (Below.refl _ w).alloc (Nat.le_refl _) _⟩
          | exact ⟨ret_b (by simp []), went_then ((Below.refl _ w).alloc (Nat.le_refl _) _) hb9⟩
      · obtain ⟨e1, e3⟩ := empty_no (s := S) hS0
        obtain rfl : se = false := by rw [← hse.out]; exact decide_eq_false (full_list (S := S) hS0)
        go_enter Tryd.func27, Tryd.ntmps27
        go_wp2_with (first
          | (go_at_call 39; refine (hT'.out _).mono ?_; rintro e w2 ⟨rfl, rfl⟩)
          | (go_at_call 37; (with_reducible refine (hP'.out _).mono ?_); rintro e w2 ⟨rfl, rfl⟩)
          | (go_at_call 40; refine (hE'.out _).mono ?_; rintro e w9 ⟨rfl, hb9⟩))
        go_ret
        first
          | exact ⟨ret_b (by simp []), (Below.refl _ w).alloc (Nat.le_refl _) _⟩
          | exact ⟨ret_b (by simp []), went_then ((Below.refl _ w).alloc (Nat.le_refl _) _) hb9⟩
set_option maxRecDepth 100000 in
set_option maxHeartbeats 8000000 in
theorem ins11 (k : Int) (hk : k = 11 ∨ k = 14) (hE : ∀ w' : World, Calls Tryd.prog 40 #[.agg #[.int .i64 dk, .int .i64 dn, .string dS, .slice I M c7]] w' fun e w2 => e = .returned (.bool nb) ∧ Went w' w2) :
    Calls Tryd.prog 27 #[.agg #[.int .i64 k, .int .i64 a, .int .i64 b, .string S, .int .i64 dk, .int .i64 dn, .string dS, .slice I M c7], .int .i64 n] w
      fun e w' => e = .returned (.bool (decide (a = 0) && decide (b = 0) && decide (S.data.toList = []) && nb)) ∧ Went w w' := by
  have hE' := Lib.hid hE
  clear hE
  obtain ⟨se, hse0⟩ : ∃ se, decide (S.data.toList = []) = se := ⟨_, rfl⟩
  rw [hse0]
  have hse := Lib.hid hse0
  clear hse0
  rcases hk with rfl | rfl
  all_goals
    by_cases ha : a = 0
    · subst ha
      by_cases hb : b = 0
      · subst hb
        rcases Nat.eq_zero_or_pos S.size with hS0 | hS0
        · obtain ⟨e1, e3, e4⟩ := empty_yes (s := S) hS0
          obtain rfl : se = true := by rw [← hse.out]; exact decide_eq_true e4
          clear e4
          go_enter Tryd.func27, Tryd.ntmps27
          go_wp2_with (first
            | (go_at_call 40; refine (hE'.out _).mono ?_; rintro e w9 ⟨rfl, hb9⟩))
          go_ret
          first
            | exact ⟨ret_b (by simp []), (Below.refl _ w).alloc (Nat.le_refl _) _⟩
            | exact ⟨ret_b (by simp []), went_then ((Below.refl _ w).alloc (Nat.le_refl _) _) hb9⟩
        · obtain ⟨e1, e3⟩ := empty_no (s := S) hS0
          obtain rfl : se = false := by rw [← hse.out]; exact decide_eq_false (full_list (S := S) hS0)
          go_enter Tryd.func27, Tryd.ntmps27
          go_wp2_with (first
            | (go_at_call 40; refine (hE'.out _).mono ?_; rintro e w9 ⟨rfl, hb9⟩))
          go_ret
          first
            | exact ⟨ret_b (by simp []), (Below.refl _ w).alloc (Nat.le_refl _) _⟩
            | exact ⟨ret_b (by simp []), went_then ((Below.refl _ w).alloc (Nat.le_refl _) _) hb9⟩
      · go_enter Tryd.func27, Tryd.ntmps27
        go_wp2_with (first
          | (go_at_call 40; refine (hE'.out _).mono ?_; rintro e w9 ⟨rfl, hb9⟩))
        go_ret
        first
          | exact ⟨ret_b (by simp [hb]), (Below.refl _ w).alloc (Nat.le_refl _) _⟩
          | exact ⟨ret_b (by simp [hb]), went_then ((Below.refl _ w).alloc (Nat.le_refl _) _) hb9⟩
    · go_enter Tryd.func27, Tryd.ntmps27
      go_wp2_with (first
        | (go_at_call 40; refine (hE'.out _).mono ?_; rintro e w9 ⟨rfl, hb9⟩))
      go_ret
      first
        | exact ⟨ret_b (by simp [ha]), (Below.refl _ w).alloc (Nat.le_refl _) _⟩
        | exact ⟨ret_b (by simp [ha]), went_then ((Below.refl _ w).alloc (Nat.le_refl _) _) hb9⟩
end
end Go.Proofs.YthfelkcomhflnaaDoor
