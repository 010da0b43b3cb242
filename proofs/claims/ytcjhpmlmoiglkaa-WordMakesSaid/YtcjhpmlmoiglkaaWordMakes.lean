/- The law on cells, characters, symbols and procedures: its inner function, and the law. -/
import Derived.Test.YtcjhpmlmoiglkaaWordAwake
namespace Go.Proofs.Ytcjhpmlmoiglkaa
open Go.ChangeShapes Go.WideShapes Go.ChangeAt Go.RowKit

theorem quiet_left {P : Program} {f : FuncId} {args : Array Value} {w : World} {n : Nat} {v : Value}
    (h : Calls P f args (w.drewN n) fun e w' => e = .returned v ∧ w.drewN n = w') : Calls P f args (w.drewN n) fun e w'' => e = .returned v ∧ ∃ m, w'' = w.drewN m :=
  h.mono fun _ _ ⟨he, hm⟩ => ⟨he, n, hm.symm⟩

theorem ok1_yes (n : Int) (p : Addr) (h : WM.hd 1 n = true) (w : World) (hc : w.cell? p = some (.int .i64 n)) :
    Calls Try.prog 23 #[.int .u64 (WM.mk 1 n), .nilIface, .int .i64 1, .int .i64 1099511627776, .pointer (some p)] w fun e w' => e = .returned (.bool true) ∧ ∃ k, w' = w.drewN k := by
  have hb : 0 ≤ n ∧ n ≤ 1099511627776 := by simpa [WM.hd, WM.least, WM.most] using h
  have hu := WM.mk_bd 1 n (by omega) (by omega)
  have hn := WM.nm_mk 1 n (by omega) (by omega) (by omega)
  have hk : WM.kd (WM.mk 1 n) = 2 := by simp [WM.kd, hn, WM.tg_mk, h, WM.kt]
  have hv : WM.vl (WM.mk 1 n) = n := by simp [WM.vl, hk, hn]
  obtain ⟨b1, b2⟩ := hb
  clear hn h
  have ix : ∀ w, (Instr.index 34 (.agg #[.int .i64 0, .int .i64 2, .int .i64 3, .int .i64 0, .int .i64 0, .int .i64 8, .int .i64 9]) (.int .i64 1)).run Try.prog w = .ok (.int .i64 2) w := fun _ => by kernel_rfl
  go_enter Try.func23, Try.ntmps23
  go_wp2
  go_quiet ((first
      | (go_at_call 13; exact quiet_left (make_any _ _ (by omega) (by omega) _))
      | (go_at_call 14; exact quiet_left (kind_any _ hu.1 hu.2 _))
      | (go_at_call 15; exact quiet_left (value_any _ hu.1 hu.2 _))))
  go_wp2
  go_ret
  exact ⟨rfl, _, rfl⟩

theorem ok1_no (n : Int) (p : Addr) (h : WM.hd 1 n = false) (w : World) (hc : w.cell? p = some (.int .i64 n)) :
    Calls Try.prog 23 #[.int .u64 0, .iface 30 (.int .i64 2), .int .i64 1, .int .i64 1099511627776, .pointer (some p)] w fun e w' => e = .returned (.bool true) ∧ w = w' := by
  have hb : n < 0 ∨ 0 ≤ n ∧ 1099511627776 < n := by
    have h' : ¬ (0 ≤ n ∧ n ≤ 1099511627776) := by simpa [WM.hd, WM.least, WM.most] using h
    omega
  clear h
  rcases hb with b1 | ⟨b1, b2⟩
  all_goals
    go_enter Try.func23, Try.ntmps23
    go_wp2_with (go_at_call 12; (with_reducible refine (is_same _ _).mono ?_); rintro e w' ⟨rfl, rfl⟩)
    go_ret
    exact ⟨rfl, rfl⟩

theorem ok2_yes (n : Int) (p : Addr) (h : WM.hd 2 n = true) (w : World) (hc : w.cell? p = some (.int .i64 n)) :
    Calls Try.prog 23 #[.int .u64 (WM.mk 2 n), .nilIface, .int .i64 2, .int .i64 255, .pointer (some p)] w fun e w' => e = .returned (.bool true) ∧ ∃ k, w' = w.drewN k := by
  have hb : 0 ≤ n ∧ n ≤ 255 := by simpa [WM.hd, WM.least, WM.most] using h
  have hu := WM.mk_bd 2 n (by omega) (by omega)
  have hn := WM.nm_mk 2 n (by omega) (by omega) (by omega)
  have hk : WM.kd (WM.mk 2 n) = 3 := by simp [WM.kd, hn, WM.tg_mk, h, WM.kt]
  have hv : WM.vl (WM.mk 2 n) = n := by simp [WM.vl, hk, hn]
  obtain ⟨b1, b2⟩ := hb
  clear hn h
  have ix : ∀ w, (Instr.index 34 (.agg #[.int .i64 0, .int .i64 2, .int .i64 3, .int .i64 0, .int .i64 0, .int .i64 8, .int .i64 9]) (.int .i64 2)).run Try.prog w = .ok (.int .i64 3) w := fun _ => by kernel_rfl
  go_enter Try.func23, Try.ntmps23
  go_wp2
  go_quiet ((first
      | (go_at_call 13; exact quiet_left (make_any _ _ (by omega) (by omega) _))
      | (go_at_call 14; exact quiet_left (kind_any _ hu.1 hu.2 _))
      | (go_at_call 15; exact quiet_left (value_any _ hu.1 hu.2 _))))
  go_wp2
  go_ret
  exact ⟨rfl, _, rfl⟩

theorem ok2_no (n : Int) (p : Addr) (h : WM.hd 2 n = false) (w : World) (hc : w.cell? p = some (.int .i64 n)) :
    Calls Try.prog 23 #[.int .u64 0, .iface 30 (.int .i64 2), .int .i64 2, .int .i64 255, .pointer (some p)] w fun e w' => e = .returned (.bool true) ∧ w = w' := by
  have hb : n < 0 ∨ 0 ≤ n ∧ 255 < n := by
    have h' : ¬ (0 ≤ n ∧ n ≤ 255) := by simpa [WM.hd, WM.least, WM.most] using h
    omega
  clear h
  rcases hb with b1 | ⟨b1, b2⟩
  all_goals
    go_enter Try.func23, Try.ntmps23
    go_wp2_with (go_at_call 12; (with_reducible refine (is_same _ _).mono ?_); rintro e w' ⟨rfl, rfl⟩)
    go_ret
    exact ⟨rfl, rfl⟩

theorem ok5_yes (n : Int) (p : Addr) (h : WM.hd 5 n = true) (w : World) (hc : w.cell? p = some (.int .i64 n)) :
    Calls Try.prog 23 #[.int .u64 (WM.mk 5 n), .nilIface, .int .i64 5, .int .i64 4095, .pointer (some p)] w fun e w' => e = .returned (.bool true) ∧ ∃ k, w' = w.drewN k := by
  have hb : 0 ≤ n ∧ n ≤ 4095 := by simpa [WM.hd, WM.least, WM.most] using h
  have hu := WM.mk_bd 5 n (by omega) (by omega)
  have hn := WM.nm_mk 5 n (by omega) (by omega) (by omega)
  have hk : WM.kd (WM.mk 5 n) = 8 := by simp [WM.kd, hn, WM.tg_mk, h, WM.kt]
  have hv : WM.vl (WM.mk 5 n) = n := by simp [WM.vl, hk, hn]
  obtain ⟨b1, b2⟩ := hb
  clear hn h
  have ix : ∀ w, (Instr.index 34 (.agg #[.int .i64 0, .int .i64 2, .int .i64 3, .int .i64 0, .int .i64 0, .int .i64 8, .int .i64 9]) (.int .i64 5)).run Try.prog w = .ok (.int .i64 8) w := fun _ => by kernel_rfl
  go_enter Try.func23, Try.ntmps23
  go_wp2
  go_quiet ((first
      | (go_at_call 13; exact quiet_left (make_any _ _ (by omega) (by omega) _))
      | (go_at_call 14; exact quiet_left (kind_any _ hu.1 hu.2 _))
      | (go_at_call 15; exact quiet_left (value_any _ hu.1 hu.2 _))))
  go_wp2
  go_ret
  exact ⟨rfl, _, rfl⟩

theorem ok5_no (n : Int) (p : Addr) (h : WM.hd 5 n = false) (w : World) (hc : w.cell? p = some (.int .i64 n)) :
    Calls Try.prog 23 #[.int .u64 0, .iface 30 (.int .i64 2), .int .i64 5, .int .i64 4095, .pointer (some p)] w fun e w' => e = .returned (.bool true) ∧ w = w' := by
  have hb : n < 0 ∨ 0 ≤ n ∧ 4095 < n := by
    have h' : ¬ (0 ≤ n ∧ n ≤ 4095) := by simpa [WM.hd, WM.least, WM.most] using h
    omega
  clear h
  rcases hb with b1 | ⟨b1, b2⟩
  all_goals
    go_enter Try.func23, Try.ntmps23
    go_wp2_with (go_at_call 12; (with_reducible refine (is_same _ _).mono ?_); rintro e w' ⟨rfl, rfl⟩)
    go_ret
    exact ⟨rfl, rfl⟩

theorem ok6_yes (n : Int) (p : Addr) (h : WM.hd 6 n = true) (w : World) (hc : w.cell? p = some (.int .i64 n)) :
    Calls Try.prog 23 #[.int .u64 (WM.mk 6 n), .nilIface, .int .i64 6, .int .i64 255, .pointer (some p)] w fun e w' => e = .returned (.bool true) ∧ ∃ k, w' = w.drewN k := by
  have hb : 0 ≤ n ∧ n ≤ 255 := by simpa [WM.hd, WM.least, WM.most] using h
  have hu := WM.mk_bd 6 n (by omega) (by omega)
  have hn := WM.nm_mk 6 n (by omega) (by omega) (by omega)
  have hk : WM.kd (WM.mk 6 n) = 9 := by simp [WM.kd, hn, WM.tg_mk, h, WM.kt]
  have hv : WM.vl (WM.mk 6 n) = n := by simp [WM.vl, hk, hn]
  obtain ⟨b1, b2⟩ := hb
  clear hn h
  have ix : ∀ w, (Instr.index 34 (.agg #[.int .i64 0, .int .i64 2, .int .i64 3, .int .i64 0, .int .i64 0, .int .i64 8, .int .i64 9]) (.int .i64 6)).run Try.prog w = .ok (.int .i64 9) w := fun _ => by kernel_rfl
  go_enter Try.func23, Try.ntmps23
  go_wp2
  go_quiet ((first
      | (go_at_call 13; exact quiet_left (make_any _ _ (by omega) (by omega) _))
      | (go_at_call 14; exact quiet_left (kind_any _ hu.1 hu.2 _))
      | (go_at_call 15; exact quiet_left (value_any _ hu.1 hu.2 _))))
  go_wp2
  go_ret
  exact ⟨rfl, _, rfl⟩

theorem ok6_no (n : Int) (p : Addr) (h : WM.hd 6 n = false) (w : World) (hc : w.cell? p = some (.int .i64 n)) :
    Calls Try.prog 23 #[.int .u64 0, .iface 30 (.int .i64 2), .int .i64 6, .int .i64 255, .pointer (some p)] w fun e w' => e = .returned (.bool true) ∧ w = w' := by
  have hb : n < 0 ∨ 0 ≤ n ∧ 255 < n := by
    have h' : ¬ (0 ≤ n ∧ n ≤ 255) := by simpa [WM.hd, WM.least, WM.most] using h
    omega
  clear h
  rcases hb with b1 | ⟨b1, b2⟩
  all_goals
    go_enter Try.func23, Try.ntmps23
    go_wp2_with (go_at_call 12; (with_reducible refine (is_same _ _).mono ?_); rintro e w' ⟨rfl, rfl⟩)
    go_ret
    exact ⟨rfl, rfl⟩

def mw (t n : Int) : Int := if WM.hd t n then WM.mk t n else 0
def me (t n : Int) : Value := if WM.hd t n then .nilIface else .iface 30 (.int .i64 2)
theorem made_eq (t n : Int) : made 2 t n = .tuple #[.int .u64 (mw t n), me t n] := by
  unfold made mw me; split <;> rfl

theorem cell_pair (n : Int) (w : World) :
    Calls Try.prog 19 #[.int .i64 n] w fun e w' => e = .returned (.tuple #[.int .u64 (mw 1 n), me 1 n]) ∧ w = w' := by
  rw [← made_eq]; exact cell_any n w
theorem ok1_any (n : Int) (p : Addr) (w : World) (hc : w.cell? p = some (.int .i64 n)) :
    Calls Try.prog 23 #[.int .u64 (mw 1 n), me 1 n, .int .i64 1, .int .i64 1099511627776, .pointer (some p)] w fun e w' => e = .returned (.bool true) ∧ ∃ k, w' = w.drewN k := by
  by_cases h : WM.hd 1 n = true
  · simp only [mw, me, h, if_true]
    exact ok1_yes n p h w hc
  · replace h : WM.hd 1 n = false := by simpa using h
    simp only [mw, me, h, Bool.false_eq_true, if_false]
    exact (ok1_no n p h w hc).mono fun _ _ ⟨he, hw⟩ => ⟨he, 0, hw.symm⟩

theorem char_pair (n : Int) (w : World) :
    Calls Try.prog 20 #[.int .i64 n] w fun e w' => e = .returned (.tuple #[.int .u64 (mw 2 n), me 2 n]) ∧ w = w' := by
  rw [← made_eq]; exact char_any n w
theorem ok2_any (n : Int) (p : Addr) (w : World) (hc : w.cell? p = some (.int .i64 n)) :
    Calls Try.prog 23 #[.int .u64 (mw 2 n), me 2 n, .int .i64 2, .int .i64 255, .pointer (some p)] w fun e w' => e = .returned (.bool true) ∧ ∃ k, w' = w.drewN k := by
  by_cases h : WM.hd 2 n = true
  · simp only [mw, me, h, if_true]
    exact ok2_yes n p h w hc
  · replace h : WM.hd 2 n = false := by simpa using h
    simp only [mw, me, h, Bool.false_eq_true, if_false]
    exact (ok2_no n p h w hc).mono fun _ _ ⟨he, hw⟩ => ⟨he, 0, hw.symm⟩

theorem symbol_pair (n : Int) (w : World) :
    Calls Try.prog 21 #[.int .i64 n] w fun e w' => e = .returned (.tuple #[.int .u64 (mw 5 n), me 5 n]) ∧ w = w' := by
  rw [← made_eq]; exact symbol_any n w
theorem ok5_any (n : Int) (p : Addr) (w : World) (hc : w.cell? p = some (.int .i64 n)) :
    Calls Try.prog 23 #[.int .u64 (mw 5 n), me 5 n, .int .i64 5, .int .i64 4095, .pointer (some p)] w fun e w' => e = .returned (.bool true) ∧ ∃ k, w' = w.drewN k := by
  by_cases h : WM.hd 5 n = true
  · simp only [mw, me, h, if_true]
    exact ok5_yes n p h w hc
  · replace h : WM.hd 5 n = false := by simpa using h
    simp only [mw, me, h, Bool.false_eq_true, if_false]
    exact (ok5_no n p h w hc).mono fun _ _ ⟨he, hw⟩ => ⟨he, 0, hw.symm⟩

theorem prim_pair (n : Int) (w : World) :
    Calls Try.prog 22 #[.int .i64 n] w fun e w' => e = .returned (.tuple #[.int .u64 (mw 6 n), me 6 n]) ∧ w = w' := by
  rw [← made_eq]; exact prim_any n w
theorem ok6_any (n : Int) (p : Addr) (w : World) (hc : w.cell? p = some (.int .i64 n)) :
    Calls Try.prog 23 #[.int .u64 (mw 6 n), me 6 n, .int .i64 6, .int .i64 255, .pointer (some p)] w fun e w' => e = .returned (.bool true) ∧ ∃ k, w' = w.drewN k := by
  by_cases h : WM.hd 6 n = true
  · simp only [mw, me, h, if_true]
    exact ok6_yes n p h w hc
  · replace h : WM.hd 6 n = false := by simpa using h
    simp only [mw, me, h, Bool.false_eq_true, if_false]
    exact (ok6_no n p h w hc).mono fun _ _ ⟨he, hw⟩ => ⟨he, 0, hw.symm⟩

theorem wordMakes_walk (n : Int) (w : World) :
    Calls Try.prog 5 #[.int .i64 n] w fun e w' => e = .returned (.bool true) ∧ Grown w w' := by
  go_enter Try.func5, Try.ntmps5
  go_wp2_with (first
      | (go_at_call 19; (with_reducible refine (cell_pair _ _).mono ?_); rintro e w' ⟨rfl, rfl⟩)
      | (go_at_call 20; (with_reducible refine (char_pair _ _).mono ?_); rintro e w' ⟨rfl, rfl⟩)
      | (go_at_call 21; (with_reducible refine (symbol_pair _ _).mono ?_); rintro e w' ⟨rfl, rfl⟩)
      | (go_at_call 22; (with_reducible refine (prim_pair _ _).mono ?_); rintro e w' ⟨rfl, rfl⟩)
      | (go_at_call 11; (with_reducible refine (awake_any _).mono ?_); rintro e w' ⟨rfl, rfl⟩)
      | (go_at_call 23; (with_reducible refine (ok1_any _ _ _ (by go_simp)).mono ?_); rintro e w' ⟨rfl, k1, rfl⟩)
      | (go_at_call 23; (with_reducible refine (ok2_any _ _ _ (by go_simp)).mono ?_); rintro e w' ⟨rfl, k2, rfl⟩)
      | (go_at_call 23; (with_reducible refine (ok5_any _ _ _ (by go_simp)).mono ?_); rintro e w' ⟨rfl, k5, rfl⟩)
      | (go_at_call 23; (with_reducible refine (ok6_any _ _ _ (by go_simp)).mono ?_); rintro e w' ⟨rfl, k6, rfl⟩))
  go_ret
  exact ⟨rfl, ((Grown.refl w).alloc _ _)⟩
end Go.Proofs.Ytcjhpmlmoiglkaa
