/- The document's own store, the number of an error's kind, and the closed part of every law of layer 3. -/
import Derived.Test.YtbcmogokdkcneaaStoreNew
import Derived.Test.YtbcmogokdkcneaaErrIs
import Derived.Deep.RegionWith
namespace Go.Proofs.Ytbcmogokdkcneaa
open Go.ChangeShapes Go.WideShapes Go.ChangeAt Go.RowKit

theorem rget_any (p b : Nat) (xs : List Int) (c i : Int) (w : World) (hs : St 33 w p b xs c) (hc0 : 0 ≤ c) (hc1 : c ≤ 4611686018427387904) :
    Calls Try.prog 12 #[.pointer (some ⟨p, 0, none⟩), .int .i64 i] w fun e w' =>
      e = .returned (.tuple #[.int .u64 (gv xs i), .int .i64 (gk xs.length i)]) ∧ St 33 w' p b xs (c + hit xs.length i) ∧ Turns (· = p) w w' := by
  have hs' := hs.counted (by decide) (c + 1)
  have ht' := (Turns.refl (· = p) w).setCell (p := ⟨p, 1, none⟩) (fun _ => rfl) (.int .i64 (c + 1))
  have hne := hs.ne (by decide)
  obtain ⟨cap, rest, hcap, l0, l1⟩ := id hs
  have c0 : w.cell? ⟨p, 0, none⟩ = some (.slice (some ⟨b, 0, none⟩) xs.length cap) := l0.cell 0
  have c1 : w.cell? ⟨p, 1, none⟩ = some (.int .i64 c) := l0.cell 1
  have f1 : w.frozen? ⟨p, 1, none⟩ = false := l0.free 1
  cases hi : inside xs.length i
  · rw [gv, gk, hit, if_neg (by simp [hi]), if_neg (by simp [hi]), if_neg (by simp [hi]), Int.add_zero]
    clear l0 l1 hs' ht'
    rcases inside_no hi with h | ⟨h, h'⟩
    all_goals
      clear hi
      go_enter Try.func12, Try.ntmps12
      go_wp2
      go_ret2
      exact ⟨rfl, hs, Turns.refl _ _⟩
  · rw [gv, gk, hit, if_pos hi, if_pos hi, if_pos hi]
    obtain ⟨h, h'⟩ := inside_yes hi
    obtain ⟨n, rfl⟩ := Int.eq_ofNat_of_zero_le h
    rw [Int.toNat_natCast]
    have m0 : (w.setCell ⟨p, 1, none⟩ (.int .i64 (c + 1))).cell? ⟨p, 0, none⟩ = some (.slice (some ⟨b, 0, none⟩) xs.length cap) := (l0.stored 1 _).cell 0
    have m1 : (w.setCell ⟨p, 1, none⟩ (.int .i64 (c + 1))).cell? ⟨b, n, none⟩ = some (.int .u64 (xs.getD n 0)) := ((l1.far (p := ⟨p, 1, none⟩) (fun e => hne e.symm) _).cell n).trans (nth_word xs rest n (by omega))
    clear hi l0 l1
    go_enter Try.func12, Try.ntmps12
    go_wp2
    go_ret2
    exact ⟨rfl, hs', ht'⟩

theorem rset_any (p b : Nat) (xs : List Int) (c i v : Int) (w : World) (hs : St 33 w p b xs c) (hc0 : 0 ≤ c) (hc1 : c ≤ 4611686018427387904) :
    Calls Try.prog 14 #[.pointer (some ⟨p, 0, none⟩), .int .i64 i, .int .u64 v] w fun e w' =>
      e = .returned (.int .i64 (gk xs.length i)) ∧ St 33 w' p b (sv xs i v) (c + hit xs.length i) ∧ Turns (fun k => k = p ∨ k = b) w w' := by
  have hs' := hs.counted (by decide) (c + 1)
  have ht' := (Turns.refl (· = p) w).setCell (p := ⟨p, 1, none⟩) (fun _ => rfl) (.int .i64 (c + 1))
  have hne := hs.ne (by decide)
  obtain ⟨cap, rest, hcap, l0, l1⟩ := id hs
  have c0 : w.cell? ⟨p, 0, none⟩ = some (.slice (some ⟨b, 0, none⟩) xs.length cap) := l0.cell 0
  have c1 : w.cell? ⟨p, 1, none⟩ = some (.int .i64 c) := l0.cell 1
  have f1 : w.frozen? ⟨p, 1, none⟩ = false := l0.free 1
  cases hi : inside xs.length i
  · rw [sv, gk, hit, if_neg (by simp [hi]), if_neg (by simp [hi]), if_neg (by simp [hi]), Int.add_zero]
    clear l0 l1 hs' ht'
    rcases inside_no hi with h | ⟨h, h'⟩
    all_goals
      clear hi
      go_enter Try.func14, Try.ntmps14
      go_wp2
      go_ret
      exact ⟨rfl, hs, Turns.refl _ _⟩
  · rw [sv, gk, hit, if_pos hi, if_pos hi, if_pos hi]
    obtain ⟨h, h'⟩ := inside_yes hi
    obtain ⟨n, rfl⟩ := Int.eq_ofNat_of_zero_le h
    rw [Int.toNat_natCast]
    have m0 : (w.setCell ⟨p, 1, none⟩ (.int .i64 (c + 1))).cell? ⟨p, 0, none⟩ = some (.slice (some ⟨b, 0, none⟩) xs.length cap) := (l0.stored 1 _).cell 0
    have m1 : (w.setCell ⟨p, 1, none⟩ (.int .i64 (c + 1))).cell? ⟨b, n, none⟩ = some (.int .u64 (xs.getD n 0)) := ((l1.far (p := ⟨p, 1, none⟩) (fun e => hne e.symm) _).cell n).trans (nth_word xs rest n (by omega))
    have m2 : w.frozen? ⟨b, n, none⟩ = false := l1.free n
    clear hi l0 l1
    go_enter Try.func14, Try.ntmps14
    go_wp2
    go_ret
    exact ⟨rfl, hs'.written (by decide) (by omega) v, (ht'.mono fun _ _ e => .inl e).setCell (p := ⟨b, n, none⟩) (fun _ => .inr rfl) _⟩

theorem within_any (i n : Int) (w : World) :
    Calls Try.prog 18 #[.int .i64 i, .int .i64 n] w fun e w' => e = .returned (.bool (decide (0 ≤ i ∧ i < n))) ∧ w = w' := by
  go_enter Try.func18, Try.ntmps18
  go_wp2
  all_goals
    go_ret
    refine ⟨ret_b ?_, rfl⟩
    simp <;> omega

theorem kind_no (w : World) :
    Calls Try.prog 10 #[.nilIface] w fun e w' => e = .returned (.int .i64 0) ∧ w = w' := by
  go_enter Try.func10, Try.ntmps10
  go_wp2
  go_ret
  exact ⟨rfl, rfl⟩

theorem kind_yes (k : Int) (h0 : 1 ≤ k) (h1 : k ≤ 3) (w : World) :
    Calls Try.prog 10 #[.iface 54 (.int .i64 k)] w fun e w' => e = .returned (.int .i64 k) ∧ Below w.heap.size w w' := by
  have o12 := fun w => Lib.hid (is_other 2 1 (by decide) w)
  have o13 := fun w => Lib.hid (is_other 3 1 (by decide) w)
  have o23 := fun w => Lib.hid (is_other 3 2 (by decide) w)
  have hk : k = 1 ∨ k = 2 ∨ k = 3 := by omega
  clear h0 h1
  rcases hk with rfl | rfl | rfl
  · go_enter Try.func10, Try.ntmps10
    go_wp2
    refine wp_loop_rounds 1 ?_
    rw [rounds_succ]
    go_wp2_with (go_at_call 19; (with_reducible refine (is_same _ _).mono ?_); rintro e w' ⟨rfl, rfl⟩)
    go_ret
    exact ⟨rfl, (Below.refl _ _).alloc (Nat.le_refl _) _⟩
  · go_enter Try.func10, Try.ntmps10
    go_wp2
    refine wp_loop_rounds 2 ?_
    rw [rounds_succ]
    go_wp2_with (first
      | (go_at_call 19; (with_reducible refine (is_same _ _).mono ?_); rintro e w' ⟨rfl, rfl⟩)
      | (go_at_call 19; (with_reducible refine (o12 _).out.mono ?_); rintro e w' ⟨rfl, rfl⟩))
    rw [rounds_succ]
    go_wp2_with (first
      | (go_at_call 19; (with_reducible refine (is_same _ _).mono ?_); rintro e w' ⟨rfl, rfl⟩)
      | (go_at_call 19; (with_reducible refine (o12 _).out.mono ?_); rintro e w' ⟨rfl, rfl⟩))
    go_ret
    exact ⟨rfl, (Below.refl _ _).alloc (Nat.le_refl _) _⟩
  · go_enter Try.func10, Try.ntmps10
    go_wp2
    refine wp_loop_rounds 3 ?_
    rw [rounds_succ]
    go_wp2_with (first
      | (go_at_call 19; (with_reducible refine (is_same _ _).mono ?_); rintro e w' ⟨rfl, rfl⟩)
      | (go_at_call 19; (with_reducible refine (o13 _).out.mono ?_); rintro e w' ⟨rfl, rfl⟩)
      | (go_at_call 19; (with_reducible refine (o23 _).out.mono ?_); rintro e w' ⟨rfl, rfl⟩))
    rw [rounds_succ]
    go_wp2_with (first
      | (go_at_call 19; (with_reducible refine (is_same _ _).mono ?_); rintro e w' ⟨rfl, rfl⟩)
      | (go_at_call 19; (with_reducible refine (o13 _).out.mono ?_); rintro e w' ⟨rfl, rfl⟩)
      | (go_at_call 19; (with_reducible refine (o23 _).out.mono ?_); rintro e w' ⟨rfl, rfl⟩))
    rw [rounds_succ]
    go_wp2_with (first
      | (go_at_call 19; (with_reducible refine (is_same _ _).mono ?_); rintro e w' ⟨rfl, rfl⟩)
      | (go_at_call 19; (with_reducible refine (o13 _).out.mono ?_); rintro e w' ⟨rfl, rfl⟩)
      | (go_at_call 19; (with_reducible refine (o23 _).out.mono ?_); rintro e w' ⟨rfl, rfl⟩))
    go_ret
    exact ⟨rfl, (Below.refl _ _).alloc (Nat.le_refl _) _⟩

theorem kind_any (k : Int) (h0 : 0 ≤ k) (h1 : k ≤ 3) (w : World) :
    Calls Try.prog 10 #[er k] w fun e w' => e = .returned (.int .i64 k) ∧ Below w.heap.size w w' := by
  by_cases hk : k = 0
  · subst hk
    exact (kind_no w).mono fun e w' ⟨he, hw⟩ => ⟨he, by subst hw; exact Below.refl _ _⟩
  · rw [er_yes hk]
    exact kind_yes k (by omega) h1 w

theorem new_2 (w : World) :
    Calls Try.prog 9 #[.int .i64 2] w fun e w' => ∃ p b, e = .returned (.tuple #[.pointer (some ⟨p, 0, none⟩), .nilIface]) ∧ St 56 w' p b [0, 0] 0 ∧ w.heap.size ≤ p ∧ w.heap.size ≤ b ∧ Below w.heap.size w w' :=
  (new_yes 2 (by omega) w).mono fun _ _ ⟨_, he, p, b, hv, h⟩ => ⟨p, b, by rw [he, hv], h⟩
theorem set_17 (p b : Nat) (w : World) (hs : St 56 w p b [0, 0] 0) :
    Calls Try.prog 13 #[.pointer (some ⟨p, 0, none⟩), .int .i64 1, .int .u64 7] w fun e w' =>
      e = .returned .nilIface ∧ St 56 w' p b [0, 7] 1 ∧ Turns (fun k => k = p ∨ k = b) w w' := by
  have H := set_any p b [0, 0] 0 1 7 w hs (by omega) (by omega)
  rw [show gk [(0 : Int), 0].length 1 = 0 by decide, show hit [(0 : Int), 0].length 1 = 1 by decide, show sv [0, 0] 1 7 = [0, 7] by decide, er_no] at H
  exact H
theorem get_1 (p b : Nat) (w : World) (hs : St 56 w p b [0, 7] 1) :
    Calls Try.prog 11 #[.pointer (some ⟨p, 0, none⟩), .int .i64 1] w fun e w' =>
      e = .returned (.tuple #[.int .u64 7, .nilIface]) ∧ St 56 w' p b [0, 7] 2 ∧ Turns (· = p) w w' := by
  have H := get_any p b [0, 7] 1 1 w hs (by omega) (by omega)
  rw [show gk [(0 : Int), 7].length 1 = 0 by decide, show hit [(0 : Int), 7].length 1 = 1 by decide, show gv [0, 7] 1 = 7 by decide, er_no] at H
  exact H
theorem get_2 (p b : Nat) (w : World) (hs : St 56 w p b [0, 7] 2) :
    Calls Try.prog 11 #[.pointer (some ⟨p, 0, none⟩), .int .i64 2] w fun e w' =>
      e = .returned (.tuple #[.int .u64 0, .iface 54 (.int .i64 3)]) ∧ St 56 w' p b [0, 7] 2 ∧ Turns (· = p) w w' := by
  have H := get_any p b [0, 7] 2 2 w hs (by omega) (by omega)
  rw [show gk [(0 : Int), 7].length 2 = 3 by decide, show hit [(0 : Int), 7].length 2 = 0 by decide, show gv [0, 7] 2 = 0 by decide, er_yes (by omega)] at H
  exact H
theorem size_2 (p b : Nat) (c : Int) (w : World) (hs : St 56 w p b [0, 7] c) :
    Calls Try.prog 17 #[.pointer (some ⟨p, 0, none⟩)] w fun e w' => e = .returned (.int .i64 2) ∧ w = w' :=
  size_any p b [0, 7] c w hs

set_option maxHeartbeats 400000 in
theorem awake_any (w : World) :
    Calls Try.prog 8 #[] w fun e w' => e = .returned (.bool true) ∧ Below w.heap.size w w' := by
  go_enter Try.func8, Try.ntmps8
  go_wp2_with (first
    | (go_at_call 9
       refine (new_2 _).mono ?_
       rintro e w1 ⟨p, b, rfl, hs1, hp, hb, hw1⟩)
    | (go_at_call 13
       refine (set_17 p b _ hs1).mono ?_
       rintro e w2 ⟨rfl, hs2, hw2⟩)
    | (go_at_call 11
       (with_reducible refine (get_1 p b _ hs2).mono ?_)
       rintro e w3 ⟨rfl, hs3, hw3⟩)
    | (go_at_call 11
       (with_reducible refine (get_2 p b _ hs3).mono ?_)
       rintro e w4 ⟨rfl, hs4, hw4⟩)
    | (go_at_call 19
       (with_reducible refine (is_same _ _).mono ?_)
       rintro e w' ⟨rfl, rfl⟩)
    | (go_at_call 16
       refine (count_any p b _ 2 _ hs4).mono ?_
       rintro e w' ⟨rfl, rfl⟩)
    | (go_at_call 17
       refine (size_2 p b 2 _ hs4).mono ?_
       rintro e w' ⟨rfl, rfl⟩))
  go_ret
  refine ⟨rfl, (((hw1.trans (hw2.below hw1.size ?_)).trans (hw3.below (Nat.le_trans hw1.size hw2.size) ?_)).trans (hw4.below (Nat.le_trans (Nat.le_trans hw1.size hw2.size) hw3.size) ?_))⟩
  all_goals
    intro i hi
    omega
end Go.Proofs.Ytbcmogokdkcneaa
