/- The laws of layer 2 on divisions and sums taken together, walked. -/
import Derived.Test.YtjlijpdnefficaaDoorFixAwake
import Derived.Deep.RegionHeld3
namespace Go.Proofs.YtjlijpdnefficaaDoor
open Go.ChangeShapes Go.WideShapes Go.ChangeAt Go.RowKit

theorem er_no {k : Int} (h : k ≠ 0) : er k = .iface 35 (.int .i64 k) := by unfold er; rw [if_neg h]
theorem quo_ok {a b : Int} (h : (FM.quo a b).2 = 0) : FM.num a = true ∧ FM.num b = true ∧ b ≠ 0 ∧ FM.num (a.tdiv b) = true := by
  cases ha : FM.num a
  · rw [FM.quo, both_no (.inl ha)] at h; simp at h
  · cases hb : FM.num b
    · rw [FM.quo, both_no (.inr hb)] at h; simp at h
    · rw [FM.quo, both_yes ha hb] at h
      by_cases h0 : b = 0
      · rw [if_pos h0] at h; simp at h
      · rw [if_neg h0, FM.bd] at h
        cases hq : FM.num (a.tdiv b)
        · rw [hq, if_neg (by simp)] at h; simp at h
        · exact ⟨rfl, rfl, h0, rfl⟩

/-- Where the quotient is a number: what the five calls of FixBack give. -/
theorem back_calls {a b : Int} (h : (FM.quo a b).2 = 0) : ∃ q r m p : Int, b ≠ 0
    ∧ (∀ w, Calls Tryd.prog 20 #[.int .i64 a, .int .i64 b] w fun e w' => e = .returned (.tuple #[.int .i64 q, .nilIface]) ∧ w = w')
    ∧ (∀ w, Calls Tryd.prog 22 #[.int .i64 a, .int .i64 b] w fun e w' => e = .returned (.tuple #[.int .i64 r, .nilIface]) ∧ w = w')
    ∧ (∀ w, Calls Tryd.prog 24 #[.int .i64 a, .int .i64 b] w fun e w' => e = .returned (.tuple #[.int .i64 m, .nilIface]) ∧ w = w')
    ∧ (∀ w, Calls Tryd.prog 16 #[.int .i64 q, .int .i64 b] w fun e w' => e = .returned (.tuple #[.int .i64 p, .nilIface]) ∧ w = w')
    ∧ (∀ w, Calls Tryd.prog 12 #[.int .i64 p, .int .i64 r] w fun e w' => e = .returned (.tuple #[.int .i64 a, .nilIface]) ∧ w = w')
    ∧ (r = 0 ∨ (r < 0 ∧ a < 0) ∨ (0 < r ∧ 0 < a)) ∧ ((0 < b ∧ 0 ≤ m ∧ m < b) ∨ (b < 0 ∧ m ≤ 0 ∧ b < m)) := by
  obtain ⟨ha, hb, h0, hq⟩ := quo_ok h
  have h1 := FM.num_yes ha
  have h2 := FM.num_yes hb
  have t := FM.tmod_bd a b h0
  have d := FM.tdm a b
  have md := FM.md_bd a b h0
  have e1 : FM.quo a b = (a.tdiv b, 0) := by rw [FM.quo, both_yes ha hb, if_neg h0, FM.bd, hq, if_pos rfl]
  have e2 : FM.rem a b = (a.tmod b, 0) := by rw [FM.rem, both_yes ha hb, if_neg h0]
  have e3 : FM.mod a b = (FM.md a b, 0) := by rw [FM.mod, both_yes ha hb, if_neg h0]
  have hr : FM.num (a.tmod b) = true := FM.num_mk (by omega)
  have hp : FM.num (a.tdiv b * b) = true := FM.num_mk (by omega)
  have e4 : FM.mul (a.tdiv b) b = (a.tdiv b * b, 0) := by rw [FM.mul, both_yes hq hb, FM.bd, hp, if_pos rfl]
  have e5 : FM.add (a.tdiv b * b) (a.tmod b) = (a, 0) := by rw [FM.add, both_yes hp hr, d, FM.bd, ha, if_pos rfl]
  refine ⟨a.tdiv b, a.tmod b, FM.md a b, a.tdiv b * b, h0, fun w => ?_, fun w => ?_, fun w => ?_, fun w => ?_, fun w => ?_, by omega, by omega⟩
  · have H := quo_any a b w; rw [e1, ans_yes] at H; exact H
  · have H := rem_any a b w; rw [e2, ans_yes] at H; exact H
  · have H := mod_any a b w; rw [e3, ans_yes] at H; exact H
  · have H := mul_any (a.tdiv b) b w; rw [e4, ans_yes] at H; exact H
  · have H := add_any (a.tdiv b * b) (a.tmod b) w; rw [e5, ans_yes] at H; exact H

set_option maxHeartbeats 1000000 in
theorem fixBack_walk (a b : Int) (w : World) (ht : Tab w) :
    Calls Tryd.prog 5 #[.int .i64 a, .int .i64 b] w fun e w' => e = .returned (.bool true) ∧ Went w w' := by
  by_cases hk : (FM.quo a b).2 = 0
  · obtain ⟨q, r, m, p, h0, c1, c2, c3, c4, c5, hr, hm⟩ := back_calls hk
    have d1 := Lib.hid c1
    have d2 := Lib.hid c2
    have d3 := Lib.hid c3
    have d4 := Lib.hid c4
    have d5 := Lib.hid c5
    clear c1 c2 c3 c4 c5 hk h0
    have t0 : (a != a) = false := by simp
    rcases hr with rfl | ⟨r1, r2⟩ | ⟨r1, r2⟩
    · rcases hm with ⟨m1, m2, m3⟩ | ⟨m1, m2, m3⟩
      all_goals
        go_enter Tryd.func5, Tryd.ntmps5
        go_wp2_with (first
          | (go_at_call 20; refine (d1.out _).mono ?_; rintro e w' ⟨rfl, rfl⟩)
          | (go_at_call 22; refine (d2.out _).mono ?_; rintro e w' ⟨rfl, rfl⟩)
          | (go_at_call 24; refine (d3.out _).mono ?_; rintro e w' ⟨rfl, rfl⟩)
          | (go_at_call 16; refine (d4.out _).mono ?_; rintro e w' ⟨rfl, rfl⟩)
          | (go_at_call 12; refine (d5.out _).mono ?_; rintro e w' ⟨rfl, rfl⟩)
          | (go_at_call 18; (with_reducible refine (awake_any _ ht).mono ?_); rintro e w1 ⟨rfl, hw⟩))
        go_ret
        exact ⟨rfl, hw⟩
    · have e0 : (r != 0) = true := by simp; omega
      have e1 : decide (r < 0) = true := by simp; omega
      have e2 : decide (a < 0) = true := by simp; omega
      rcases hm with ⟨m1, m2, m3⟩ | ⟨m1, m2, m3⟩
      all_goals
        go_enter Tryd.func5, Tryd.ntmps5
        go_wp2_with (first
          | (go_at_call 20; refine (d1.out _).mono ?_; rintro e w' ⟨rfl, rfl⟩)
          | (go_at_call 22; refine (d2.out _).mono ?_; rintro e w' ⟨rfl, rfl⟩)
          | (go_at_call 24; refine (d3.out _).mono ?_; rintro e w' ⟨rfl, rfl⟩)
          | (go_at_call 16; refine (d4.out _).mono ?_; rintro e w' ⟨rfl, rfl⟩)
          | (go_at_call 12; refine (d5.out _).mono ?_; rintro e w' ⟨rfl, rfl⟩)
          | (go_at_call 18; (with_reducible refine (awake_any _ ht).mono ?_); rintro e w1 ⟨rfl, hw⟩))
        go_ret
        exact ⟨rfl, hw⟩
    · have e0 : (r != 0) = true := by simp; omega
      have e1 : decide (r < 0) = false := by simp; omega
      have e2 : decide (a < 0) = false := by simp; omega
      rcases hm with ⟨m1, m2, m3⟩ | ⟨m1, m2, m3⟩
      all_goals
        go_enter Tryd.func5, Tryd.ntmps5
        go_wp2_with (first
          | (go_at_call 20; refine (d1.out _).mono ?_; rintro e w' ⟨rfl, rfl⟩)
          | (go_at_call 22; refine (d2.out _).mono ?_; rintro e w' ⟨rfl, rfl⟩)
          | (go_at_call 24; refine (d3.out _).mono ?_; rintro e w' ⟨rfl, rfl⟩)
          | (go_at_call 16; refine (d4.out _).mono ?_; rintro e w' ⟨rfl, rfl⟩)
          | (go_at_call 12; refine (d5.out _).mono ?_; rintro e w' ⟨rfl, rfl⟩)
          | (go_at_call 18; (with_reducible refine (awake_any _ ht).mono ?_); rintro e w1 ⟨rfl, hw⟩))
        go_ret
        exact ⟨rfl, hw⟩
  · have he := er_no hk
    clear hk
    go_enter Tryd.func5, Tryd.ntmps5
    go_wp2_with (first
      | (go_at_call 20; refine (quo_any _ _ _).mono ?_; rintro e w' ⟨rfl, rfl⟩; unfold ans)
      | (go_at_call 22; refine (rem_any _ _ _).mono ?_; rintro e w' ⟨rfl, rfl⟩; unfold ans)
      | (go_at_call 24; refine (mod_any _ _ _).mono ?_; rintro e w' ⟨rfl, rfl⟩; unfold ans)
      | (go_at_call 18; (with_reducible refine (awake_any _ ht).mono ?_); rintro e w1 ⟨rfl, hw⟩)
      | (go_at_call 18; (with_reducible refine (awake_any _ (ht.on hw)).mono ?_); rintro e w2 ⟨rfl, hw2⟩))
    go_ret
    exact ⟨rfl, hw.trans hw2⟩

/-- sums and products in either order -/
theorem add_comm' (a b : Int) : FM.add b a = FM.add a b := by unfold FM.add FM.both; rw [Bool.and_comm, Int.add_comm]
theorem mul_comm' (a b : Int) : FM.mul b a = FM.mul a b := by unfold FM.mul FM.both; rw [Bool.and_comm, Int.mul_comm]
theorem add_ok {a b : Int} (h : (FM.add a b).2 = 0) : FM.num a = true ∧ FM.num b = true ∧ FM.num (a + b) = true ∧ FM.add a b = (a + b, 0) := by
  cases ha : FM.num a
  · rw [FM.add, both_no (.inl ha)] at h; simp at h
  · cases hb : FM.num b
    · rw [FM.add, both_no (.inr hb)] at h; simp at h
    · rw [FM.add, both_yes ha hb] at h ⊢
      rw [FM.bd] at h ⊢
      cases hs : FM.num (a + b)
      · rw [hs, if_neg (by simp)] at h; simp at h
      · exact ⟨rfl, rfl, rfl, by rw [if_pos rfl]⟩
theorem sub_ok {a b : Int} (h : (FM.sub a b).2 = 0) : FM.num a = true ∧ FM.num b = true ∧ FM.num (a - b) = true ∧ FM.sub a b = (a - b, 0) := by
  cases ha : FM.num a
  · rw [FM.sub, both_no (.inl ha)] at h; simp at h
  · cases hb : FM.num b
    · rw [FM.sub, both_no (.inr hb)] at h; simp at h
    · rw [FM.sub, both_yes ha hb] at h ⊢
      rw [FM.bd] at h ⊢
      cases hs : FM.num (a - b)
      · rw [hs, if_neg (by simp)] at h; simp at h
      · exact ⟨rfl, rfl, rfl, by rw [if_pos rfl]⟩
/-- an error is none, or one -/
theorem er_cases (k : Int) : er k = .nilIface ∨ ∃ j : Int, er k = .iface 35 (.int .i64 j) := by
  by_cases h : k = 0
  · subst h; exact .inl rfl
  · exact .inr ⟨k, er_no h⟩

set_option maxHeartbeats 1000000 in
theorem fixOrder_walk (a b : Int) (w : World) (ht : Tab w) :
    Calls Tryd.prog 6 #[.int .i64 a, .int .i64 b] w fun e w' => e = .returned (.bool true) ∧ Went w w' := by
  have ca := add_any b a
  have cm := mul_any b a
  rw [add_comm' a b] at ca
  rw [mul_comm' a b] at cm
  have da := Lib.hid ca
  have dm := Lib.hid cm
  have dz := Lib.hid (mul_any a b)
  have dx := Lib.hid (add_any a b)
  clear ca cm
  by_cases hk : (FM.add a b).2 = 0
  · obtain ⟨ha, hb, hs, ea⟩ := add_ok hk
    have es : FM.sub (a + b) b = (a, 0) := by rw [FM.sub, both_yes hs hb, show a + b - b = a by omega, FM.bd, ha, if_pos rfl]
    have cs := sub_any (a + b) b
    rw [es, ans_yes] at cs
    have ds := Lib.hid cs
    rw [ea, ans_yes] at da dx
    clear cs es ea ha hb hs hk
    have t0 : (a == a) = true := by simp
    rcases er_cases (FM.mul a b).2 with he | ⟨j, he⟩
    all_goals
      unfold ans at dm dz
      rw [he] at dm dz
      clear he
      generalize (FM.mul a b).1 = z at *
      go_enter Tryd.func6, Tryd.ntmps6
      go_wp2_with (first
        | (go_at_call 12; (with_reducible refine (dx.out _).mono ?_); rintro e w' ⟨rfl, rfl⟩)
        | (go_at_call 12; (with_reducible refine (da.out _).mono ?_); rintro e w' ⟨rfl, rfl⟩)
        | (go_at_call 16; (with_reducible refine (dz.out _).mono ?_); rintro e w' ⟨rfl, rfl⟩)
        | (go_at_call 16; (with_reducible refine (dm.out _).mono ?_); rintro e w' ⟨rfl, rfl⟩))
      go_region_held3 (fun w' => Tab w' ∧ True) (first | exact ⟨ht, trivial⟩ | exact ⟨Tab.on (show Tab w.drew from ht) hw, trivial⟩) ((go_at_call 18; refine (awake_any _ (show Tab w.drew from ht)).mono ?_; rintro e w1 ⟨rfl, hw⟩))
      go_wp2_with (go_at_call 14; (with_reducible refine (ds.out _).mono ?_); rintro e w' ⟨rfl, rfl⟩)
      go_ret
      exact ⟨rfl, hw.of_drew⟩
  · have he1 := er_no hk
    have hx : FM.add a b = (0, (FM.add a b).2) := by
      have := fair_add a b hk
      rw [← this]
    rw [hx] at da dx
    unfold ans at da dx
    rw [show er (0, (FM.add a b).2).2 = er (FM.add a b).2 from rfl, he1] at da dx
    clear he1 hx
    generalize (FM.add a b).2 = k at *
    clear hk
    rcases er_cases (FM.mul a b).2 with he | ⟨j, he⟩
    all_goals
      unfold ans at dm dz
      rw [he] at dm dz
      clear he
      generalize (FM.mul a b).1 = z at *
      go_enter Tryd.func6, Tryd.ntmps6
      go_wp2_with (first
        | (go_at_call 12; (with_reducible refine (dx.out _).mono ?_); rintro e w' ⟨rfl, rfl⟩)
        | (go_at_call 12; (with_reducible refine (da.out _).mono ?_); rintro e w' ⟨rfl, rfl⟩)
        | (go_at_call 16; (with_reducible refine (dz.out _).mono ?_); rintro e w' ⟨rfl, rfl⟩)
        | (go_at_call 16; (with_reducible refine (dm.out _).mono ?_); rintro e w' ⟨rfl, rfl⟩))
      go_region_held3 (fun w' => Tab w' ∧ True) (first | exact ⟨ht, trivial⟩ | exact ⟨Tab.on (show Tab w.drew from ht) hw, trivial⟩) ((go_at_call 18; refine (awake_any _ (show Tab w.drew from ht)).mono ?_; rintro e w1 ⟨rfl, hw⟩))
      go_wp2
      go_ret
      exact ⟨rfl, hw.of_drew⟩
end Go.Proofs.YtjlijpdnefficaaDoor
