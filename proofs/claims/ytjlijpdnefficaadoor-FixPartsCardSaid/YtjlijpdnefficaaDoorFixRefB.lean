/- What the document's own divisions give: one contract each. -/
import Derived.Test.YtjlijpdnefficaaDoorFixRef
namespace Go.Proofs.YtjlijpdnefficaaDoor
open Go.ChangeShapes Go.WideShapes Go.ChangeAt Go.RowKit

theorem rquo_any (a b : Int) (w : World) :
    Calls Tryd.prog 21 #[.int .i64 a, .int .i64 b] w fun e w' => e = .returned (two (FM.quo a b)) ∧ w = w' := by
  cases ha : FM.num a
  · rw [FM.quo, both_no (.inl ha)]
    go_enter Tryd.func21, Tryd.ntmps21
    go_wp2_with (go_at_call 29; refine (rnum_any _ _).mono ?_; rintro e w' ⟨rfl, rfl⟩)
    go_ret2
    exact ⟨rfl, rfl⟩
  · cases hb : FM.num b
    · rw [FM.quo, both_no (.inr hb)]
      go_enter Tryd.func21, Tryd.ntmps21
      go_wp2_with (go_at_call 29; refine (rnum_any _ _).mono ?_; rintro e w' ⟨rfl, rfl⟩)
      go_ret2
      exact ⟨rfl, rfl⟩
    · rw [FM.quo, both_yes ha hb]
      by_cases h0 : b = 0
      · subst h0
        rw [if_pos rfl]
        go_enter Tryd.func21, Tryd.ntmps21
        go_wp2_with (go_at_call 29; refine (rnum_any _ _).mono ?_; rintro e w' ⟨rfl, rfl⟩)
        go_ret2
        exact ⟨rfl, rfl⟩
      · rw [if_neg h0]
        have hq := FM.quo_in a b ha
        have ht : (b == 0) = false := by simpa using h0
        have h0' : b < 0 ∨ 0 < b := by omega
        unfold FM.bd
        cases hs : FM.num (a.tdiv b)
        all_goals
          go_enter Tryd.func21, Tryd.ntmps21
          go_wp2_with (go_at_call 29; refine (rnum_any _ _).mono ?_; rintro e w' ⟨rfl, rfl⟩)
          go_ret2
          exact ⟨rfl, rfl⟩

theorem rrem_any (a b : Int) (w : World) :
    Calls Tryd.prog 23 #[.int .i64 a, .int .i64 b] w fun e w' => e = .returned (two (FM.rem a b)) ∧ w = w' := by
  cases ha : FM.num a
  · rw [FM.rem, both_no (.inl ha)]
    go_enter Tryd.func23, Tryd.ntmps23
    go_wp2_with (go_at_call 29; refine (rnum_any _ _).mono ?_; rintro e w' ⟨rfl, rfl⟩)
    go_ret2
    exact ⟨rfl, rfl⟩
  · cases hb : FM.num b
    · rw [FM.rem, both_no (.inr hb)]
      go_enter Tryd.func23, Tryd.ntmps23
      go_wp2_with (go_at_call 29; refine (rnum_any _ _).mono ?_; rintro e w' ⟨rfl, rfl⟩)
      go_ret2
      exact ⟨rfl, rfl⟩
    · rw [FM.rem, both_yes ha hb]
      by_cases h0 : b = 0
      · subst h0
        rw [if_pos rfl]
        go_enter Tryd.func23, Tryd.ntmps23
        go_wp2_with (go_at_call 29; refine (rnum_any _ _).mono ?_; rintro e w' ⟨rfl, rfl⟩)
        go_ret2
        exact ⟨rfl, rfl⟩
      · rw [if_neg h0]
        have h1 := FM.num_yes ha
        have h2 := FM.num_yes hb
        have tb := FM.tmod_bd a b h0
        have hd := FM.tdm a b
        have hq := FM.quo_in a b ha
        have ht : (b == 0) = false := by simpa using h0
        have h0' : b < 0 ∨ 0 < b := by omega
        have hm : wrap64 (a.tdiv b * b) = a - a.tmod b := by rw [FM.wrap_in _ (by omega) (by omega)]; omega
        have he : wrap64 (a - (a - a.tmod b)) = a.tmod b := by rw [FM.wrap_in _ (by omega) (by omega)]; omega
        have he' : a - (a - a.tmod b) = a.tmod b := by omega
        clear hd
        go_enter Tryd.func23, Tryd.ntmps23
        go_wp2_with (go_at_call 29; refine (rnum_any _ _).mono ?_; rintro e w' ⟨rfl, rfl⟩)
        go_ret2
        exact ⟨rfl, rfl⟩

theorem rmod_any (a b : Int) (w : World) :
    Calls Tryd.prog 25 #[.int .i64 a, .int .i64 b] w fun e w' => e = .returned (two (FM.mod a b)) ∧ w = w' := by
  have hr := rrem_any a b
  cases ha : FM.num a
  · rw [FM.mod, both_no (.inl ha)]
    rw [FM.rem, both_no (.inl ha)] at hr
    clear ha
    have hr' := Lib.hid hr
    clear hr
    go_enter Tryd.func25, Tryd.ntmps25
    go_wp2_with (go_at_call 23; refine (hr'.out _).mono ?_; rintro e w' ⟨rfl, rfl⟩; unfold two)
    go_ret2
    exact ⟨rfl, rfl⟩
  · cases hb : FM.num b
    · rw [FM.mod, both_no (.inr hb)]
      rw [FM.rem, both_no (.inr hb)] at hr
      clear ha hb
      have hr' := Lib.hid hr
      clear hr
      go_enter Tryd.func25, Tryd.ntmps25
      go_wp2_with (go_at_call 23; refine (hr'.out _).mono ?_; rintro e w' ⟨rfl, rfl⟩; unfold two)
      go_ret2
      exact ⟨rfl, rfl⟩
    · rw [FM.mod, both_yes ha hb]
      rw [FM.rem, both_yes ha hb] at hr
      by_cases h0 : b = 0
      · subst h0
        rw [if_pos rfl] at hr ⊢
        clear ha hb
        have hr' := Lib.hid hr
        clear hr
        go_enter Tryd.func25, Tryd.ntmps25
        go_wp2_with (go_at_call 23; refine (hr'.out _).mono ?_; rintro e w' ⟨rfl, rfl⟩; unfold two)
        go_ret2
        exact ⟨rfl, rfl⟩
      · rw [if_neg h0] at hr ⊢
        have h2 := FM.num_yes hb
        have tb := FM.tmod_bd a b h0
        clear ha hb
        obtain ⟨r, er⟩ : ∃ r : Int, r = a.tmod b := ⟨_, rfl⟩
        have em : FM.md a b = if r ≠ 0 ∧ (decide (r < 0) ≠ decide (b < 0)) then r + b else r := by rw [er]; rfl
        rw [em]
        rw [← er] at hr tb
        have hr' := Lib.hid hr
        clear hr em er
        rcases (by omega : r = 0 ∨ (r < 0 ∧ b < 0) ∨ (0 < r ∧ 0 < b) ∨ (r < 0 ∧ 0 < b) ∨ (0 < r ∧ b < 0)) with h | ⟨h, k⟩ | ⟨h, k⟩ | ⟨h, k⟩ | ⟨h, k⟩
        · subst h
          rw [if_neg (by simp)]
          go_enter Tryd.func25, Tryd.ntmps25
          go_wp2_with (go_at_call 23; refine (hr'.out _).mono ?_; rintro e w' ⟨rfl, rfl⟩; unfold two)
          go_ret2
          exact ⟨rfl, rfl⟩
        · have e1 : decide (r < 0) = true := by simp; omega
          have e0 : (r != 0) = true := by simp; omega
          have e2 : decide (b < 0) = true := by simp; omega
          rw [if_neg (by rw [e1, e2]; simp)]
          go_enter Tryd.func25, Tryd.ntmps25
          go_wp2_with (go_at_call 23; refine (hr'.out _).mono ?_; rintro e w' ⟨rfl, rfl⟩; unfold two)
          go_ret2
          exact ⟨rfl, rfl⟩
        · have e1 : decide (r < 0) = false := by simp; omega
          have e0 : (r != 0) = true := by simp; omega
          have e2 : decide (b < 0) = false := by simp; omega
          rw [if_neg (by rw [e1, e2]; simp)]
          go_enter Tryd.func25, Tryd.ntmps25
          go_wp2_with (go_at_call 23; refine (hr'.out _).mono ?_; rintro e w' ⟨rfl, rfl⟩; unfold two)
          go_ret2
          exact ⟨rfl, rfl⟩
        · have e1 : decide (r < 0) = true := by simp; omega
          have e0 : (r != 0) = true := by simp; omega
          have e2 : decide (b < 0) = false := by simp; omega
          rw [if_pos ⟨by omega, by rw [e1, e2]; simp⟩]
          go_enter Tryd.func25, Tryd.ntmps25
          go_wp2_with (go_at_call 23; refine (hr'.out _).mono ?_; rintro e w' ⟨rfl, rfl⟩; unfold two)
          go_ret2
          exact ⟨rfl, rfl⟩
        · have e1 : decide (r < 0) = false := by simp; omega
          have e0 : (r != 0) = true := by simp; omega
          have e2 : decide (b < 0) = true := by simp; omega
          rw [if_pos ⟨by omega, by rw [e1, e2]; simp⟩]
          go_enter Tryd.func25, Tryd.ntmps25
          go_wp2_with (go_at_call 23; refine (hr'.out _).mono ?_; rintro e w' ⟨rfl, rfl⟩; unfold two)
          go_ret2
          exact ⟨rfl, rfl⟩
end Go.Proofs.YtjlijpdnefficaaDoor
