/- What Mul and the divisions of package fix give. -/
import Derived.Test.YtjlijpdnefficaaDoorFixCallsB
namespace Go.Proofs.YtjlijpdnefficaaDoor
open Go.ChangeShapes Go.WideShapes Go.ChangeAt Go.RowKit

theorem mul_any (a b : Int) (w : World) :
    Calls Tryd.prog 16 #[.int .i64 a, .int .i64 b] w fun e w' => e = .returned (ans (FM.mul a b)) ∧ w = w' := by
  cases ha : FM.num a
  · rw [FM.mul, both_no (.inl ha), ans_no _ _ (by omega)]
    go_enter Tryd.func16, Tryd.ntmps16
    go_wp2_with (go_at_call 32; refine (isNumber_any _ _).mono ?_; rintro e w' ⟨rfl, rfl⟩)
    go_ret2
    exact ⟨rfl, rfl⟩
  · cases hb : FM.num b
    · rw [FM.mul, both_no (.inr hb), ans_no _ _ (by omega)]
      go_enter Tryd.func16, Tryd.ntmps16
      go_wp2_with (go_at_call 32; refine (isNumber_any _ _).mono ?_; rintro e w' ⟨rfl, rfl⟩)
      go_ret2
      exact ⟨rfl, rfl⟩
    · rw [FM.mul, both_yes ha hb]
      by_cases h0 : a = 0
      · subst h0
        rw [Int.zero_mul]
        go_enter Tryd.func16, Tryd.ntmps16
        go_wp2_with (first
          | (go_at_call 32; refine (isNumber_any _ _).mono ?_; rintro e w' ⟨rfl, rfl⟩)
          | (go_at_call 33; refine (bounded_any _ _).mono ?_; rintro e w' ⟨rfl, rfl⟩; unfold ans))
        go_ret2
        exact ⟨rfl, rfl⟩
      · have ht : (a != 0) = true := by simpa using h0
        by_cases hq : wrap64 ((wrap64 (a * b)).tdiv a) = b
        · have hz := FM.mul_way_yes a b ha hb h0 hq
          have hq' : (wrap64 ((wrap64 (a * b)).tdiv a) != b) = false := by simpa using hq
          rw [← hz]
          clear hz hq
          have h0' : a < 0 ∨ 0 < a := by omega
          go_enter Tryd.func16, Tryd.ntmps16
          go_wp2_with (first
            | (go_at_call 32; refine (isNumber_any _ _).mono ?_; rintro e w' ⟨rfl, rfl⟩)
            | (go_at_call 33; refine (bounded_any _ _).mono ?_; rintro e w' ⟨rfl, rfl⟩; unfold ans))
          go_ret2
          exact ⟨rfl, rfl⟩
        · rw [FM.mul_way_no a b ha hb h0 hq, ans_no _ _ (by omega)]
          have hq' : (wrap64 ((wrap64 (a * b)).tdiv a) != b) = true := by simpa using hq
          clear hq
          have h0' : a < 0 ∨ 0 < a := by omega
          go_enter Tryd.func16, Tryd.ntmps16
          go_wp2_with (first
            | (go_at_call 32; refine (isNumber_any _ _).mono ?_; rintro e w' ⟨rfl, rfl⟩)
            | (go_at_call 33; refine (bounded_any _ _).mono ?_; rintro e w' ⟨rfl, rfl⟩; unfold ans))
          go_ret2
          exact ⟨rfl, rfl⟩

/-- the three divisions -/
def dv (k a b : Int) : Int × Int := if k = 3 then FM.mod a b else if k = 2 then FM.rem a b else FM.quo a b
theorem dv_no {a b : Int} (k : Int) (h : FM.num a = false ∨ FM.num b = false) : dv k a b = (0, 2) := by
  unfold dv FM.mod FM.rem FM.quo; simp only [both_no h, ite_self]
theorem dv_nought {a b : Int} (k : Int) (ha : FM.num a = true) (hb : FM.num b = true) (h : b = 0) : dv k a b = (0, 12) := by
  unfold dv FM.mod FM.rem FM.quo; simp only [both_yes ha hb, if_pos h, ite_self]
theorem divide_any (k a b : Int) (hk : k = 1 ∨ k = 2 ∨ k = 3) (w : World) :
    Calls Tryd.prog 35 #[.int .i64 k, .int .i64 a, .int .i64 b] w fun e w' => e = .returned (ans (dv k a b)) ∧ w = w' := by
  cases ha : FM.num a
  · rw [dv_no _ (.inl ha), ans_no _ _ (by omega)]
    clear hk
    go_enter Tryd.func35, Tryd.ntmps35
    go_wp2_with (go_at_call 32; refine (isNumber_any _ _).mono ?_; rintro e w' ⟨rfl, rfl⟩)
    go_ret2
    exact ⟨rfl, rfl⟩
  · cases hb : FM.num b
    · rw [dv_no _ (.inr hb), ans_no _ _ (by omega)]
      clear hk
      go_enter Tryd.func35, Tryd.ntmps35
      go_wp2_with (go_at_call 32; refine (isNumber_any _ _).mono ?_; rintro e w' ⟨rfl, rfl⟩)
      go_ret2
      exact ⟨rfl, rfl⟩
    · by_cases h0 : b = 0
      · subst h0
        rw [dv_nought _ ha hb rfl, ans_no _ _ (by omega)]
        clear hk
        go_enter Tryd.func35, Tryd.ntmps35
        go_wp2_with (go_at_call 32; refine (isNumber_any _ _).mono ?_; rintro e w' ⟨rfl, rfl⟩)
        go_ret2
        exact ⟨rfl, rfl⟩
      · have ht : (b == 0) = false := by simpa using h0
        have h1 := FM.num_yes ha
        have h2 := FM.num_yes hb
        have h0' : b < 0 ∨ 0 < b := by omega
        have tb := FM.tmod_bd a b h0
        rcases hk with rfl | rfl | rfl
        · go_enter Tryd.func35, Tryd.ntmps35
          go_wp2_with (first
            | (go_at_call 32; refine (isNumber_any _ _).mono ?_; rintro e w' ⟨rfl, rfl⟩)
            | (go_at_call 33; refine (bounded_any _ _).mono ?_; rintro e w' ⟨rfl, rfl⟩; unfold ans))
          go_ret2
          rw [FM.quo_in a b ha]
          refine ⟨?_, rfl⟩
          rw [show dv 1 a b = FM.bd (a.tdiv b) by unfold dv FM.quo; rw [if_neg (by omega), if_neg (by omega), both_yes ha hb, if_neg h0]]
          rfl
        · go_enter Tryd.func35, Tryd.ntmps35
          go_wp2_with (first
            | (go_at_call 32; refine (isNumber_any _ _).mono ?_; rintro e w' ⟨rfl, rfl⟩)
            | (go_at_call 33; refine (bounded_any _ _).mono ?_; rintro e w' ⟨rfl, rfl⟩; unfold ans))
          go_ret2
          refine ⟨?_, rfl⟩
          rw [show dv 2 a b = (a.tmod b, 0) by unfold dv FM.rem; rw [if_neg (by omega), if_pos rfl, both_yes ha hb, if_neg h0]]
          rfl
        · go_enter Tryd.func35, Tryd.ntmps35
          go_wp2_with (first
            | (go_at_call 32; refine (isNumber_any _ _).mono ?_; rintro e w' ⟨rfl, rfl⟩)
            | (go_at_call 33; refine (bounded_any _ _).mono ?_; rintro e w' ⟨rfl, rfl⟩; unfold ans))
          go_ret2
          refine ⟨?_, rfl⟩
          rw [show dv 3 a b = ((a.tmod b + b).tmod b, 0) by unfold dv FM.mod; rw [if_pos rfl, both_yes ha hb, if_neg h0, FM.md_eq a b h0]]
          rfl

theorem quo_any (a b : Int) (w : World) :
    Calls Tryd.prog 20 #[.int .i64 a, .int .i64 b] w fun e w' => e = .returned (ans (FM.quo a b)) ∧ w = w' := by
  go_enter Tryd.func20, Tryd.ntmps20
  go_wp2_with (go_at_call 35; refine (divide_any 1 a b (.inl rfl) _).mono ?_; rintro e w' ⟨rfl, rfl⟩; unfold ans)
  go_ret2
  exact ⟨rfl, rfl⟩
theorem rem_any (a b : Int) (w : World) :
    Calls Tryd.prog 22 #[.int .i64 a, .int .i64 b] w fun e w' => e = .returned (ans (FM.rem a b)) ∧ w = w' := by
  go_enter Tryd.func22, Tryd.ntmps22
  go_wp2_with (go_at_call 35; refine (divide_any 2 a b (.inr (.inl rfl)) _).mono ?_; rintro e w' ⟨rfl, rfl⟩; unfold ans)
  go_ret2
  exact ⟨rfl, rfl⟩
theorem mod_any (a b : Int) (w : World) :
    Calls Tryd.prog 24 #[.int .i64 a, .int .i64 b] w fun e w' => e = .returned (ans (FM.mod a b)) ∧ w = w' := by
  go_enter Tryd.func24, Tryd.ntmps24
  go_wp2_with (go_at_call 35; refine (divide_any 3 a b (.inr (.inr rfl)) _).mono ?_; rintro e w' ⟨rfl, rfl⟩; unfold ans)
  go_ret2
  exact ⟨rfl, rfl⟩
end Go.Proofs.YtjlijpdnefficaaDoor
