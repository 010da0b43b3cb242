/- What the six calls of package fix on two numbers give: one contract each. -/
import Derived.Test.YtbkjmmeipbbaaaaDoorFixCalls
namespace Go.Proofs.YtbkjmmeipbbaaaaDoor
open Go.ChangeShapes Go.WideShapes Go.ChangeAt Go.RowKit

theorem both_no {a b : Int} (h : FM.num a = false ∨ FM.num b = false) (x : Int × Int) : FM.both a b x = (0, 2) := by
  unfold FM.both; rcases h with h | h <;> simp [h]
theorem both_yes {a b : Int} (ha : FM.num a = true) (hb : FM.num b = true) (x : Int × Int) : FM.both a b x = x := by
  unfold FM.both; simp [ha, hb]

theorem add_any (a b : Int) (w : World) :
    Calls Tryd.prog 50 #[.int .i64 a, .int .i64 b] w fun e w' => e = .returned (ans (FM.add a b)) ∧ w = w' := by
  cases ha : FM.num a
  · rw [FM.add, both_no (.inl ha), ans_no _ _ (by omega)]
    go_enter Tryd.func50, Tryd.ntmps50
    go_wp2_with (go_at_call 56; refine (isNumber_any _ _).mono ?_; rintro e w' ⟨rfl, rfl⟩)
    go_ret2
    exact ⟨rfl, rfl⟩
  · cases hb : FM.num b
    · rw [FM.add, both_no (.inr hb), ans_no _ _ (by omega)]
      go_enter Tryd.func50, Tryd.ntmps50
      go_wp2_with (go_at_call 56; refine (isNumber_any _ _).mono ?_; rintro e w' ⟨rfl, rfl⟩)
      go_ret2
      exact ⟨rfl, rfl⟩
    · rw [FM.add, both_yes ha hb]
      have h1 := FM.num_yes ha
      have h2 := FM.num_yes hb
      go_enter Tryd.func50, Tryd.ntmps50
      go_wp2_with (first
        | (go_at_call 56; refine (isNumber_any _ _).mono ?_; rintro e w' ⟨rfl, rfl⟩)
        | (go_at_call 57; refine (bounded_any _ _).mono ?_; rintro e w' ⟨rfl, rfl⟩; unfold ans))
      go_ret2
      exact ⟨rfl, rfl⟩

end Go.Proofs.YtbkjmmeipbbaaaaDoor
