/- What the document's own answer finds right; which data are few enough for a statement. -/
import Derived.Test.YthfelkcomhflnaaDoorQ24
namespace Go.Proofs.YthfelkcomhflnaaDoor
open Go.ChangeShapes Go.WideShapes Go.ChangeAt Go.RowKit

namespace SM
theorem kd_rgt {k n : Int} {s : List UInt8} {is : RM.Dl} (h0 : 1 ≤ k) (h1 : k ≤ 5) : (kd k n s is && rgt is) = kd k n s is := by
  by_cases h : is.len = 0
  · rw [rgt_none h, Bool.and_true]
  · have : kd k n s is = false := by
      rcases (show k = 1 ∨ k = 2 ∨ k = 3 ∨ k = 4 ∨ k = 5 by omega) with rfl | rfl | rfl | rfl | rfl <;> simp [kd, h]
    rw [this, Bool.false_and]
theorem rgt_at' {d : RM.Dl} {i : Nat} {x : RM.Dm} (h : d.at_ i = some x) : rgt (dr d i) = ((kd x.k x.n x.s x.is && rgt x.is) && rgt (dr d (i + 1))) := by rw [dr_at d i x h]; rfl
end SM
theorem emp_is {S : ByteArray} : (S.size = 0 → S.data.toList = []) ∧ (0 < S.size → S.data.toList ≠ []) := by
  constructor
  · intro h
    exact List.eq_nil_of_length_eq_zero (by rw [size_len]; exact h)
  · intro h hh
    have := size_len S
    rw [hh] at this
    simp at this
    omega
/-- what the law's answer owes of a kind that has no items -/
def RrPost (k n : Int) (S : ByteArray) (is : RM.Dl) (w : World) (e : Ending) (w' : World) : Prop := e = .returned (.bool (SM.kd k n S.data.toList is && SM.rgt is)) ∧ Went w w'
set_option maxRecDepth 100000 in
set_option maxHeartbeats 4000000 in
theorem rr_plain (k n : Int) (S : ByteArray) (A : Option Addr) (c : Nat) (is : RM.Dl) (far : Int) (w : World) (hlen : is.len ≤ 9223372036854775807) (hk : k = 1 ∨ k = 2 ∨ k = 3) :
    Calls Tryd.prog 51 #[.agg #[.int .i64 k, .int .i64 n, .string S, .slice A is.len c], .int .i64 far] w (RrPost k n S is w) := by
  unfold RrPost
  rw [SM.kd_rgt (by omega) (by omega)]
  obtain ⟨N, hN⟩ : ∃ N, is.len = N := ⟨_, rfl⟩
  have fin : ∀ b : Bool, b = (decide (N = 0) && decide (S.data.toList = []) && SM.nm k n) → b = SM.kd k n S.data.toList is := by
    rintro b rfl
    rw [← hN]
    rcases hk with rfl | rfl | rfl
    · rw [SM.kd, if_pos rfl, SM.nm, if_pos rfl]
    · rw [SM.kd, if_neg (by decide), if_pos rfl, SM.nm, if_neg (by decide), if_pos rfl]
    · rw [SM.kd, if_neg (by decide), if_neg (by decide), if_pos rfl, SM.nm, if_neg (by decide), if_neg (by decide)]
  have fin' := Lib.hid fin
  rw [hN] at hlen ⊢
  clear fin hN
  have n1 : ∀ h : Bool, decide (-1152921504606846976 ≤ n ∧ n ≤ 1152921504606846975) = h → SM.nm 1 n = h := fun h e => by rw [SM.nm, if_pos rfl, e]
  have n2 : ∀ h : Bool, decide (n = 0 ∨ n = 1) = h → SM.nm 2 n = h := fun h e => by rw [SM.nm, if_neg (by decide), if_pos rfl, e]
  have n3 : ∀ h : Bool, decide (0 ≤ n ∧ n ≤ 255) = h → SM.nm 3 n = h := fun h e => by rw [SM.nm, if_neg (by decide), if_neg (by decide), e]
  have q1 := Lib.hid n1
  have q2 := Lib.hid n2
  have q3 := Lib.hid n3
  have em := Lib.hid (@emp_is S)
  clear n1 n2 n3
  rcases Nat.eq_zero_or_pos N with rfl | h0
  · rcases Nat.eq_zero_or_pos S.size with h1 | h1
    · obtain ⟨e1, e3, -⟩ := empty_yes (s := S) h1
      rcases hk with rfl | rfl | rfl
      · rcases (show n < -1152921504606846976 ∨ (-1152921504606846976 ≤ n ∧ n ≤ 1152921504606846975) ∨ 1152921504606846975 < n by omega) with h2 | ⟨h2, h3⟩ | h2
        all_goals
          go_enter Tryd.func51, Tryd.ntmps51
          go_wp2_with fail
          go_ret
          exact ⟨ret_b (fin'.out _ (by rw [em.out.1 h1]; rw [q1.out _ rfl, Bool.eq_iff_iff]; simp <;> omega)), went_box _ _ _⟩
      · rcases (show n = 0 ∨ n = 1 ∨ (¬ n = 0 ∧ ¬ n = 1) by omega) with rfl | rfl | ⟨h2, h3⟩
        all_goals
          go_enter Tryd.func51, Tryd.ntmps51
          go_wp2_with fail
          go_ret
          exact ⟨ret_b (fin'.out _ (by rw [em.out.1 h1]; rw [q2.out _ rfl, Bool.eq_iff_iff]; simp <;> omega)), went_box _ _ _⟩
      · rcases (show n < 0 ∨ (0 ≤ n ∧ n ≤ 255) ∨ 255 < n by omega) with h2 | ⟨h2, h3⟩ | h2
        all_goals
          go_enter Tryd.func51, Tryd.ntmps51
          go_wp2_with fail
          go_ret
          exact ⟨ret_b (fin'.out _ (by rw [em.out.1 h1]; rw [q3.out _ rfl, Bool.eq_iff_iff]; simp <;> omega)), went_box _ _ _⟩
    · obtain ⟨e1, e3⟩ := empty_no (s := S) h1
      rcases hk with rfl | rfl | rfl
      all_goals
        go_enter Tryd.func51, Tryd.ntmps51
        go_wp2_with fail
        go_ret
        exact ⟨ret_b (fin'.out _ (by rw [decide_eq_false (em.out.2 h1), Bool.and_false, Bool.false_and])), went_box _ _ _⟩
  · rcases hk with rfl | rfl | rfl
    all_goals
      go_enter Tryd.func51, Tryd.ntmps51
      go_wp2_with fail
      go_ret
      exact ⟨ret_b (fin'.out _ (by rw [decide_eq_false (show ¬ N = 0 by omega), Bool.false_and, Bool.false_and])), went_box _ _ _⟩
set_option maxRecDepth 100000 in
set_option maxHeartbeats 4000000 in
theorem rr_text (k n : Int) (S : ByteArray) (A : Option Addr) (c : Nat) (is : RM.Dl) (far : Int) (w : World) (hlen : is.len ≤ 9223372036854775807) (hk : k = 4 ∨ k = 5) :
    Calls Tryd.prog 51 #[.agg #[.int .i64 k, .int .i64 n, .string S, .slice A is.len c], .int .i64 far] w (RrPost k n S is w) := by
  unfold RrPost
  rw [SM.kd_rgt (by omega) (by omega)]
  obtain ⟨N, hN⟩ : ∃ N, is.len = N := ⟨_, rfl⟩
  have fin : ∀ b : Bool, b = (decide (N = 0) && decide (n = 0) && SM.tx k S.data.toList) → b = SM.kd k n S.data.toList is := by
    rintro b rfl
    rw [← hN]
    rcases hk with rfl | rfl
    · rw [SM.kd, if_neg (by decide), if_neg (by decide), if_neg (by decide), if_pos rfl, SM.tx, if_neg (by decide)]
    · rw [SM.kd, if_neg (by decide), if_neg (by decide), if_neg (by decide), if_neg (by decide), if_pos rfl, SM.tx, if_pos rfl]
  have fin' := Lib.hid fin
  rw [hN] at hlen ⊢
  clear fin hN
  have q4 : Hid (∀ h : Bool, decide (S.size ≤ 500) = h → SM.tx 4 S.data.toList = h) := Lib.hid (fun h e => by rw [SM.tx, if_neg (by decide), size_len, e])
  have q5 : Hid (SM.tx 5 S.data.toList = LM.sym S.data.toList) := Lib.hid (by rw [SM.tx, if_pos rfl])
  have hs := Lib.hid (rsym_any S)
  rcases Nat.eq_zero_or_pos N with rfl | h0
  · by_cases hn : n = 0
    · subst hn
      rcases hk with rfl | rfl
      · by_cases h2 : S.size ≤ 500
        all_goals
          go_enter Tryd.func51, Tryd.ntmps51
          go_wp2_with fail
          go_ret
          exact ⟨ret_b (fin'.out _ (by rw [q4.out _ rfl, Bool.eq_iff_iff]; simp <;> omega)), went_box _ _ _⟩
      · go_enter Tryd.func51, Tryd.ntmps51
        go_wp2_with (go_at_call 44; refine (hs.out _).mono ?_; rintro e w' ⟨rfl, rfl⟩)
        go_ret
        exact ⟨ret_b (fin'.out _ (by rw [q5.out]; simp)), went_box _ _ _⟩
    · rcases hk with rfl | rfl
      all_goals
        go_enter Tryd.func51, Tryd.ntmps51
        go_wp2_with fail
        go_ret
        exact ⟨ret_b (fin'.out _ (by rw [decide_eq_false hn, Bool.and_false, Bool.false_and])), went_box _ _ _⟩
  · rcases hk with rfl | rfl
    all_goals
      go_enter Tryd.func51, Tryd.ntmps51
      go_wp2_with fail
      go_ret
      exact ⟨ret_b (fin'.out _ (by rw [decide_eq_false (show ¬ N = 0 by omega), Bool.false_and, Bool.false_and])), went_box _ _ _⟩
set_option maxRecDepth 100000 in
theorem rr_none (k n : Int) (S : ByteArray) (A : Option Addr) (c : Nat) (is : RM.Dl) (far : Int) (w : World) (hk : k < 1 ∨ 8 < k) :
    Calls Tryd.prog 51 #[.agg #[.int .i64 k, .int .i64 n, .string S, .slice A is.len c], .int .i64 far] w (RrPost k n S is w) := by
  unfold RrPost
  have hf : SM.kd k n S.data.toList is = false := by
    unfold SM.kd
    rw [if_neg (by omega), if_neg (by omega), if_neg (by omega), if_neg (by omega), if_neg (by omega), if_neg (by omega), if_neg (by omega)]
  rw [hf, Bool.false_and]
  clear hf
  obtain ⟨N, hN⟩ : ∃ N, is.len = N := ⟨_, rfl⟩
  rw [hN]
  clear hN
  by_cases h1 : N = 0
  all_goals
    try subst h1
    rcases hk with hk | hk
    all_goals
      go_enter Tryd.func51, Tryd.ntmps51
      go_wp2_with fail
      go_ret
      exact ⟨rfl, went_box _ _ _⟩
end Go.Proofs.YthfelkcomhflnaaDoor
