/- What the document's own answers for layer 2 are on two numbers: one contract each. -/
import Derived.Test.YtjlijpdnefficaaDoorFixCallsC
namespace Go.Proofs.YtjlijpdnefficaaDoor
open Go.ChangeShapes Go.WideShapes Go.ChangeAt Go.RowKit

/-- a number and the kind of an error -/
def two (p : Int × Int) : Value := .tuple #[.int .i64 p.1, .int .i64 p.2]

theorem rnum_any (a : Int) (w : World) :
    Calls Tryd.prog 29 #[.int .i64 a] w fun e w' => e = .returned (.bool (FM.num a)) ∧ w = w' := by
  go_enter Tryd.func29, Tryd.ntmps29
  go_wp2
  all_goals
    go_ret
    refine ⟨ret_b ?_, rfl⟩
    rw [FM.num, Bool.eq_iff_iff]
    simp only [decide_eq_true_eq, Bool.false_eq_true, false_iff]
    omega

theorem radd_any (a b : Int) (w : World) :
    Calls Tryd.prog 13 #[.int .i64 a, .int .i64 b] w fun e w' => e = .returned (two (FM.add a b)) ∧ w = w' := by
  cases ha : FM.num a
  · rw [FM.add, both_no (.inl ha)]
    go_enter Tryd.func13, Tryd.ntmps13
    go_wp2_with (go_at_call 29; refine (rnum_any _ _).mono ?_; rintro e w' ⟨rfl, rfl⟩)
    go_ret2
    exact ⟨rfl, rfl⟩
  · cases hb : FM.num b
    · rw [FM.add, both_no (.inr hb)]
      go_enter Tryd.func13, Tryd.ntmps13
      go_wp2_with (go_at_call 29; refine (rnum_any _ _).mono ?_; rintro e w' ⟨rfl, rfl⟩)
      go_ret2
      exact ⟨rfl, rfl⟩
    · rw [FM.add, both_yes ha hb]
      have h1 := FM.num_yes ha
      have h2 := FM.num_yes hb
      unfold FM.bd
      cases hs : FM.num (a + b)
      all_goals
        go_enter Tryd.func13, Tryd.ntmps13
        go_wp2_with (go_at_call 29; refine (rnum_any _ _).mono ?_; rintro e w' ⟨rfl, rfl⟩)
        go_ret2
        exact ⟨rfl, rfl⟩

theorem rsub_any (a b : Int) (w : World) :
    Calls Tryd.prog 15 #[.int .i64 a, .int .i64 b] w fun e w' => e = .returned (two (FM.sub a b)) ∧ w = w' := by
  cases ha : FM.num a
  · rw [FM.sub, both_no (.inl ha)]
    go_enter Tryd.func15, Tryd.ntmps15
    go_wp2_with (go_at_call 29; refine (rnum_any _ _).mono ?_; rintro e w' ⟨rfl, rfl⟩)
    go_ret2
    exact ⟨rfl, rfl⟩
  · cases hb : FM.num b
    · rw [FM.sub, both_no (.inr hb)]
      go_enter Tryd.func15, Tryd.ntmps15
      go_wp2_with (go_at_call 29; refine (rnum_any _ _).mono ?_; rintro e w' ⟨rfl, rfl⟩)
      go_ret2
      exact ⟨rfl, rfl⟩
    · rw [FM.sub, both_yes ha hb]
      have h1 := FM.num_yes ha
      have h2 := FM.num_yes hb
      unfold FM.bd
      cases hs : FM.num (a - b)
      all_goals
        go_enter Tryd.func15, Tryd.ntmps15
        go_wp2_with (go_at_call 29; refine (rnum_any _ _).mono ?_; rintro e w' ⟨rfl, rfl⟩)
        go_ret2
        exact ⟨rfl, rfl⟩

theorem product_nn (a b : Int) (ha : FM.num a = true) (hb : FM.num b = true) (a0 : a < 0) (b0 : b < 0) (w : World) :
    Calls Tryd.prog 34 #[.int .i64 a, .int .i64 b] w fun e w' => e = .returned (.tuple #[.int .i64 (FM.bd (a * b)).1, .bool (FM.num (a * b))]) ∧ w = w' := by
  have h1 := FM.num_yes ha
  have h2 := FM.num_yes hb
  clear ha hb
  have t1 : (a == 0) = false := by simp; omega
  have t2 : (b == 0) = false := by simp; omega
  have t3 : decide (a < 0) = true := by simp; omega
  have t4 : decide (b < 0) = true := by simp; omega
  obtain ⟨x, hx⟩ : ∃ x : Int, x = -a := ⟨_, rfl⟩
  obtain ⟨y, hy⟩ : ∃ y : Int, y = -b := ⟨_, rfl⟩
  have hx1 : 1 ≤ x ∧ x ≤ 1152921504606846976 := by omega
  have hy1 : 1 ≤ y ∧ y ≤ 1152921504606846976 := by omega
  have hab : FM.num (a * b) = decide (x * y ≤ 1152921504606846975) ∧ (x * y ≤ 1152921504606846975 → FM.bd (a * b) = ( (x * y), 0)) := by
    have e : a * b =  (x * y) := by subst hx hy; simp [Int.neg_mul, Int.mul_neg]
    have p0 : 0 < x * y := Int.mul_pos (by omega) (by omega)
    have en : FM.num (a * b) = decide (x * y ≤ 1152921504606846975) := by rw [e, FM.num, decide_eq_decide]; omega
    refine ⟨en, fun h => ?_⟩
    rw [FM.bd, en, decide_eq_true h, if_pos rfl, e]
  have hdiv : 1152921504606846975 / y < x ↔ 1152921504606846975 < x * y := Int.ediv_lt_iff_lt_mul (by omega)
  have cx : IntKind.u64.wrap (-IntKind.u64.wrap a) = x := by rw [IntKind.wrap_u64, IntKind.wrap_u64]; omega
  have cy : IntKind.u64.wrap (-IntKind.u64.wrap b) = y := by rw [IntKind.wrap_u64, IntKind.wrap_u64]; omega
  by_cases hc : 1152921504606846975 < x * y
  · rw [hab.1, decide_eq_false (by omega), show (FM.bd (a * b)).1 = 0 by rw [FM.bd, hab.1, decide_eq_false (by omega), if_neg (by simp)]]
    have hq := hdiv.2 hc
    clear hab hdiv hc
    have hx' := Lib.hid hx
    have hy' := Lib.hid hy
    clear hx hy
    go_enter Tryd.func34, Tryd.ntmps34
    go_wp2
    go_ret2
    exact ⟨rfl, rfl⟩
  · rw [hab.1, hab.2 (by omega), decide_eq_true (by omega)]
    have hq : ¬ 1152921504606846975 / y < x := fun h => hc (hdiv.1 h)
    have p0 : 0 < x * y := Int.mul_pos (by omega) (by omega)
    obtain ⟨p, hp⟩ : ∃ p : Int, x * y = p := ⟨_, rfl⟩
    rw [hp] at p0 hc ⊢
    have hw : IntKind.u64.wrap (x * y) = p := by rw [hp, IntKind.wrap_u64]; omega
    skip
    clear hab hdiv
    have hx' := Lib.hid hx
    have hy' := Lib.hid hy
    have hp' := Lib.hid hp
    clear hx hy hp
    go_enter Tryd.func34, Tryd.ntmps34
    go_wp2
    go_ret2
    exact ⟨rfl, rfl⟩

theorem product_np (a b : Int) (ha : FM.num a = true) (hb : FM.num b = true) (a0 : a < 0) (b0 : 0 < b) (w : World) :
    Calls Tryd.prog 34 #[.int .i64 a, .int .i64 b] w fun e w' => e = .returned (.tuple #[.int .i64 (FM.bd (a * b)).1, .bool (FM.num (a * b))]) ∧ w = w' := by
  have h1 := FM.num_yes ha
  have h2 := FM.num_yes hb
  clear ha hb
  have t1 : (a == 0) = false := by simp; omega
  have t2 : (b == 0) = false := by simp; omega
  have t3 : decide (a < 0) = true := by simp; omega
  have t4 : decide (b < 0) = false := by simp; omega
  obtain ⟨x, hx⟩ : ∃ x : Int, x = -a := ⟨_, rfl⟩
  have hx1 : 1 ≤ x ∧ x ≤ 1152921504606846976 := by omega
  have hy1 : 1 ≤ b ∧ b ≤ 1152921504606846976 := by omega
  have hab : FM.num (a * b) = decide (x * b ≤ 1152921504606846976) ∧ (x * b ≤ 1152921504606846976 → FM.bd (a * b) = (- (x * b), 0)) := by
    have e : a * b = - (x * b) := by subst hx; simp [Int.neg_mul]
    have p0 : 0 < x * b := Int.mul_pos (by omega) (by omega)
    have en : FM.num (a * b) = decide (x * b ≤ 1152921504606846976) := by rw [e, FM.num, decide_eq_decide]; omega
    refine ⟨en, fun h => ?_⟩
    rw [FM.bd, en, decide_eq_true h, if_pos rfl, e]
  have hdiv : 1152921504606846976 / b < x ↔ 1152921504606846976 < x * b := Int.ediv_lt_iff_lt_mul (by omega)
  have cx : IntKind.u64.wrap (-IntKind.u64.wrap a) = x := by rw [IntKind.wrap_u64, IntKind.wrap_u64]; omega
  by_cases hc : 1152921504606846976 < x * b
  · rw [hab.1, decide_eq_false (by omega), show (FM.bd (a * b)).1 = 0 by rw [FM.bd, hab.1, decide_eq_false (by omega), if_neg (by simp)]]
    have hq := hdiv.2 hc
    clear hab hdiv hc
    have hx' := Lib.hid hx
    clear hx 
    go_enter Tryd.func34, Tryd.ntmps34
    go_wp2
    go_ret2
    exact ⟨rfl, rfl⟩
  · rw [hab.1, hab.2 (by omega), decide_eq_true (by omega)]
    have hq : ¬ 1152921504606846976 / b < x := fun h => hc (hdiv.1 h)
    have p0 : 0 < x * b := Int.mul_pos (by omega) (by omega)
    obtain ⟨p, hp⟩ : ∃ p : Int, x * b = p := ⟨_, rfl⟩
    rw [hp] at p0 hc ⊢
    have hw : IntKind.u64.wrap (x * b) = p := by rw [hp, IntKind.wrap_u64]; omega
    have hn : IntKind.i64.wrap (IntKind.u64.wrap (-p)) = -p := by rw [IntKind.wrap_u64, IntKind.wrap_i64]; omega
    clear hab hdiv
    have hx' := Lib.hid hx
    have hp' := Lib.hid hp
    clear hx  hp
    go_enter Tryd.func34, Tryd.ntmps34
    go_wp2
    go_ret2
    exact ⟨rfl, rfl⟩

theorem product_pn (a b : Int) (ha : FM.num a = true) (hb : FM.num b = true) (a0 : 0 < a) (b0 : b < 0) (w : World) :
    Calls Tryd.prog 34 #[.int .i64 a, .int .i64 b] w fun e w' => e = .returned (.tuple #[.int .i64 (FM.bd (a * b)).1, .bool (FM.num (a * b))]) ∧ w = w' := by
  have h1 := FM.num_yes ha
  have h2 := FM.num_yes hb
  clear ha hb
  have t1 : (a == 0) = false := by simp; omega
  have t2 : (b == 0) = false := by simp; omega
  have t3 : decide (a < 0) = false := by simp; omega
  have t4 : decide (b < 0) = true := by simp; omega
  obtain ⟨y, hy⟩ : ∃ y : Int, y = -b := ⟨_, rfl⟩
  have hx1 : 1 ≤ a ∧ a ≤ 1152921504606846976 := by omega
  have hy1 : 1 ≤ y ∧ y ≤ 1152921504606846976 := by omega
  have hab : FM.num (a * b) = decide (a * y ≤ 1152921504606846976) ∧ (a * y ≤ 1152921504606846976 → FM.bd (a * b) = (- (a * y), 0)) := by
    have e : a * b = - (a * y) := by subst hy; simp [Int.mul_neg]
    have p0 : 0 < a * y := Int.mul_pos (by omega) (by omega)
    have en : FM.num (a * b) = decide (a * y ≤ 1152921504606846976) := by rw [e, FM.num, decide_eq_decide]; omega
    refine ⟨en, fun h => ?_⟩
    rw [FM.bd, en, decide_eq_true h, if_pos rfl, e]
  have hdiv : 1152921504606846976 / y < a ↔ 1152921504606846976 < a * y := Int.ediv_lt_iff_lt_mul (by omega)
  have cy : IntKind.u64.wrap (-IntKind.u64.wrap b) = y := by rw [IntKind.wrap_u64, IntKind.wrap_u64]; omega
  by_cases hc : 1152921504606846976 < a * y
  · rw [hab.1, decide_eq_false (by omega), show (FM.bd (a * b)).1 = 0 by rw [FM.bd, hab.1, decide_eq_false (by omega), if_neg (by simp)]]
    have hq := hdiv.2 hc
    clear hab hdiv hc
    have hy' := Lib.hid hy
    clear  hy
    go_enter Tryd.func34, Tryd.ntmps34
    go_wp2
    go_ret2
    exact ⟨rfl, rfl⟩
  · rw [hab.1, hab.2 (by omega), decide_eq_true (by omega)]
    have hq : ¬ 1152921504606846976 / y < a := fun h => hc (hdiv.1 h)
    have p0 : 0 < a * y := Int.mul_pos (by omega) (by omega)
    obtain ⟨p, hp⟩ : ∃ p : Int, a * y = p := ⟨_, rfl⟩
    rw [hp] at p0 hc ⊢
    have hw : IntKind.u64.wrap (a * y) = p := by rw [hp, IntKind.wrap_u64]; omega
    have hn : IntKind.i64.wrap (IntKind.u64.wrap (-p)) = -p := by rw [IntKind.wrap_u64, IntKind.wrap_i64]; omega
    clear hab hdiv
    have hy' := Lib.hid hy
    have hp' := Lib.hid hp
    clear  hy hp
    go_enter Tryd.func34, Tryd.ntmps34
    go_wp2
    go_ret2
    exact ⟨rfl, rfl⟩

theorem product_pp (a b : Int) (ha : FM.num a = true) (hb : FM.num b = true) (a0 : 0 < a) (b0 : 0 < b) (w : World) :
    Calls Tryd.prog 34 #[.int .i64 a, .int .i64 b] w fun e w' => e = .returned (.tuple #[.int .i64 (FM.bd (a * b)).1, .bool (FM.num (a * b))]) ∧ w = w' := by
  have h1 := FM.num_yes ha
  have h2 := FM.num_yes hb
  clear ha hb
  have t1 : (a == 0) = false := by simp; omega
  have t2 : (b == 0) = false := by simp; omega
  have t3 : decide (a < 0) = false := by simp; omega
  have t4 : decide (b < 0) = false := by simp; omega
  have hx1 : 1 ≤ a ∧ a ≤ 1152921504606846976 := by omega
  have hy1 : 1 ≤ b ∧ b ≤ 1152921504606846976 := by omega
  have hab : FM.num (a * b) = decide (a * b ≤ 1152921504606846975) ∧ (a * b ≤ 1152921504606846975 → FM.bd (a * b) = ( (a * b), 0)) := by
    have e : a * b =  (a * b) := by rfl
    have p0 : 0 < a * b := Int.mul_pos (by omega) (by omega)
    have en : FM.num (a * b) = decide (a * b ≤ 1152921504606846975) := by rw [e, FM.num, decide_eq_decide]; omega
    refine ⟨en, fun h => ?_⟩
    rw [FM.bd, en, decide_eq_true h, if_pos rfl, e]
  have hdiv : 1152921504606846975 / b < a ↔ 1152921504606846975 < a * b := Int.ediv_lt_iff_lt_mul (by omega)
  by_cases hc : 1152921504606846975 < a * b
  · rw [hab.1, decide_eq_false (by omega), show (FM.bd (a * b)).1 = 0 by rw [FM.bd, hab.1, decide_eq_false (by omega), if_neg (by simp)]]
    have hq := hdiv.2 hc
    clear hab hdiv hc
    skip
    go_enter Tryd.func34, Tryd.ntmps34
    go_wp2
    go_ret2
    exact ⟨rfl, rfl⟩
  · rw [hab.1, hab.2 (by omega), decide_eq_true (by omega)]
    have hq : ¬ 1152921504606846975 / b < a := fun h => hc (hdiv.1 h)
    have p0 : 0 < a * b := Int.mul_pos (by omega) (by omega)
    obtain ⟨p, hp⟩ : ∃ p : Int, a * b = p := ⟨_, rfl⟩
    rw [hp] at p0 hc ⊢
    have hw : IntKind.u64.wrap (a * b) = p := by rw [hp, IntKind.wrap_u64]; omega
    skip
    clear hab hdiv
    have hp' := Lib.hid hp
    clear   hp
    go_enter Tryd.func34, Tryd.ntmps34
    go_wp2
    go_ret2
    exact ⟨rfl, rfl⟩

theorem product_any (a b : Int) (ha : FM.num a = true) (hb : FM.num b = true) (w : World) :
    Calls Tryd.prog 34 #[.int .i64 a, .int .i64 b] w fun e w' => e = .returned (.tuple #[.int .i64 (FM.bd (a * b)).1, .bool (FM.num (a * b))]) ∧ w = w' := by
  by_cases a0 : a = 0
  · subst a0
    rw [Int.zero_mul, show (FM.bd 0).1 = 0 by kernel_rfl, show FM.num 0 = true by kernel_rfl]
    clear ha hb
    go_enter Tryd.func34, Tryd.ntmps34
    go_wp2
    go_ret2
    exact ⟨rfl, rfl⟩
  · by_cases b0 : b = 0
    · subst b0
      have t1 : (a == 0) = false := by simpa using a0
      rw [Int.mul_zero, show (FM.bd 0).1 = 0 by kernel_rfl, show FM.num 0 = true by kernel_rfl]
      clear ha hb
      go_enter Tryd.func34, Tryd.ntmps34
      go_wp2
      go_ret2
      exact ⟨rfl, rfl⟩
    · rcases (by omega : a < 0 ∨ 0 < a) with h | h <;> rcases (by omega : b < 0 ∨ 0 < b) with k | k
      · exact product_nn a b ha hb h k w
      · exact product_np a b ha hb h k w
      · exact product_pn a b ha hb h k w
      · exact product_pp a b ha hb h k w

theorem rmul_any (a b : Int) (w : World) :
    Calls Tryd.prog 17 #[.int .i64 a, .int .i64 b] w fun e w' => e = .returned (two (FM.mul a b)) ∧ w = w' := by
  cases ha : FM.num a
  · rw [FM.mul, both_no (.inl ha)]
    go_enter Tryd.func17, Tryd.ntmps17
    go_wp2_with (go_at_call 29; refine (rnum_any _ _).mono ?_; rintro e w' ⟨rfl, rfl⟩)
    go_ret2
    exact ⟨rfl, rfl⟩
  · cases hb : FM.num b
    · rw [FM.mul, both_no (.inr hb)]
      go_enter Tryd.func17, Tryd.ntmps17
      go_wp2_with (go_at_call 29; refine (rnum_any _ _).mono ?_; rintro e w' ⟨rfl, rfl⟩)
      go_ret2
      exact ⟨rfl, rfl⟩
    · rw [FM.mul, both_yes ha hb]
      unfold FM.bd
      cases hs : FM.num (a * b)
      all_goals
        have hp := product_any a b ha hb
        unfold FM.bd at hp
        simp only [hs, if_true, Bool.false_eq_true, if_false] at hp ⊢
        have hp' := Lib.hid hp
        clear hp
        go_enter Tryd.func17, Tryd.ntmps17
        go_wp2_with (first
          | (go_at_call 29; refine (rnum_any _ _).mono ?_; rintro e w' ⟨rfl, rfl⟩)
          | (go_at_call 34; refine (hp'.out _).mono ?_; rintro e w' ⟨rfl, rfl⟩))
        go_ret2
        exact ⟨rfl, rfl⟩
end Go.Proofs.YtjlijpdnefficaaDoor
