/- The plain mathematics of layer 2: what each call gives for any two ints. No dump is read here. -/
import Derived.WalkKit
import Derived.ProofKit
namespace Go.Proofs.YthfelkcomhflnaaDoor.FM
open Go.RowKit

/-- within the bounds? -/
def num (a : Int) : Bool := decide (-1152921504606846976 ≤ a ∧ a ≤ 1152921504606846975)
theorem num_yes {a : Int} (h : num a = true) : -1152921504606846976 ≤ a ∧ a ≤ 1152921504606846975 := of_decide_eq_true h
theorem num_mk {a : Int} (h : -1152921504606846976 ≤ a ∧ a ≤ 1152921504606846975) : num a = true := decide_eq_true h
theorem num_no {a : Int} (h : num a = false) : a < -1152921504606846976 ∨ 1152921504606846975 < a := by
  have := of_decide_eq_false h; omega
theorem num_mk_no {a : Int} (h : a < -1152921504606846976 ∨ 1152921504606846975 < a) : num a = false := decide_eq_false (by omega)

/-- the number, if it is one; else the overflow -/
def bd (a : Int) : Int × Int := if num a then (a, 0) else (0, 11)
/-- of two numbers alone -/
def both (a b : Int) (x : Int × Int) : Int × Int := if num a && num b then x else (0, 2)
def add (a b : Int) : Int × Int := both a b (bd (a + b))
def sub (a b : Int) : Int × Int := both a b (bd (a - b))
def mul (a b : Int) : Int × Int := both a b (bd (a * b))
def quo (a b : Int) : Int × Int := both a b (if b = 0 then (0, 12) else bd (a.tdiv b))
def rem (a b : Int) : Int × Int := both a b (if b = 0 then (0, 12) else (a.tmod b, 0))
/-- of b's sign -/
def md (a b : Int) : Int := if a.tmod b ≠ 0 ∧ (decide (a.tmod b < 0) ≠ decide (b < 0)) then a.tmod b + b else a.tmod b
def mod (a b : Int) : Int × Int := both a b (if b = 0 then (0, 12) else (md a b, 0))

theorem tmod_bd (a b : Int) (_hb : b ≠ 0) : (0 ≤ a → 0 ≤ a.tmod b) ∧ (a ≤ 0 → a.tmod b ≤ 0) ∧ (0 < b → -b < a.tmod b ∧ a.tmod b < b) ∧ (b < 0 → b < a.tmod b ∧ a.tmod b < -b) := by
  refine ⟨fun h => Int.tmod_nonneg _ h, fun h => ?_, fun h => ?_, fun h => ?_⟩
  · have := Int.tmod_nonneg b (a := -a) (by omega)
    rw [Int.neg_tmod] at this; omega
  · have h1 := Int.tmod_lt_of_pos a h
    have h2 := Int.tmod_lt_of_pos (-a) h
    rw [Int.neg_tmod] at h2; omega
  · have h1 := Int.tmod_lt_of_pos a (b := -b) (by omega)
    have h2 := Int.tmod_lt_of_pos (-a) (b := -b) (by omega)
    rw [Int.neg_tmod] at h2
    rw [Int.tmod_neg] at h1 h2; omega
theorem tdm (a b : Int) : a.tdiv b * b + a.tmod b = a := by rw [Int.mul_comm]; exact Int.mul_tdiv_add_tmod a b
theorem abs_le {a : Int} (c : Int) (h : -c ≤ a) (h' : a ≤ c) : (a.natAbs : Int) ≤ c := by omega
theorem tdiv_bd (a b : Int) : (a.tdiv b).natAbs ≤ a.natAbs := by rw [Int.natAbs_tdiv]; exact Nat.div_le_self _ _

/-- a small number's remainder -/
theorem tmod_small {x b : Int} (h : x.natAbs < b.natAbs) : x.tmod b = x := by
  rcases Int.le_total 0 x with hx | hx
  · rcases Int.le_total 0 b with hb | hb
    · exact Int.tmod_eq_of_lt hx (by omega)
    · rw [← Int.tmod_neg]; exact Int.tmod_eq_of_lt hx (by omega)
  · have : (-x).tmod b = -x := by
      rcases Int.le_total 0 b with hb | hb
      · exact Int.tmod_eq_of_lt (by omega) (by omega)
      · rw [← Int.tmod_neg]; exact Int.tmod_eq_of_lt (by omega) (by omega)
    rw [Int.neg_tmod] at this; omega

theorem tmod_add_self {r b : Int} (_hb : b ≠ 0) (h : 0 ≤ b ∧ 0 ≤ r ∨ b ≤ 0 ∧ r ≤ 0) : (r + b).tmod b = r.tmod b := by
  rcases h with ⟨h1, h2⟩ | ⟨h1, h2⟩
  · rw [Int.tmod_eq_emod_of_nonneg (by omega), Int.tmod_eq_emod_of_nonneg h2, Int.add_emod_right]
  · have e : ∀ x : Int, x ≤ 0 → x.tmod b = -((-x) % (-b)) := fun x hx => by
      have h3 : (-x).tmod b = -(x.tmod b) := Int.neg_tmod ..
      have h4 : (-x).tmod (-b) = (-x).tmod b := Int.tmod_neg ..
      have h5 : (-x).tmod (-b) = (-x) % (-b) := Int.tmod_eq_emod_of_nonneg (by omega)
      omega
    rw [e (r + b) (by omega), e r h2, show -(r + b) = -r + -b by omega, Int.add_emod_right]

/-- what is left of a, and one b more, leaves the modulo -/
theorem md_eq (a b : Int) (hb : b ≠ 0) : (a.tmod b + b).tmod b = md a b := by
  have t := tmod_bd a b hb
  unfold md
  by_cases hc : a.tmod b ≠ 0 ∧ (decide (a.tmod b < 0) ≠ decide (b < 0))
  · rw [if_pos hc]
    obtain ⟨h0, h1⟩ := hc
    have h2 : ¬ (a.tmod b < 0 ↔ b < 0) := by simpa using h1
    refine tmod_small ?_
    omega
  · rw [if_neg hc]
    have h2 : a.tmod b = 0 ∨ (a.tmod b < 0 ↔ b < 0) := by
      by_cases h0 : a.tmod b = 0
      · exact .inl h0
      · refine .inr ?_
        by_cases h : (a.tmod b < 0 ↔ b < 0)
        · exact h
        · exact absurd ⟨h0, by simpa using h⟩ hc
    rw [tmod_add_self hb (by omega)]
    refine tmod_small ?_
    omega

theorem md_bd (a b : Int) (hb : b ≠ 0) : (0 < b → 0 ≤ md a b ∧ md a b < b) ∧ (b < 0 → b < md a b ∧ md a b ≤ 0) := by
  have t := tmod_bd a b hb
  unfold md
  by_cases hc : a.tmod b ≠ 0 ∧ (decide (a.tmod b < 0) ≠ decide (b < 0))
  · rw [if_pos hc]
    obtain ⟨h0, h1⟩ := hc
    have h2 : ¬ (a.tmod b < 0 ↔ b < 0) := by simpa using h1
    omega
  · rw [if_neg hc]
    have h2 : a.tmod b = 0 ∨ (a.tmod b < 0 ↔ b < 0) := by
      by_cases h0 : a.tmod b = 0
      · exact .inl h0
      · refine .inr ?_
        by_cases h : (a.tmod b < 0 ↔ b < 0)
        · exact h
        · exact absurd ⟨h0, by simpa using h⟩ hc
    omega
theorem md_or (a b : Int) : md a b = a.tmod b ∨ md a b = a.tmod b + b := by
  unfold md; split
  · exact .inr rfl
  · exact .inl rfl

theorem wrap_in (n : Int) (h : -9223372036854775808 ≤ n) (h' : n ≤ 9223372036854775807) : wrap64 n = n := by unfold wrap64; omega

/-- a product that ran over comes back by no division -/
theorem mul_back (a b : Int) (ha : num a = true) (h0 : a ≠ 0) (h : (wrap64 (a * b)).tdiv a = b) : wrap64 (a * b) = a * b := by
  have hb := num_yes ha
  have e := tdm (wrap64 (a * b)) a
  rw [h, Int.mul_comm b a] at e
  have t := tmod_bd (wrap64 (a * b)) a h0
  have hw : (wrap64 (a * b) - a * b) % 18446744073709551616 = 0 := by unfold wrap64; omega
  have k : -1152921504606846976 ≤ (wrap64 (a * b)).tmod a ∧ (wrap64 (a * b)).tmod a ≤ 1152921504606846976 := by omega
  omega
theorem mul_there (a b : Int) (h0 : a ≠ 0) (h : wrap64 (a * b) = a * b) : (wrap64 (a * b)).tdiv a = b := by
  rw [h]; exact Int.mul_tdiv_cancel_left b h0
/-- so the division tells -/
theorem mul_tells (a b : Int) (h0 : a ≠ 0) : (wrap64 (a * b)).tdiv a = b ∨ ((wrap64 (a * b)).tdiv a ≠ b ∧ num (a * b) = false) := by
  by_cases h : (wrap64 (a * b)).tdiv a = b
  · exact .inl h
  · refine .inr ⟨h, ?_⟩
    cases hn : num (a * b) with
    | false => rfl
    | true =>
      have := num_yes hn
      exact absurd (mul_there a b h0 (by unfold wrap64; omega)) h

/-- the division of the product runs over nowhere -/
theorem mul_quo_in (a b : Int) (ha : num a = true) (hb : num b = true) (h0 : a ≠ 0) : wrap64 ((wrap64 (a * b)).tdiv a) = (wrap64 (a * b)).tdiv a := by
  have h1 := num_yes ha
  have h2 := num_yes hb
  have hq : ((wrap64 (a * b)).tdiv a).natAbs = (wrap64 (a * b)).natAbs / a.natAbs := Int.natAbs_tdiv _ _
  have hp : (wrap64 (a * b)).natAbs ≤ 9223372036854775808 := by unfold wrap64; omega
  suffices h : ((wrap64 (a * b)).tdiv a).natAbs ≤ 4611686018427387904 by apply wrap_in <;> omega
  rw [hq]
  by_cases h : a.natAbs = 1
  · have : a = 1 ∨ a = -1 := by omega
    have hp2 : (wrap64 (a * b)).natAbs ≤ 4611686018427387904 := by
      rcases this with rfl | rfl
      · unfold wrap64; omega
      · unfold wrap64; omega
    exact Nat.le_trans (Nat.div_le_self _ _) hp2
  · have : 2 ≤ a.natAbs := by omega
    have h3 : (wrap64 (a * b)).natAbs / a.natAbs ≤ (wrap64 (a * b)).natAbs / 2 := Nat.div_le_div_left this (by decide)
    omega
theorem quo_in (a b : Int) (ha : num a = true) : wrap64 (a.tdiv b) = a.tdiv b := by
  have h1 := num_yes ha
  have h2 := tdiv_bd a b
  apply wrap_in <;> omega
/-- what the division of the product is held against -/
theorem mul_way_no (a b : Int) (ha : num a = true) (hb : num b = true) (h0 : a ≠ 0) (h : wrap64 ((wrap64 (a * b)).tdiv a) ≠ b) : bd (a * b) = (0, 11) := by
  rw [mul_quo_in a b ha hb h0] at h
  rcases mul_tells a b h0 with k | ⟨_, k⟩
  · exact absurd k h
  · rw [bd, k, if_neg (by simp)]
theorem mul_way_yes (a b : Int) (ha : num a = true) (hb : num b = true) (h0 : a ≠ 0) (h : wrap64 ((wrap64 (a * b)).tdiv a) = b) : wrap64 (a * b) = a * b := by
  rw [mul_quo_in a b ha hb h0] at h
  exact mul_back a b ha h0 h

/-- the product by its parts without signs -/
theorem absmul (a b : Int) : (a * b).natAbs = a.natAbs * b.natAbs := Int.natAbs_mul a b
theorem over (x y m : Nat) (hy : 0 < y) : m / y < x ↔ m < x * y := Nat.div_lt_iff_lt_mul hy
end Go.Proofs.YthfelkcomhflnaaDoor.FM
