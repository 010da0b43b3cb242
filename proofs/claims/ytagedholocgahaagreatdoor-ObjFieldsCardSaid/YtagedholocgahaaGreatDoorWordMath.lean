/- The plain mathematics of words: a word's number, its kind, its value, and what a word is made of. No dump is read here. -/
import Derived.WalkKit
import Derived.ProofKit
namespace Go.Proofs.YtagedholocgahaaGreatDoor.WM
open Go.RowKit

/-- the number above the lowest three bits, with its sign -/
def nm (a : Int) : Int := wrap64 a / 8
def most (t : Int) : Int :=
  if t = 0 then 1152921504606846975 else if t = 1 then 1099511627776 else if t = 2 then 255 else if t = 3 then 1
  else if t = 4 then 2 else if t = 5 then 4095 else if t = 6 then 255 else -1
def least (t : Int) : Int := if t = 0 then -1152921504606846976 else 0
def hd (t n : Int) : Bool := decide (least t ≤ n ∧ n ≤ most t)
def kt (t n : Int) : Int :=
  if t = 0 then 1 else if t = 1 then 2 else if t = 2 then 3 else if t = 3 then 4 else if t = 4 then 5 + n else if t = 5 then 8 else 9
def kd (a : Int) : Int := if hd (a % 8) (nm a) then kt (a % 8) (nm a) else 0
def vl (a : Int) : Int := if kd a = 0 then 0 else nm a
def mk (t n : Int) : Int := (n * 8) % 18446744073709551616 + t
def tru (a : Int) : Bool := !(a == 3)

theorem and7 (a : Int) (h0 : 0 ≤ a) (h1 : a < 18446744073709551616) : bits .and .u64 a 7 = a % 8 :=
  bits_mask .u64 64 (by decide) (fun n g0 g1 => by rw [IntKind.wrap_u64]; omega) 3 (by decide) a h0 h1
theorem or_low (x t : Int) (h0 : 0 ≤ x) (h1 : x < 18446744073709551616) (h2 : x % 8 = 0) (t0 : 0 ≤ t) (t1 : t < 8) : bits .or .u64 x t = x + t :=
  bits_join .u64 64 (by decide) (fun n g0 g1 => by rw [IntKind.wrap_u64]; omega) 3 x t h0 h2 h1 t0 t1 (by omega)
theorem nm_bd (a : Int) : -1152921504606846976 ≤ nm a ∧ nm a ≤ 1152921504606846975 := by unfold nm wrap64; omega
theorem mk_bd (t n : Int) (t0 : 0 ≤ t) (t1 : t < 8) : 0 ≤ mk t n ∧ mk t n < 18446744073709551616 := by unfold mk; omega
theorem hd0 (a : Int) : hd 0 (nm a) = true := by have := nm_bd a; simp [hd, least, most]; omega
theorem nm_mk (t n : Int) (t0 : 0 ≤ t) (t1 : t < 8) (h : -1152921504606846976 ≤ n ∧ n ≤ 1152921504606846975) : nm (mk t n) = n := by
  unfold nm mk wrap64; omega
theorem tg_mk (t n : Int) (t0 : 0 ≤ t) (t1 : t < 8) : mk t n % 8 = t := by unfold mk; omega
theorem mk_nm (a : Int) (h0 : 0 ≤ a) (h1 : a < 18446744073709551616) : mk (a % 8) (nm a) = a := by unfold mk nm wrap64; omega
theorem kd7 (a : Int) (h : kd a ≠ 0) : a % 8 < 7 := by
  have : 0 ≤ a % 8 ∧ a % 8 < 8 := by omega
  by_cases e : a % 8 = 7
  · exfalso; apply h; simp [kd, hd, e, least, most]; omega
  · omega
/-- what is of a kind is made of its tag and its value -/
theorem kd_cases (a : Int) (h0 : 0 ≤ a) (h1 : a < 18446744073709551616) :
    kd a = 0 ∧ vl a = 0 ∨ kd a = 1 ∧ hd 0 (vl a) = true ∧ mk 0 (vl a) = a ∨ kd a = 2 ∧ hd 1 (vl a) = true ∧ mk 1 (vl a) = a ∨ kd a = 3 ∧ hd 2 (vl a) = true ∧ mk 2 (vl a) = a
    ∨ kd a = 4 ∧ (vl a = 0 ∧ a = 3 ∨ vl a = 1 ∧ a = 11) ∨ kd a = 5 ∧ vl a = 0 ∧ a = 4 ∨ kd a = 6 ∧ vl a = 1 ∧ a = 12 ∨ kd a = 7 ∧ vl a = 2 ∧ a = 20
    ∨ kd a = 8 ∧ hd 5 (vl a) = true ∧ mk 5 (vl a) = a ∨ kd a = 9 ∧ hd 6 (vl a) = true ∧ mk 6 (vl a) = a := by
  by_cases hh : hd (a % 8) (nm a) = true
  · have hm := mk_nm a h0 h1
    have ht : a % 8 = 0 ∨ a % 8 = 1 ∨ a % 8 = 2 ∨ a % 8 = 3 ∨ a % 8 = 4 ∨ a % 8 = 5 ∨ a % 8 = 6 ∨ a % 8 = 7 := by omega
    have hk : kd a = kt (a % 8) (nm a) := by simp [kd, hh]
    have hb := hh
    simp only [hd, decide_eq_true_eq] at hb
    generalize hn : nm a = n at *
    have hz : kt (a % 8) n ≠ 0 := by
      rcases ht with e | e | e | e | e | e | e | e <;> rw [e] at hb ⊢ <;> simp [kt, least, most] at hb ⊢
      omega
    have hv : vl a = n := by simp [vl, hk, hz, hn]
    rw [hk, hv]
    rcases ht with e | e | e | e | e | e | e | e <;> rw [e] at hb hh hm ⊢ <;> simp [kt, hh, hm]
    · simp [least, most] at hb
      have : n = 0 ∨ n = 1 := by omega
      rcases this with rfl | rfl
      · left; simp [mk] at hm; omega
      · right; simp [mk] at hm; omega
    · simp [least, most] at hb
      have : n = 0 ∨ n = 1 ∨ n = 2 := by omega
      rcases this with rfl | rfl | rfl <;> simp [mk] at hm ⊢ <;> omega
    · exfalso; simp [least, most] at hb; omega
  · left
    have : kd a = 0 := by simp [kd, hh]
    exact ⟨this, by simp [vl, this]⟩
theorem same_of (a b : Int) (h0 : 0 ≤ a) (h1 : a < 18446744073709551616) (g0 : 0 ≤ b) (g1 : b < 18446744073709551616) (ha : kd a ≠ 0) (hk : kd a = kd b) (hv : vl a = vl b) : a = b := by
  rcases kd_cases a h0 h1 with h | h | h | h | h | h | h | h | h | h <;> rcases kd_cases b g0 g1 with g | g | g | g | g | g | g | g | g | g <;> first
    | (exfalso; omega)
    | (rw [← h.2.2, ← g.2.2, hv])
    | omega
end Go.Proofs.YtagedholocgahaaGreatDoor.WM
