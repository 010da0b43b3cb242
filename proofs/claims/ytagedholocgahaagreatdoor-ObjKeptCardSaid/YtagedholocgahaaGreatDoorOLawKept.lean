/- ObjKept: n pairs in a ring. Plain mathematics. -/
import Derived.Test.YtagedholocgahaaGreatDoorOLawFill
namespace Go.Proofs.YtagedholocgahaaGreatDoor
open Go.RowKit

/-- the list of i pairs: the last one made is in the register; the first one made ends it -/
structure Lst (M : Md) (i : Nat) : Prop where
  reg : M.reg 0 = (if i = 0 then .w 4 else .t (i - 1))
  form : ∀ k, k < i → M.form k = 1
  len : ∀ k, k < i → M.len k = 2
  one : ∀ k, k < i → M.fld k 0 = .w (8 * (k : Int))
  two : ∀ k, k < i → M.fld k 1 = (if k = 0 then .w 4 else .t (k - 1))
theorem lst_none : Lst (Md.none.setReg 0 (.w 4)) 0 := ⟨rfl, fun k h => absurd h (by omega), fun k h => absurd h (by omega), fun k h => absurd h (by omega), fun k h => absurd h (by omega)⟩
section
variable {M : Md} {i n : Nat} {x : Int}
/-- one more -/
theorem Lst.next (h : Lst M i) : Lst ((M.obj i 1 2 x [.w (8 * (i : Int)), M.reg 0] 2).setReg 0 (.t i)) (i + 1) := by
  refine ⟨by simp [Md.setReg], fun k hk => ?_, fun k hk => ?_, fun k hk => ?_, fun k hk => ?_⟩
  · show (if k = i then 1 else M.form k) = 1
    split
    · rfl
    · exact h.form k (by omega)
  · show (if k = i then 2 else M.len k) = 2
    split
    · rfl
    · exact h.len k (by omega)
  · show (if k = i then V.w (8 * (i : Int)) else M.fld k 0) = _
    split
    · next e => rw [e]
    · exact h.one k (by omega)
  · show (if k = i then M.reg 0 else M.fld k 1) = _
    split
    · next e => rw [e]; exact h.reg
    · exact h.two k (by omega)
theorem Lst.wd (h : Lst M i) : (M.reg 0).ok ∧ (M.reg 0).Has (Reach M) := by
  constructor
  · rw [h.reg]
    split
    · exact ok4
    · trivial
  · exact (Reach.closed M).reg 0 (by omega)
/-- all of them are reached -/
theorem Lst.reach (h : Lst M i) : ∀ d, d < i → Reach M (i - 1 - d)
  | 0, hd => by
    have := h.reg
    rw [if_neg (by omega)] at this
    exact reach_reg (by omega) this
  | d + 1, hd => by
    have ih := h.reach d (by omega)
    have h2 := h.two (i - 1 - d) (by omega)
    rw [if_neg (by omega)] at h2
    have := (Reach.closed M).plain _ ih (h.form _ (by omega)) 1 (by rw [h.len _ (by omega)]; omega)
    rw [h2] at this
    rw [show i - 1 - (d + 1) = i - 1 - d - 1 by omega]
    exact this
theorem Lst.all (h : Lst M i) (k : Nat) (hk : k < i) : Reach M k := by
  have := h.reach (i - 1 - k) (by omega)
  rw [show i - 1 - (i - 1 - k) = k by omega] at this
  exact this
/-- The ring: the first one's second is the last one made. -/
structure Rng' (M : Md) (n : Nat) : Prop where
  reg : M.reg 0 = .t (n - 1)
  form : ∀ k, k < n → M.form k = 1
  len : ∀ k, k < n → M.len k = 2
  one : ∀ k, k < n → M.fld k 0 = .w (8 * (k : Int))
  two : ∀ k, k < n → M.fld k 1 = (if k = 0 then .t (n - 1) else .t (k - 1))
theorem Lst.ring (h : Lst M n) (hn : 0 < n) : Rng' (M.setFld 0 1 (.t (n - 1))) n := by
  have hr := h.reg
  rw [if_neg (by omega)] at hr
  refine ⟨hr, h.form, h.len, fun k hk => ?_, fun k hk => ?_⟩
  · show (if k = 0 ∧ 0 = 1 then V.t (n - 1) else M.fld k 0) = _
    rw [if_neg (by omega)]
    exact h.one k hk
  · show (if k = 0 ∧ 1 = 1 then V.t (n - 1) else M.fld k 1) = _
    by_cases e : k = 0
    · rw [if_pos ⟨e, rfl⟩, if_pos e]
    · rw [if_neg (fun h => e h.1), if_neg e, h.two k hk, if_neg e]
theorem Rng'.reach (h : Rng' M n) (hn : 0 < n) : ∀ d, d < n → Reach M (n - 1 - d)
  | 0, _ => reach_reg (by omega) h.reg
  | d + 1, hd => by
    have ih := h.reach hn d (by omega)
    have h2 := h.two (n - 1 - d) (by omega)
    rw [if_neg (by omega)] at h2
    have := (Reach.closed M).plain _ ih (h.form _ (by omega)) 1 (by rw [h.len _ (by omega)]; omega)
    rw [h2] at this
    rw [show n - 1 - (d + 1) = n - 1 - d - 1 by omega]
    exact this
theorem Rng'.all (h : Rng' M n) (k : Nat) (hk : k < n) : Reach M k := by
  have := h.reach (by omega) (n - 1 - k) (by omega)
  rw [show n - 1 - (n - 1 - k) = k by omega] at this
  exact this
/-- the one at the step j -/
def stp (n j : Nat) : Nat := n - 1 - j % n
theorem stp_lt (n j : Nat) (hn : 0 < n) : stp n j < n := by unfold stp; omega
theorem Rng'.next (h : Rng' M n) (hn : 0 < n) (j : Nat) : M.fld (stp n j) 1 = .t (stp n (j + 1)) := by
  rw [h.two _ (stp_lt n j hn)]
  have hm := Nat.mod_lt j hn
  have e : (j + 1) % n = if j % n + 1 = n then 0 else j % n + 1 := by
    rw [Nat.add_mod]
    by_cases h1 : n = 1
    · subst h1
      simp [Nat.mod_one]
    · rw [Nat.mod_eq_of_lt (show 1 < n by omega)]
      split
      · next e => rw [e, Nat.mod_self]
      · exact Nat.mod_eq_of_lt (by omega)
  unfold stp
  rw [e]
  by_cases e1 : j % n + 1 = n
  · rw [if_pos e1, if_pos (show n - 1 - j % n = 0 by omega)]
    rfl
  · rw [if_neg e1, if_neg (show ¬ n - 1 - j % n = 0 by omega)]
    exact congrArg V.t (by omega)
end
end Go.Proofs.YtagedholocgahaaGreatDoor
