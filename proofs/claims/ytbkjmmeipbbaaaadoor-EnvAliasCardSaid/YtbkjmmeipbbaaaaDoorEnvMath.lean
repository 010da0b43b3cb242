/- The plain mathematics of layer 11: places, aliases, and what a name means where. No dump is read here. -/
import Derived.Test.YtbkjmmeipbbaaaaDoorLexMath
import Derived.Lib.CutLaws
namespace Go.Proofs.YtbkjmmeipbbaaaaDoor.EM
open Go.RowKit

/-- may it be a symbol's name? -/
def sy (x : ByteArray) : Bool := LM.sym x.data.toList
/-- a place: within which one, which name, what it means -/
structure Pl where
  up : Nat
  nm : ByteArray
  k : Int
  n : Int
/-- what binds: a place, and the name there -/
structure Bd where
  at_ : Nat
  nm : ByteArray
deriving DecidableEq
/-- a table -/
structure Tb where
  tp : ByteArray → Option (Int × Int)
  nt : Nat
  P : List Pl
  A : ByteArray → Option Bd
  na : Nat

def Ups (P : List Pl) : Prop := ∀ (i : Nat) p, P[i]? = some p → p.up ≤ i
def near (P : List Pl) (x : ByteArray) : Nat → Nat → Nat
  | 0, _ => 0
  | f + 1, a => if a = 0 then 0 else match P[a - 1]? with
    | none => 0
    | some p => if p.nm = x then a else near P x f p.up
/-- the nearest place, from a on, that binds x; 0: none -/
def nr (P : List Pl) (x : ByteArray) (a : Nat) : Nat := near P x a a

theorem near_zero (P : List Pl) (x : ByteArray) (f : Nat) : near P x f 0 = 0 := by cases f <;> simp [near]
theorem nr_zero (P : List Pl) (x : ByteArray) : nr P x 0 = 0 := rfl
theorem near_fuel {P : List Pl} (h : Ups P) (x : ByteArray) : ∀ (f g a : Nat), a ≤ f → a ≤ g → near P x f a = near P x g a
  | 0, g, a, h1, _ => by obtain rfl : a = 0 := by omega
                         rw [near_zero, near_zero]
  | f + 1, 0, a, _, h2 => by obtain rfl : a = 0 := by omega
                             rw [near_zero, near_zero]
  | f + 1, g + 1, a, h1, h2 => by
    unfold near
    by_cases ha : a = 0
    · rw [if_pos ha, if_pos ha]
    · rw [if_neg ha, if_neg ha]
      cases hp : P[a - 1]? with
      | none => rfl
      | some p =>
        have hu := h _ p hp
        simp only
        rw [near_fuel h x f g p.up (by omega) (by omega)]
theorem nr_step {P : List Pl} (h : Ups P) (x : ByteArray) {a : Nat} {p : Pl} (ha : 0 < a) (hp : P[a - 1]? = some p) : nr P x a = if p.nm = x then a else nr P x p.up := by
  have hu := h _ p hp
  show near P x a a = _
  obtain ⟨b, rfl⟩ : ∃ b, a = b + 1 := ⟨a - 1, by omega⟩
  unfold near
  rw [if_neg (by omega), hp]
  simp only
  rw [near_fuel h x b p.up p.up (by omega) (Nat.le_refl _)]
  rfl
theorem near_le {P : List Pl} (h : Ups P) (x : ByteArray) : ∀ (f a : Nat), near P x f a ≤ a
  | 0, a => Nat.zero_le _
  | f + 1, a => by
    unfold near
    by_cases ha : a = 0
    · rw [if_pos ha]; omega
    · rw [if_neg ha]
      cases hp : P[a - 1]? with
      | none => exact Nat.zero_le _
      | some p =>
        have hu := h _ p hp
        simp only
        split
        · exact Nat.le_refl _
        · have := near_le h x f p.up; omega
theorem nr_le {P : List Pl} (h : Ups P) (x : ByteArray) (a : Nat) : nr P x a ≤ a := near_le h x a a
theorem near_hit {P : List Pl} (x : ByteArray) : ∀ (f a : Nat), near P x f a ≠ 0 → ∃ p, P[near P x f a - 1]? = some p ∧ p.nm = x
  | 0, a, h => absurd rfl h
  | f + 1, a, h => by
    unfold near at h ⊢
    by_cases ha : a = 0
    · rw [if_pos ha] at h; exact absurd rfl h
    · rw [if_neg ha] at h ⊢
      cases hp : P[a - 1]? with
      | none => rw [hp] at h; exact absurd rfl h
      | some p =>
        rw [hp] at h
        simp only at h ⊢
        by_cases hn : p.nm = x
        · rw [if_pos hn]; exact ⟨p, hp, hn⟩
        · rw [if_neg hn] at h ⊢; exact near_hit x f p.up h
theorem nr_hit {P : List Pl} {x : ByteArray} {a : Nat} (h : nr P x a ≠ 0) : ∃ p, P[nr P x a - 1]? = some p ∧ p.nm = x := near_hit x a a h
theorem nr_none {P : List Pl} {x : ByteArray} {a : Nat} (h : ∀ p ∈ P, p.nm ≠ x) : nr P x a = 0 := by
  apply Decidable.byContradiction
  intro hn
  obtain ⟨p, hp, e⟩ := nr_hit hn
  exact h p (List.mem_of_getElem? hp) e
theorem near_append {P Q : List Pl} (h : Ups P) (x : ByteArray) : ∀ (f a : Nat), a ≤ P.length → near (P ++ Q) x f a = near P x f a
  | 0, a, _ => rfl
  | f + 1, a, h1 => by
    unfold near
    by_cases ha : a = 0
    · rw [if_pos ha, if_pos ha]
    · rw [if_neg ha, if_neg ha, List.getElem?_append_left (by omega)]
      cases hp : P[a - 1]? with
      | none => rfl
      | some p =>
        have hu := h _ p hp
        simp only
        rw [near_append h x f p.up (by omega)]
theorem nr_append {P Q : List Pl} (h : Ups P) (x : ByteArray) {a : Nat} (ha : a ≤ P.length) : nr (P ++ Q) x a = nr P x a := near_append h x a a ha
theorem Ups.snoc {P : List Pl} (h : Ups P) {p : Pl} (hp : p.up ≤ P.length) : Ups (P ++ [p]) := by
  intro i q hq
  by_cases hi : i < P.length
  · rw [List.getElem?_append_left hi] at hq; exact h i q hq
  · rw [List.getElem?_append_right (by omega)] at hq
    have hl := (List.getElem?_eq_some_iff.1 hq).1
    simp only [List.length_cons, List.length_nil] at hl
    obtain rfl : i = P.length := by omega
    simp at hq; subst hq; exact hp

/-- what binds x at a -/
def bs (T : Tb) (a : Nat) (x : ByteArray) : Bd := if nr T.P x a = 0 then (T.A x).getD ⟨0, x⟩ else ⟨nr T.P x a, x⟩
/-- what it gives -/
def mean (T : Tb) (b : Bd) : Int × Int := if b.at_ = 0 then (T.tp b.nm).getD (0, 0) else match T.P[b.at_ - 1]? with
  | some p => (p.k, p.n)
  | none => (0, 0)
/-- 1: a symbol; 2: an alias; 0: no name -/
def kd (T : Tb) (x : ByteArray) : Nat := if sy x = true then 1 else if (T.A x).isSome = true then 2 else 0
/-- the error of a name at a place -/
def ck (T : Tb) (a : Int) (x : ByteArray) : Int := if a < 0 ∨ (T.P.length : Int) < a then 3 else if kd T x = 0 then 2 else 0
def pre (x : ByteArray) : ByteArray := ⟨(Lib.cut x.data.toList [32]).1.toArray⟩
def st (T : Tb) (x : ByteArray) : ByteArray := if kd T x = 2 then pre x else if kd T x = 1 then x else ByteArray.empty
def sp : ByteArray := ⟨#[32]⟩
def call (s : ByteArray) (k : Nat) : ByteArray := s ++ sp ++ ⟨(Lib.itoa (k : Int)).toArray⟩

/-- Top -/
def tset (f : ByteArray → Option (Int × Int)) (x : ByteArray) (k n : Int) : ByteArray → Option (Int × Int) := fun y => if y = x then (if k = 0 then none else some (k, n)) else f y
def top (T : Tb) (x : ByteArray) (k n : Int) : Tb := if sy x = true ∧ 0 ≤ k ∧ k ≤ 3 then { T with tp := tset T.tp x k n, nt := T.nt + 1 } else T
/-- Extend's error -/
def xe (T : Tb) (a : Int) (x : ByteArray) (k : Int) : Int := if ck T a x ≠ 0 then ck T a x else if k < 1 ∨ 3 < k then 2 else if 65536 ≤ T.P.length then 14 else 0
def ext (T : Tb) (a : Int) (x : ByteArray) (k n : Int) : Tb := if xe T a x k = 0 then { T with P := T.P ++ [⟨a.toNat, x, k, n⟩] } else T
/-- Alias's error -/
def ae (T : Tb) (a : Int) (x : ByteArray) : Int := if ck T a x ≠ 0 then ck T a x else if 65536 ≤ T.na then 14 else 0
def aset (f : ByteArray → Option Bd) (x : ByteArray) (b : Bd) : ByteArray → Option Bd := fun y => if y = x then some b else f y
def nam (T : Tb) (x : ByteArray) : ByteArray := call (st T x) (T.na + 1)
def ali (T : Tb) (a : Int) (x : ByteArray) : Tb := if ae T a x = 0 then { T with A := aset T.A (nam T x) (bs T a.toNat x), na := T.na + 1 } else T
end Go.Proofs.YtbkjmmeipbbaaaaDoor.EM
