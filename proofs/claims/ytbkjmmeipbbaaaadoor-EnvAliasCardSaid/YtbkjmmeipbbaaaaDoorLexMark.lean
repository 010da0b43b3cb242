/- What the functions of package lex give that make a token without looking far. -/
import Derived.Test.YtbkjmmeipbbaaaaDoorLexCalls
import Derived.Test.YtbkjmmeipbbaaaaDoorShelf
import Derived.Lib.Strings
namespace Go.Proofs.YtbkjmmeipbbaaaaDoor
open Go.ChangeShapes Go.WideShapes Go.ChangeAt Go.RowKit

/-- a token of which no place is known, and an error -/
def tka (T : LM.Tk) : Value := .tuple #[.agg #[.int .i64 T.k, .int .i64 T.n, .string ⟨T.s.toArray⟩, .int .i64 0, .int .i64 0, .int .i64 (T.len : Nat)], er T.e]

theorem stringsClone_any (s : ByteArray) (hs : s.size ≤ 281474976710656) (w : World) :
    Calls Tryd.prog 22 #[.string s] w fun e w' => e = .returned (.string s) ∧ Went w w' := by
  go_enter Tryd.func22, Tryd.ntmps22
  go_wp2_with (go_at_call 37; refine (Tryd.stringslite_Clone _ _ hs).mono ?_; rintro e w' ⟨rfl, hb⟩)
  go_ret
  exact ⟨rfl, hb⟩

/-- do two bytes stand ahead? -/
def pre2 (a b : Int) : List UInt8 → Bool
  | [] => false
  | c :: r => decide ((c.toNat : Int) = a) && decide (LM.hd r = b)
/-- what the walk asks of a string that is no such one -/
theorem lst_no {s : ByteArray} {l : List UInt8} (h : s.data.toList ≠ l) : (s.toList == l) = false := by
  rw [ByteArray.toList_eq]; simpa using h
theorem lst_yes {s : ByteArray} {l : List UInt8} (h : s.data.toList = l) : s = ⟨l.toArray⟩ := by
  cases s; rename_i d; cases d; simp at h; rw [h]

/-- a byte behind a stroke -/
def esv (o : Option UInt8) : Value := match o with
  | none => .tuple #[.int .u8 0, .bool false]
  | some x => .tuple #[.int .u8 x.toNat, .bool true]
/-- a character, or none -/
def cov (n : Int) : Value := if n = -1 then .tuple #[.int .i64 0, .bool false] else .tuple #[.int .i64 n, .bool true]
theorem cho_one {s : ByteArray} (h : s.size = 1) (n : ¬ (s.data.toList = LM.sp1 ∨ s.data.toList = LM.sp2 ∨ s.data.toList = LM.sp3 ∨ s.data.toList = LM.sp4)) :
    LM.cho s.data.toList = if (s[0].toNat : Int) ≤ 32 then -1 else (s[0].toNat : Int) := by
  have e : s.data.toList = [s[0]] := by
    rw [cons_of (s := s) (by omega), List.drop_of_length_le (by rw [size_len]; omega)]
  have n1 : s.data.toList ≠ LM.sp1 := fun h => n (.inl h)
  have n2 : s.data.toList ≠ LM.sp2 := fun h => n (.inr (.inl h))
  have n3 : s.data.toList ≠ LM.sp3 := fun h => n (.inr (.inr (.inl h)))
  have n4 : s.data.toList ≠ LM.sp4 := fun h => n (.inr (.inr (.inr h)))
  unfold LM.cho
  rw [if_neg n1, if_neg n2, if_neg n3, if_neg n4, e]
theorem cho_more {s : ByteArray} (h : 1 < s.size) (n : ¬ (s.data.toList = LM.sp1 ∨ s.data.toList = LM.sp2 ∨ s.data.toList = LM.sp3 ∨ s.data.toList = LM.sp4)) :
    LM.cho s.data.toList = -1 := by
  have n1 : s.data.toList ≠ LM.sp1 := fun h => n (.inl h)
  have n2 : s.data.toList ≠ LM.sp2 := fun h => n (.inr (.inl h))
  have n3 : s.data.toList ≠ LM.sp3 := fun h => n (.inr (.inr (.inl h)))
  have n4 : s.data.toList ≠ LM.sp4 := fun h => n (.inr (.inr (.inr h)))
  unfold LM.cho
  rw [if_neg n1, if_neg n2, if_neg n3, if_neg n4]
  have hl := size_len s
  match he : s.data.toList with
  | [] => rfl
  | [c] => rw [he] at hl; simp at hl; omega
  | _ :: _ :: _ => rfl
end Go.Proofs.YtbkjmmeipbbaaaaDoor
