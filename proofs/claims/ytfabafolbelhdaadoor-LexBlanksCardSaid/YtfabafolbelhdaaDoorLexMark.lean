/- What the functions of package lex give that make a token without looking far. -/
import Derived.Test.YtfabafolbelhdaaDoorLexCalls
import Derived.Lib.Strings
namespace Go.Proofs.YtfabafolbelhdaaDoor
open Go.ChangeShapes Go.WideShapes Go.ChangeAt Go.RowKit

/-- a token of which no place is known, and an error -/
def tka (T : LM.Tk) : Value := .tuple #[.agg #[.int .i64 T.k, .int .i64 T.n, .string ⟨T.s.toArray⟩, .int .i64 0, .int .i64 0, .int .i64 (T.len : Nat)], er T.e]

theorem mark_any (k : Int) (s : ByteArray) (w : World) :
    Calls Tryd.prog 50 #[.int .i64 k, .string s] w fun e w' => e = .returned (.agg #[.int .i64 k, .int .i64 0, .string ⟨#[]⟩, .int .i64 0, .int .i64 0, .int .i64 (s.size : Nat)]) ∧ Went w w' := by
  go_enter Tryd.func50, Tryd.ntmps50
  go_wp2
  exact bodyPost_ret (v := .agg #[.int .i64 k, .int .i64 0, .string ⟨#[]⟩, .int .i64 0, .int .i64 0, .int .i64 (s.size : Nat)]) (by simp [results, Tryd.results50, go_sem]) rfl ⟨rfl, (Below.refl _ _).alloc (Nat.le_refl _) _⟩

theorem stringsClone_any (s : ByteArray) (hs : s.size ≤ 281474976710656) (w : World) :
    Calls Tryd.prog 63 #[.string s] w fun e w' => e = .returned (.string s) ∧ Went w w' := by
  go_enter Tryd.func63, Tryd.ntmps63
  go_wp2_with (go_at_call 66; refine (Tryd.stringslite_Clone _ _ hs).mono ?_; rintro e w' ⟨rfl, hb⟩)
  go_ret
  exact ⟨rfl, hb⟩

/-- do two bytes stand ahead? -/
def pre2 (a b : Int) : List UInt8 → Bool
  | [] => false
  | c :: r => decide ((c.toNat : Int) = a) && decide (LM.hd r = b)
theorem hasPrefix_two (s : ByteArray) (a b : UInt8) (w : World) :
    Calls Tryd.prog 51 #[.string s, .string ⟨#[a, b]⟩] w fun e w' => e = .returned (.bool (pre2 a.toNat b.toNat s.data.toList)) ∧ w = w' := by
  refine (Tryd.strings_HasPrefix s ⟨#[a, b]⟩ w).mono ?_
  rintro e w' ⟨rfl, rfl⟩
  refine ⟨ret_b ?_, rfl⟩
  unfold Lib.hasPrefix pre2
  cases h : s.data.toList with
  | nil => rfl
  | cons c r =>
    cases r with
    | nil =>
      have hb : ¬ ((-1 : Int) = b.toNat) := by omega
      simp [LM.hd, List.isPrefixOf, hb]
    | cons d q =>
      have e1 : (a == c) = decide ((c.toNat : Int) = a.toNat) := by
        rw [Bool.eq_iff_iff]; simp only [beq_iff_eq, decide_eq_true_eq]
        exact ⟨fun h => by rw [h], fun h => by apply UInt8.toNat_inj.1; omega⟩
      have e2 : (b == d) = decide ((d.toNat : Int) = b.toNat) := by
        rw [Bool.eq_iff_iff]; simp only [beq_iff_eq, decide_eq_true_eq]
        exact ⟨fun h => by rw [h], fun h => by apply UInt8.toNat_inj.1; omega⟩
      show ((a == c) && ((b == d) && true)) = (decide ((c.toNat : Int) = a.toNat) && decide ((d.toNat : Int) = b.toNat))
      rw [e1, e2, Bool.and_true]

/-- what the walk asks of a string that is no such one -/
theorem lst_no {s : ByteArray} {l : List UInt8} (h : s.data.toList ≠ l) : (s.toList == l) = false := by
  rw [ByteArray.toList_eq]; simpa using h
theorem lst_yes {s : ByteArray} {l : List UInt8} (h : s.data.toList = l) : s = ⟨l.toArray⟩ := by
  cases s; rename_i d; cases d; simp at h; rw [h]

/-- a byte behind a stroke -/
def esv (o : Option UInt8) : Value := match o with
  | none => .tuple #[.int .u8 0, .bool false]
  | some x => .tuple #[.int .u8 x.toNat, .bool true]
theorem escaped_any (c : UInt8) (w : World) :
    Calls Tryd.prog 62 #[.int .u8 c.toNat] w fun e w' => e = .returned (esv (LM.esc c)) ∧ w = w' := by
  by_cases h1 : c = 110
  · subst h1
    go_enter Tryd.func62, Tryd.ntmps62
    go_wp2
    go_ret2
    exact ⟨rfl, rfl⟩
  by_cases h2 : c = 116
  · subst h2
    go_enter Tryd.func62, Tryd.ntmps62
    go_wp2
    go_ret2
    exact ⟨rfl, rfl⟩
  by_cases h3 : c = 92
  · subst h3
    go_enter Tryd.func62, Tryd.ntmps62
    go_wp2
    go_ret2
    exact ⟨rfl, rfl⟩
  by_cases h4 : c = 34
  · subst h4
    go_enter Tryd.func62, Tryd.ntmps62
    go_wp2
    go_ret2
    exact ⟨rfl, rfl⟩
  have e : LM.esc c = none := by simp [LM.esc, h1, h2, h3, h4]
  rw [e]
  have k1 : ((c.toNat : Int) == 110) = false := by simp only [beq_eq_false_iff_ne, ne_eq]; intro e; apply h1; apply UInt8.toNat_inj.1; show c.toNat = 110; omega
  have k2 : ((c.toNat : Int) == 116) = false := by simp only [beq_eq_false_iff_ne, ne_eq]; intro e; apply h2; apply UInt8.toNat_inj.1; show c.toNat = 116; omega
  have k3 : ((c.toNat : Int) == 92) = false := by simp only [beq_eq_false_iff_ne, ne_eq]; intro e; apply h3; apply UInt8.toNat_inj.1; show c.toNat = 92; omega
  have k4 : ((c.toNat : Int) == 34) = false := by simp only [beq_eq_false_iff_ne, ne_eq]; intro e; apply h4; apply UInt8.toNat_inj.1; show c.toNat = 34; omega
  clear h1 h2 h3 h4 e
  go_enter Tryd.func62, Tryd.ntmps62
  go_wp2
  go_ret2
  exact ⟨rfl, rfl⟩

/-- a character, or none -/
def cov (n : Int) : Value := if n = -1 then .tuple #[.int .i64 0, .bool false] else .tuple #[.int .i64 n, .bool true]
theorem charOf_lit (l : List UInt8) (hl : l = LM.sp1 ∨ l = LM.sp2 ∨ l = LM.sp3 ∨ l = LM.sp4) (w : World) :
    Calls Tryd.prog 60 #[.string ⟨l.toArray⟩] w fun e w' => e = .returned (cov (LM.cho l)) ∧ w = w' := by
  rcases hl with rfl | rfl | rfl | rfl
  · rw [show LM.cho LM.sp1 = 32 by rfl]
    unfold LM.sp1
    go_enter Tryd.func60, Tryd.ntmps60
    go_wp2
    go_ret2
    exact ⟨rfl, rfl⟩
  · rw [show LM.cho LM.sp2 = 10 by rfl]
    unfold LM.sp2
    go_enter Tryd.func60, Tryd.ntmps60
    go_wp2
    go_ret2
    exact ⟨rfl, rfl⟩
  · rw [show LM.cho LM.sp3 = 9 by rfl]
    unfold LM.sp3
    go_enter Tryd.func60, Tryd.ntmps60
    go_wp2
    go_ret2
    exact ⟨rfl, rfl⟩
  · rw [show LM.cho LM.sp4 = 0 by rfl]
    unfold LM.sp4
    go_enter Tryd.func60, Tryd.ntmps60
    go_wp2
    go_ret2
    exact ⟨rfl, rfl⟩
theorem cho_one {s : ByteArray} (h : s.size = 1) (n : ¬ (s.data.toList = LM.sp1 ∨ s.data.toList = LM.sp2 ∨ s.data.toList = LM.sp3 ∨ s.data.toList = LM.sp4)) :
    LM.cho s.data.toList = if (s[0].toNat : Int) ≤ 32 then -1 else (s[0].toNat : Int) := by
  have e : s.data.toList = [s[0]] := by
    rw [cons_of (s := s) (by omega), List.drop_of_length_le (by rw [size_len]; omega)]
  have n1 : s.data.toList ≠ LM.sp1 := fun h => n (.inl h)
  have n2 : s.data.toList ≠ LM.sp2 := fun h => n (.inr (.inl h))
  have n3 : s.data.toList ≠ LM.sp3 := fun h => n (.inr (.inr (.inl h)))
  have n4 : s.data.toList ≠ LM.sp4 := fun h => n (.inr (.inr (.inr h)))
  unfold LM.cho
  rw [if_neg n1, if_neg n2, if_neg n3, if_neg n4, e]
theorem cho_more {s : ByteArray} (h : 1 < s.size) (n : ¬ (s.data.toList = LM.sp1 ∨ s.data.toList = LM.sp2 ∨ s.data.toList = LM.sp3 ∨ s.data.toList = LM.sp4)) :
    LM.cho s.data.toList = -1 := by
  have n1 : s.data.toList ≠ LM.sp1 := fun h => n (.inl h)
  have n2 : s.data.toList ≠ LM.sp2 := fun h => n (.inr (.inl h))
  have n3 : s.data.toList ≠ LM.sp3 := fun h => n (.inr (.inr (.inl h)))
  have n4 : s.data.toList ≠ LM.sp4 := fun h => n (.inr (.inr (.inr h)))
  unfold LM.cho
  rw [if_neg n1, if_neg n2, if_neg n3, if_neg n4]
  have hl := size_len s
  match he : s.data.toList with
  | [] => rfl
  | [c] => rw [he] at hl; simp at hl; omega
  | _ :: _ :: _ => rfl
theorem charOf_any (s : ByteArray) (h1 : 1 ≤ s.size) (hs : s.size ≤ 9223372036854775807) (w : World) :
    Calls Tryd.prog 60 #[.string s] w fun e w' => e = .returned (cov (LM.cho s.data.toList)) ∧ w = w' := by
  by_cases hl : s.data.toList = LM.sp1 ∨ s.data.toList = LM.sp2 ∨ s.data.toList = LM.sp3 ∨ s.data.toList = LM.sp4
  · have := charOf_lit s.data.toList hl w
    rw [← lst_yes (s := s) rfl] at this
    exact this
  · have f1 := lst_no (s := s) (l := [115, 112, 97, 99, 101]) (fun h => hl (.inl h))
    have f2 := lst_no (s := s) (l := [110, 101, 119, 108, 105, 110, 101]) (fun h => hl (.inr (.inl h)))
    have f3 := lst_no (s := s) (l := [116, 97, 98]) (fun h => hl (.inr (.inr (.inl h))))
    have f4 := lst_no (s := s) (l := [110, 117, 108]) (fun h => hl (.inr (.inr (.inr h))))
    by_cases h2 : 1 < s.size
    · rw [cho_more h2 hl]
      clear hl
      go_enter Tryd.func60, Tryd.ntmps60
      go_wp2
      go_ret2
      exact ⟨rfl, rfl⟩
    · rw [cho_one (by omega) hl]
      clear hl
      by_cases h3 : (s[0].toNat : Int) ≤ 32
      · rw [if_pos h3]
        go_enter Tryd.func60, Tryd.ntmps60
        go_wp2
        go_ret2
        exact ⟨rfl, rfl⟩
      · rw [if_neg h3]
        have e : cov (s[0].toNat : Int) = .tuple #[.int .i64 (s[0].toNat : Int), .bool true] := by unfold cov; rw [if_neg (by omega)]
        rw [e]
        clear e
        go_enter Tryd.func60, Tryd.ntmps60
        go_wp2
        go_ret2
        have hw : wrap64 (s[0].toNat : Int) = (s[0].toNat : Int) := FM.wrap_in _ (by omega) (by have := s[0].toNat_lt; omega)
        refine ⟨?_, rfl⟩
        show Ending.returned (.tuple #[.int .i64 (wrap64 (s[0].toNat : Int)), .bool true]) = _
        rw [hw]
end Go.Proofs.YtfabafolbelhdaaDoor
