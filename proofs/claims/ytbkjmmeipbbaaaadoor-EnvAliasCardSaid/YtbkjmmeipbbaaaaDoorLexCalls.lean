/- What the small functions of package lex give. -/
import Derived.Test.YtbkjmmeipbbaaaaDoorLexMath
import Derived.Test.YtbkjmmeipbbaaaaDoorFixParse
import Derived.Test.YtbkjmmeipbbaaaaDoorFixText
import Derived.Test.YtbkjmmeipbbaaaaDoorErrIs
import Derived.Below
namespace Go.Proofs.YtbkjmmeipbbaaaaDoor
open Go.ChangeShapes Go.WideShapes Go.ChangeAt Go.RowKit

theorem isDelimiter_any (x : Int) (w : World) :
    Calls Tryd.prog 43 #[.int .u8 x] w fun e w' => e = .returned (.bool (LM.dlm x)) ∧ w = w' := by
  go_enter Tryd.func43, Tryd.ntmps43
  go_wp2
  all_goals
    go_ret
    refine ⟨ret_b ?_, rfl⟩
    rw [LM.dlm, Bool.eq_iff_iff]
    simp only [beq_iff_eq, beq_eq_false_iff_ne, ne_eq] at *
    simp <;> omega
theorem isNameByte_any (x : Int) (w : World) :
    Calls Tryd.prog 35 #[.int .u8 x] w fun e w' => e = .returned (.bool (LM.nmb x)) ∧ w = w' := by
  cases hd : LM.dlm x
  all_goals
    have hd' := Lib.hid hd
    clear hd
    go_enter Tryd.func35, Tryd.ntmps35
    go_wp2_with (go_at_call 43; refine (isDelimiter_any _ _).mono ?_; rintro e w' ⟨rfl, rfl⟩; rw [hd'.out])
  all_goals
    go_ret
    refine ⟨ret_b ?_, rfl⟩
    have hd := hd'.out
    rw [LM.dlm] at hd
    rw [LM.nmb, Bool.eq_iff_iff]
    simp only [beq_iff_eq, beq_eq_false_iff_ne, ne_eq, decide_eq_true_eq, decide_eq_false_iff_not] at *
    simp <;> omega
theorem Calls.world {P : Program} {f : FuncId} {args : Array Value} {w : World} {v : Value} (h : Calls P f args w fun e w' => e = .returned v ∧ w = w') : Calls P f args w fun e w' => e = .returned v ∧ Went w w' :=
  h.mono fun _ _ ⟨he, hw⟩ => ⟨he, hw ▸ Went.refl w⟩

/-! ### where a word, and where blanks, end -/
theorem drop_cons {s : ByteArray} {k : Nat} (h : k < s.size) : s.data.toList.drop k = s[k] :: s.data.toList.drop (k + 1) := by
  rw [List.drop_eq_getElem_cons (by rw [size_len]; exact h)]; rfl
theorem drop_end {s : ByteArray} {k : Nat} (h : s.size ≤ k) : s.data.toList.drop k = [] := List.drop_of_length_le (by rw [size_len]; exact h)
theorem wln_go {s : ByteArray} {k m : Nat} (h : k < s.size) (H : k + LM.wln (s.data.toList.drop k) = m) (hd : LM.dlm (s[k].toNat : Int) = false) : k + 1 + LM.wln (s.data.toList.drop (k + 1)) = m := by
  rw [drop_cons h, LM.wln, hd] at H
  simp at H; omega
theorem wln_stop {s : ByteArray} {k m : Nat} (h : k < s.size) (H : k + LM.wln (s.data.toList.drop k) = m) (hd : LM.dlm (s[k].toNat : Int) = true) : k = m := by
  rw [drop_cons h, LM.wln, hd] at H
  simpa using H
theorem wln_end {s : ByteArray} {k m : Nat} (h : s.size ≤ k) (H : k + LM.wln (s.data.toList.drop k) = m) : k = m := by
  rw [drop_end h, LM.wln] at H
  simpa using H
theorem ret_n {a b : Nat} (h : a = b) : Ending.returned (.int .i64 (a : Int)) = .returned (.int .i64 (b : Int)) := by rw [h]

theorem skp_go {s : ByteArray} {k m : Nat} {n : Bool} (h : k < s.size) (H : k + LM.skp n (s.data.toList.drop k) = m) (hd : (!LM.nxn n (s[k].toNat : Int) && !LM.blk (s[k].toNat : Int)) = false) : k + 1 + LM.skp (LM.nxn n (s[k].toNat : Int)) (s.data.toList.drop (k + 1)) = m := by
  rw [drop_cons h, LM.skp, hd] at H
  simp at H; omega
theorem skp_stop {s : ByteArray} {k m : Nat} {n : Bool} (h : k < s.size) (H : k + LM.skp n (s.data.toList.drop k) = m) (hd : (!LM.nxn n (s[k].toNat : Int) && !LM.blk (s[k].toNat : Int)) = true) : k = m := by
  rw [drop_cons h, LM.skp, hd] at H
  simpa using H
theorem skp_end {s : ByteArray} {k m : Nat} {n : Bool} (h : s.size ≤ k) (H : k + LM.skp n (s.data.toList.drop k) = m) : k = m := by
  rw [drop_end h, LM.skp] at H
  simpa using H

end Go.Proofs.YtbkjmmeipbbaaaaDoor
