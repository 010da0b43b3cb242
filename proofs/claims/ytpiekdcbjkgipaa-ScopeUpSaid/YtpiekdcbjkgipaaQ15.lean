/- errors.Is over two errors that are kinds of package api, bare (not wrapped): true just if they are the same kind. Go's own text of errors.Is is walked. -/
import Derived.Test.YtpiekdcbjkgipaaRows
import Derived.WalkKit
import Derived.ProofKit
import Derived.OpenShut
import Derived.LaidEql
import Derived.Stop.Asserts
import Derived.RowKitTokens
import Derived.Handy
import Derived.Lib.Hide
import Derived.Test.YtpiekdcbjkgipaaQ3
import Derived.Test.YtpiekdcbjkgipaaQ14
import Derived.Test.YtpiekdcbjkgipaaQ13
import Derived.Below
import Derived.Lib.Strings
namespace Go.Proofs.Ytpiekdcbjkgipaa
open Go.RowKit Go.Extern.Stop Go.Stop Go.Extern

section
variable {P : Program} (w : World)
theorem run_equalIn_iface_int (d : Nat) {ti tn : TypeId} {ms : Array (String × TypeId)} {i : TypeInfo} {k : IntKind} (a b : Int)
    (hi : P.underlying ti = some (.interface ms)) (hn : P.underlying tn = some (.int k)) (hinfo : P.info? tn = some i) (hcomp : i.comparable = true) :
    (Op.equalIn (d + 2) ti (.iface tn (.int k a)) (.iface tn (.int k b))).run P w = .ok (a == b) w := by
  simp [Op.equalIn, run_underlying hi, run_underlying hn, typeInfo, hinfo, hcomp]
/-- two interface values of one integer type are equal as their numbers are -/
theorem run_eql_iface_int {ti tn : TypeId} {ms : Array (String × TypeId)} {i : TypeInfo} {k : IntKind} (a b : Int)
    (hi : P.underlying ti = some (.interface ms)) (hn : P.underlying tn = some (.int k)) (hinfo : P.info? tn = some i) (hcomp : i.comparable = true) :
    (binOp .eql ti (.iface tn (.int k a)) (.iface tn (.int k b))).run P w = .ok (.bool (a == b)) w := by
  simp only [binOp]
  simp [Op.equal, Op.maxDepth, run_equalIn_iface_int w 9998 a b hi hn hinfo hcomp]
end

theorem Try.isTypeOf (v : Value) (w : World) : (callFunc 15 #[.iface 42 v]).run Try.prog w = .ok (.value (.iface 75 (.agg #[.pointer (some ⟨0, 42, none⟩)]))) w := by kernel_rfl
theorem Try.isComparable (w : World) : (callFunc 105 #[.agg #[.pointer (some ⟨0, 42, none⟩)]]).run Try.prog w = .ok (.value (.bool true)) w := by kernel_rfl
theorem Try.isComp : (Try.prog.info? 42).map (·.comparable) = some true := by kernel_rfl

theorem is_loop_same (a : Int) (w : World) :
    Calls Try.prog 16 #[.iface 42 (.int .i64 a), .iface 42 (.int .i64 a), .bool true] w fun e w' => e = .returned (.bool true) ∧ w = w' := by
  obtain ⟨i, hi, hcmp⟩ := Option.map_eq_some_iff.1 Try.isComp
  have heq := fun w => run_eql_iface_int (P := Try.prog) w a a Try.underlying34 Try.underlying42 hi hcmp
  simp only [beq_self_eq_true] at heq
  clear hi hcmp
  go_enter Try.func16, Try.ntmps16
  go_wp2
  refine wp_loop_rounds 1 ?_
  rw [rounds_succ]
  go_wp2
  go_ret
  exact ⟨rfl, rfl⟩

/-- errors.Is(k, k), k a kind -/
theorem is_same (a : Int) (w : World) :
    Calls Try.prog 8 #[.iface 42 (.int .i64 a), .iface 42 (.int .i64 a)] w fun e w' => e = .returned (.bool true) ∧ w = w' := by
  have tT := Try.isTypeOf
  have cT := Try.isComparable
  go_enter Try.func8, Try.ntmps8
  go_wp2_with (go_at_call 16; refine (is_loop_same _ _).mono ?_; rintro e w' ⟨rfl, rfl⟩)
  go_ret
  exact ⟨rfl, rfl⟩

theorem Try.noIs (v : Value) (xT : TypeId) (w : World) : (Instr.typeAssert (.iface 42 v) xT 77 true).run Try.prog w = .ok (.tuple #[.nilIface, .bool false]) w := run_typeAssert_lacksB Try.underlying77 (by kernel_rfl) (by kernel_rfl) v xT w
theorem Try.noUnwrap (v : Value) (xT : TypeId) (w : World) : (Instr.typeAssert (.iface 42 v) xT 80 true).run Try.prog w = .ok (.tuple #[.nilIface, .bool false]) w := run_typeAssert_lacksB Try.underlying80 (by kernel_rfl) (by kernel_rfl) v xT w
theorem Try.noUnwraps (v : Value) (xT : TypeId) (w : World) : (Instr.typeAssert (.iface 42 v) xT 82 true).run Try.prog w = .ok (.tuple #[.nilIface, .bool false]) w := run_typeAssert_lacksB Try.underlying82 (by kernel_rfl) (by kernel_rfl) v xT w

theorem is_loop_other (a b : Int) (hab : (a == b) = false) (w : World) :
    Calls Try.prog 16 #[.iface 42 (.int .i64 a), .iface 42 (.int .i64 b), .bool true] w fun e w' => e = .returned (.bool false) ∧ w = w' := by
  obtain ⟨i, hi, hcmp⟩ := Option.map_eq_some_iff.1 Try.isComp
  have heq := fun w => run_eql_iface_int (P := Try.prog) w a b Try.underlying34 Try.underlying42 hi hcmp
  simp only [hab] at heq
  clear hi hcmp hab
  have n1 := Try.noIs
  have n2 := Try.noUnwrap
  have n3 := Try.noUnwraps
  go_enter Try.func16, Try.ntmps16
  go_wp2
  refine wp_loop_rounds 1 ?_
  rw [rounds_succ]
  go_wp2
  go_ret
  exact ⟨rfl, rfl⟩

/-- errors.Is(k, j), of two kinds -/
theorem is_other (a b : Int) (hab : (a == b) = false) (w : World) :
    Calls Try.prog 8 #[.iface 42 (.int .i64 a), .iface 42 (.int .i64 b)] w fun e w' => e = .returned (.bool false) ∧ w = w' := by
  have tT := Try.isTypeOf
  have cT := Try.isComparable
  have HH := Lib.hid (is_loop_other a b hab w)
  clear hab
  go_enter Try.func8, Try.ntmps8
  go_wp2_with (go_at_call 16; refine HH.out.mono ?_; rintro e w' ⟨rfl, rfl⟩)
  go_ret
  exact ⟨rfl, rfl⟩
end Go.Proofs.Ytpiekdcbjkgipaa

/- What the small functions of package lex give. -/
namespace Go.Proofs.Ytpiekdcbjkgipaa
open Go.ChangeShapes Go.WideShapes Go.ChangeAt Go.RowKit

theorem isDelimiter_any (x : Int) (w : World) :
    Calls Try.prog 72 #[.int .u8 x] w fun e w' => e = .returned (.bool (LM.dlm x)) ∧ w = w' := by
  go_enter Try.func72, Try.ntmps72
  go_wp2
  all_goals
    go_ret
    refine ⟨ret_b ?_, rfl⟩
    rw [LM.dlm, Bool.eq_iff_iff]
    simp only [beq_iff_eq, beq_eq_false_iff_ne, ne_eq] at *
    simp <;> omega
theorem isNameByte_any (x : Int) (w : World) :
    Calls Try.prog 62 #[.int .u8 x] w fun e w' => e = .returned (.bool (LM.nmb x)) ∧ w = w' := by
  cases hd : LM.dlm x
  all_goals
    have hd' := Lib.hid hd
    clear hd
    go_enter Try.func62, Try.ntmps62
    go_wp2_with (go_at_call 72; refine (isDelimiter_any _ _).mono ?_; rintro e w' ⟨rfl, rfl⟩; rw [hd'.out])
  all_goals
    go_ret
    refine ⟨ret_b ?_, rfl⟩
    have hd := hd'.out
    rw [LM.dlm] at hd
    rw [LM.nmb, Bool.eq_iff_iff]
    simp only [beq_iff_eq, beq_eq_false_iff_ne, ne_eq, decide_eq_true_eq, decide_eq_false_iff_not] at *
    simp <;> omega
theorem Calls.world {P : Program} {f : FuncId} {args : Array Value} {w : World} {v : Value} (h : Calls P f args w fun e w' => e = .returned v ∧ w = w') : Calls P f args w fun e w' => e = .returned v ∧ Went w w' :=
  h.mono fun _ _ ⟨he, hw⟩ => ⟨he, hw ▸ Went.refl w⟩

/-! ### where a word, and where blanks, end -/
theorem drop_cons {s : ByteArray} {k : Nat} (h : k < s.size) : s.data.toList.drop k = s[k] :: s.data.toList.drop (k + 1) := by
  rw [List.drop_eq_getElem_cons (by rw [size_len]; exact h)]; rfl
theorem drop_end {s : ByteArray} {k : Nat} (h : s.size ≤ k) : s.data.toList.drop k = [] := List.drop_of_length_le (by rw [size_len]; exact h)
theorem wln_go {s : ByteArray} {k m : Nat} (h : k < s.size) (H : k + LM.wln (s.data.toList.drop k) = m) (hd : LM.dlm (s[k].toNat : Int) = false) : k + 1 + LM.wln (s.data.toList.drop (k + 1)) = m := by
  rw [drop_cons h, LM.wln, hd] at H
  simp at H; omega
theorem wln_stop {s : ByteArray} {k m : Nat} (h : k < s.size) (H : k + LM.wln (s.data.toList.drop k) = m) (hd : LM.dlm (s[k].toNat : Int) = true) : k = m := by
  rw [drop_cons h, LM.wln, hd] at H
  simpa using H
theorem wln_end {s : ByteArray} {k m : Nat} (h : s.size ≤ k) (H : k + LM.wln (s.data.toList.drop k) = m) : k = m := by
  rw [drop_end h, LM.wln] at H
  simpa using H
theorem ret_n {a b : Nat} (h : a = b) : Ending.returned (.int .i64 (a : Int)) = .returned (.int .i64 (b : Int)) := by rw [h]

theorem skp_go {s : ByteArray} {k m : Nat} {n : Bool} (h : k < s.size) (H : k + LM.skp n (s.data.toList.drop k) = m) (hd : (!LM.nxn n (s[k].toNat : Int) && !LM.blk (s[k].toNat : Int)) = false) : k + 1 + LM.skp (LM.nxn n (s[k].toNat : Int)) (s.data.toList.drop (k + 1)) = m := by
  rw [drop_cons h, LM.skp, hd] at H
  simp at H; omega
theorem skp_stop {s : ByteArray} {k m : Nat} {n : Bool} (h : k < s.size) (H : k + LM.skp n (s.data.toList.drop k) = m) (hd : (!LM.nxn n (s[k].toNat : Int) && !LM.blk (s[k].toNat : Int)) = true) : k = m := by
  rw [drop_cons h, LM.skp, hd] at H
  simpa using H
theorem skp_end {s : ByteArray} {k m : Nat} {n : Bool} (h : s.size ≤ k) (H : k + LM.skp n (s.data.toList.drop k) = m) : k = m := by
  rw [drop_end h, LM.skp] at H
  simpa using H

end Go.Proofs.Ytpiekdcbjkgipaa

/- What the functions of package lex give that make a token without looking far. -/
namespace Go.Proofs.Ytpiekdcbjkgipaa
open Go.ChangeShapes Go.WideShapes Go.ChangeAt Go.RowKit

/-- a token of which no place is known, and an error -/
def tka (T : LM.Tk) : Value := .tuple #[.agg #[.int .i64 T.k, .int .i64 T.n, .string ⟨T.s.toArray⟩, .int .i64 0, .int .i64 0, .int .i64 (T.len : Nat)], er T.e]

/-- do two bytes stand ahead? -/
def pre2 (a b : Int) : List UInt8 → Bool
  | [] => false
  | c :: r => decide ((c.toNat : Int) = a) && decide (LM.hd r = b)
/-- what the walk asks of a string that is no such one -/
theorem lst_no {s : ByteArray} {l : List UInt8} (h : s.data.toList ≠ l) : (s.toList == l) = false := by
  rw [ByteArray.toList_eq]; simpa using h
theorem lst_yes {s : ByteArray} {l : List UInt8} (h : s.data.toList = l) : s = ⟨l.toArray⟩ := by
  cases s; rename_i d; cases d; simp at h; rw [h]

/-- a byte behind a stroke -/
def esv (o : Option UInt8) : Value := match o with
  | none => .tuple #[.int .u8 0, .bool false]
  | some x => .tuple #[.int .u8 x.toNat, .bool true]
/-- a character, or none -/
def cov (n : Int) : Value := if n = -1 then .tuple #[.int .i64 0, .bool false] else .tuple #[.int .i64 n, .bool true]
theorem cho_one {s : ByteArray} (h : s.size = 1) (n : ¬ (s.data.toList = LM.sp1 ∨ s.data.toList = LM.sp2 ∨ s.data.toList = LM.sp3 ∨ s.data.toList = LM.sp4)) :
    LM.cho s.data.toList = if (s[0].toNat : Int) ≤ 32 then -1 else (s[0].toNat : Int) := by
  have e : s.data.toList = [s[0]] := by
    rw [cons_of (s := s) (by omega), List.drop_of_length_le (by rw [size_len]; omega)]
  have n1 : s.data.toList ≠ LM.sp1 := fun h => n (.inl h)
  have n2 : s.data.toList ≠ LM.sp2 := fun h => n (.inr (.inl h))
  have n3 : s.data.toList ≠ LM.sp3 := fun h => n (.inr (.inr (.inl h)))
  have n4 : s.data.toList ≠ LM.sp4 := fun h => n (.inr (.inr (.inr h)))
  unfold LM.cho
  rw [if_neg n1, if_neg n2, if_neg n3, if_neg n4, e]
theorem cho_more {s : ByteArray} (h : 1 < s.size) (n : ¬ (s.data.toList = LM.sp1 ∨ s.data.toList = LM.sp2 ∨ s.data.toList = LM.sp3 ∨ s.data.toList = LM.sp4)) :
    LM.cho s.data.toList = -1 := by
  have n1 : s.data.toList ≠ LM.sp1 := fun h => n (.inl h)
  have n2 : s.data.toList ≠ LM.sp2 := fun h => n (.inr (.inl h))
  have n3 : s.data.toList ≠ LM.sp3 := fun h => n (.inr (.inr (.inl h)))
  have n4 : s.data.toList ≠ LM.sp4 := fun h => n (.inr (.inr (.inr h)))
  unfold LM.cho
  rw [if_neg n1, if_neg n2, if_neg n3, if_neg n4]
  have hl := size_len s
  match he : s.data.toList with
  | [] => rfl
  | [c] => rw [he] at hl; simp at hl; omega
  | _ :: _ :: _ => rfl
end Go.Proofs.Ytpiekdcbjkgipaa
