/- errors.Is over two errors that are kinds of package api, bare (not wrapped): true just if they are the same kind. Go's own text of errors.Is is walked. -/
import Derived.Test.YtbomodendobnkaaGreatRows
import Derived.WalkKit
import Derived.ProofKit
import Derived.OpenShut
import Derived.LaidEql
import Derived.Stop.Asserts
import Derived.RowKitTokens
import Derived.Handy
import Derived.Lib.Hide
import Derived.Test.YtbomodendobnkaaGreatQ2
import Derived.Test.YtbomodendobnkaaGreatQ21
import Derived.Test.YtbomodendobnkaaGreatQ7
import Derived.Below
import Derived.Test.YtbomodendobnkaaGreatShelf
import Derived.Lib.Strings
namespace Go.Proofs.YtbomodendobnkaaGreat
open Go.RowKit Go.Extern.Stop Go.Stop Go.Extern

section
variable {P : Program} (w : World)
theorem run_equalIn_iface_int (d : Nat) {ti tn : TypeId} {ms : Array (String × TypeId)} {i : TypeInfo} {k : IntKind} (a b : Int)
    (hi : P.underlying ti = some (.interface ms)) (hn : P.underlying tn = some (.int k)) (hinfo : P.info? tn = some i) (hcomp : i.comparable = true) :
    (Op.equalIn (d + 2) ti (.iface tn (.int k a)) (.iface tn (.int k b))).run P w = .ok (a == b) w := by
  simp [Op.equalIn, run_underlying hi, run_underlying hn, typeInfo, hinfo, hcomp]
/-- two interface values of one integer type are equal as their numbers are -/
theorem run_eql_iface_int {ti tn : TypeId} {ms : Array (String × TypeId)} {i : TypeInfo} {k : IntKind} (a b : Int)
    (hi : P.underlying ti = some (.interface ms)) (hn : P.underlying tn = some (.int k)) (hinfo : P.info? tn = some i) (hcomp : i.comparable = true) :
    (binOp .eql ti (.iface tn (.int k a)) (.iface tn (.int k b))).run P w = .ok (.bool (a == b)) w := by
  simp only [binOp]
  simp [Op.equal, Op.maxDepth, run_equalIn_iface_int w 9998 a b hi hn hinfo hcomp]
end

theorem Tryz.isTypeOf (v : Value) (w : World) : (callFunc 25 #[.iface 47 v]).run Tryz.prog w = .ok (.value (.iface 109 (.agg #[.pointer (some ⟨1, 47, none⟩)]))) w := by kernel_rfl
theorem Tryz.isComparable (w : World) : (callFunc 131 #[.agg #[.pointer (some ⟨1, 47, none⟩)]]).run Tryz.prog w = .ok (.value (.bool true)) w := by kernel_rfl
theorem Tryz.isComp : (Tryz.prog.info? 47).map (·.comparable) = some true := by kernel_rfl

theorem is_loop_same (a : Int) (w : World) :
    Calls Tryz.prog 26 #[.iface 47 (.int .i64 a), .iface 47 (.int .i64 a), .bool true] w fun e w' => e = .returned (.bool true) ∧ w = w' := by
  obtain ⟨i, hi, hcmp⟩ := Option.map_eq_some_iff.1 Tryz.isComp
  have heq := fun w => run_eql_iface_int (P := Tryz.prog) w a a Tryz.underlying45 Tryz.underlying47 hi hcmp
  simp only [beq_self_eq_true] at heq
  clear hi hcmp
  go_enter Tryz.func26, Tryz.ntmps26
  go_wp2
  refine wp_loop_rounds 1 ?_
  rw [rounds_succ]
  go_wp2
  go_ret
  exact ⟨rfl, rfl⟩

/-- errors.Is(k, k), k a kind -/
theorem is_same (a : Int) (w : World) :
    Calls Tryz.prog 12 #[.iface 47 (.int .i64 a), .iface 47 (.int .i64 a)] w fun e w' => e = .returned (.bool true) ∧ w = w' := by
  have tT := Tryz.isTypeOf
  have cT := Tryz.isComparable
  go_enter Tryz.func12, Tryz.ntmps12
  go_wp2_with (go_at_call 26; refine (is_loop_same _ _).mono ?_; rintro e w' ⟨rfl, rfl⟩)
  go_ret
  exact ⟨rfl, rfl⟩

theorem Tryz.noIs (v : Value) (xT : TypeId) (w : World) : (Instr.typeAssert (.iface 47 v) xT 111 true).run Tryz.prog w = .ok (.tuple #[.nilIface, .bool false]) w := run_typeAssert_lacksB Tryz.underlying111 (by kernel_rfl) (by kernel_rfl) v xT w
theorem Tryz.noUnwrap (v : Value) (xT : TypeId) (w : World) : (Instr.typeAssert (.iface 47 v) xT 114 true).run Tryz.prog w = .ok (.tuple #[.nilIface, .bool false]) w := run_typeAssert_lacksB Tryz.underlying114 (by kernel_rfl) (by kernel_rfl) v xT w
theorem Tryz.noUnwraps (v : Value) (xT : TypeId) (w : World) : (Instr.typeAssert (.iface 47 v) xT 116 true).run Tryz.prog w = .ok (.tuple #[.nilIface, .bool false]) w := run_typeAssert_lacksB Tryz.underlying116 (by kernel_rfl) (by kernel_rfl) v xT w

theorem is_loop_other (a b : Int) (hab : (a == b) = false) (w : World) :
    Calls Tryz.prog 26 #[.iface 47 (.int .i64 a), .iface 47 (.int .i64 b), .bool true] w fun e w' => e = .returned (.bool false) ∧ w = w' := by
  obtain ⟨i, hi, hcmp⟩ := Option.map_eq_some_iff.1 Tryz.isComp
  have heq := fun w => run_eql_iface_int (P := Tryz.prog) w a b Tryz.underlying45 Tryz.underlying47 hi hcmp
  simp only [hab] at heq
  clear hi hcmp hab
  have n1 := Tryz.noIs
  have n2 := Tryz.noUnwrap
  have n3 := Tryz.noUnwraps
  go_enter Tryz.func26, Tryz.ntmps26
  go_wp2
  refine wp_loop_rounds 1 ?_
  rw [rounds_succ]
  go_wp2
  go_ret
  exact ⟨rfl, rfl⟩

/-- errors.Is(k, j), of two kinds -/
theorem is_other (a b : Int) (hab : (a == b) = false) (w : World) :
    Calls Tryz.prog 12 #[.iface 47 (.int .i64 a), .iface 47 (.int .i64 b)] w fun e w' => e = .returned (.bool false) ∧ w = w' := by
  have tT := Tryz.isTypeOf
  have cT := Tryz.isComparable
  have HH := Lib.hid (is_loop_other a b hab w)
  clear hab
  go_enter Tryz.func12, Tryz.ntmps12
  go_wp2_with (go_at_call 26; refine HH.out.mono ?_; rintro e w' ⟨rfl, rfl⟩)
  go_ret
  exact ⟨rfl, rfl⟩
end Go.Proofs.YtbomodendobnkaaGreat

/- What the small functions of package lex give. -/
namespace Go.Proofs.YtbomodendobnkaaGreat
open Go.ChangeShapes Go.WideShapes Go.ChangeAt Go.RowKit

theorem isBlank_any (x : Int) (w : World) :
    Calls Tryz.prog 95 #[.int .u8 x] w fun e w' => e = .returned (.bool (LM.blk x)) ∧ w = w' := by
  go_enter Tryz.func95, Tryz.ntmps95
  go_wp2
  all_goals
    go_ret
    refine ⟨ret_b ?_, rfl⟩
    rw [LM.blk, Bool.eq_iff_iff]
    simp <;> omega
theorem isDelimiter_any (x : Int) (w : World) :
    Calls Tryz.prog 91 #[.int .u8 x] w fun e w' => e = .returned (.bool (LM.dlm x)) ∧ w = w' := by
  go_enter Tryz.func91, Tryz.ntmps91
  go_wp2
  all_goals
    go_ret
    refine ⟨ret_b ?_, rfl⟩
    rw [LM.dlm, Bool.eq_iff_iff]
    simp only [beq_iff_eq, beq_eq_false_iff_ne, ne_eq] at *
    simp <;> omega
theorem isNameByte_any (x : Int) (w : World) :
    Calls Tryz.prog 84 #[.int .u8 x] w fun e w' => e = .returned (.bool (LM.nmb x)) ∧ w = w' := by
  cases hd : LM.dlm x
  all_goals
    have hd' := Lib.hid hd
    clear hd
    go_enter Tryz.func84, Tryz.ntmps84
    go_wp2_with (go_at_call 91; refine (isDelimiter_any _ _).mono ?_; rintro e w' ⟨rfl, rfl⟩; rw [hd'.out])
  all_goals
    go_ret
    refine ⟨ret_b ?_, rfl⟩
    have hd := hd'.out
    rw [LM.dlm] at hd
    rw [LM.nmb, Bool.eq_iff_iff]
    simp only [beq_iff_eq, beq_eq_false_iff_ne, ne_eq, decide_eq_true_eq, decide_eq_false_iff_not] at *
    simp <;> omega
theorem isCount_any (x : Int) (w : World) :
    Calls Tryz.prog 74 #[.int .i64 x] w fun e w' => e = .returned (.bool (decide (1 ≤ x ∧ x ≤ 1073741824))) ∧ w = w' := by
  go_enter Tryz.func74, Tryz.ntmps74
  go_wp2
  all_goals
    go_ret
    refine ⟨ret_b ?_, rfl⟩
    rw [Bool.eq_iff_iff]
    simp <;> omega

theorem Calls.world {P : Program} {f : FuncId} {args : Array Value} {w : World} {v : Value} (h : Calls P f args w fun e w' => e = .returned v ∧ w = w') : Calls P f args w fun e w' => e = .returned v ∧ Went w w' :=
  h.mono fun _ _ ⟨he, hw⟩ => ⟨he, hw ▸ Went.refl w⟩

/-! ### where a word, and where blanks, end -/
theorem drop_cons {s : ByteArray} {k : Nat} (h : k < s.size) : s.data.toList.drop k = s[k] :: s.data.toList.drop (k + 1) := by
  rw [List.drop_eq_getElem_cons (by rw [size_len]; exact h)]; rfl
theorem drop_end {s : ByteArray} {k : Nat} (h : s.size ≤ k) : s.data.toList.drop k = [] := List.drop_of_length_le (by rw [size_len]; exact h)
theorem wln_go {s : ByteArray} {k m : Nat} (h : k < s.size) (H : k + LM.wln (s.data.toList.drop k) = m) (hd : LM.dlm (s[k].toNat : Int) = false) : k + 1 + LM.wln (s.data.toList.drop (k + 1)) = m := by
  rw [drop_cons h, LM.wln, hd] at H
  simp at H; omega
theorem wln_stop {s : ByteArray} {k m : Nat} (h : k < s.size) (H : k + LM.wln (s.data.toList.drop k) = m) (hd : LM.dlm (s[k].toNat : Int) = true) : k = m := by
  rw [drop_cons h, LM.wln, hd] at H
  simpa using H
theorem wln_end {s : ByteArray} {k m : Nat} (h : s.size ≤ k) (H : k + LM.wln (s.data.toList.drop k) = m) : k = m := by
  rw [drop_end h, LM.wln] at H
  simpa using H
theorem ret_n {a b : Nat} (h : a = b) : Ending.returned (.int .i64 (a : Int)) = .returned (.int .i64 (b : Int)) := by rw [h]

theorem wordEnd_any (s : ByteArray) (hs : s.size ≤ 9223372036854775807) (w : World) :
    Calls Tryz.prog 100 #[.string s] w fun e w' => e = .returned (.int .i64 (LM.wln s.data.toList : Nat)) ∧ w = w' := by
  obtain ⟨m, hm⟩ : ∃ m, LM.wln s.data.toList = m := ⟨_, rfl⟩
  have h0 : Hid (0 + LM.wln (s.data.toList.drop 0) = m) := by show 0 + _ = m; simpa using hm
  rw [hm]
  clear hm
  go_enter Tryz.func100, Tryz.ntmps100
  go_wp2
  go_loop [6] (fun i => ∃ k : Nat, k ≤ s.size ∧ i = .int .i64 k ∧ Hid (k + LM.wln (s.data.toList.drop k) = m)) (fun i => s.size - (intOf i).toNat)
  case atStart => exact ⟨0, Nat.zero_le _, rfl, h0⟩
  case round =>
    obtain ⟨k, hk, rfl, hd⟩ := hrel
    by_cases hlt : k < s.size
    · cases hq : LM.dlm (s[k].toNat : Int)
      · have hn := Lib.hid (wln_go hlt hd.out hq)
        have hq' := Lib.hid hq
        clear hq
        go_wp2_with (go_at_call 91; refine (isDelimiter_any _ _).mono ?_; rintro e w' ⟨rfl, rfl⟩; rw [hq'.out])
        go_round
        case rel => exact ⟨k + 1, by omega, by go_num, hn⟩
        case measure => simp [intOf]; omega
      · have hn := Lib.hid (wln_stop hlt hd.out hq)
        have hq' := Lib.hid hq
        clear hq
        go_wp2_with (go_at_call 91; refine (isDelimiter_any _ _).mono ?_; rintro e w' ⟨rfl, rfl⟩; rw [hq'.out])
        go_ret
        exact ⟨ret_n hn.out, rfl⟩
    · have hn := Lib.hid (wln_end (by omega) hd.out)
      have hk' : k = s.size := by omega
      subst hk'
      go_wp2
      go_ret
      exact ⟨ret_n hn.out, rfl⟩

theorem skp_go {s : ByteArray} {k m : Nat} {n : Bool} (h : k < s.size) (H : k + LM.skp n (s.data.toList.drop k) = m) (hd : (!LM.nxn n (s[k].toNat : Int) && !LM.blk (s[k].toNat : Int)) = false) : k + 1 + LM.skp (LM.nxn n (s[k].toNat : Int)) (s.data.toList.drop (k + 1)) = m := by
  rw [drop_cons h, LM.skp, hd] at H
  simp at H; omega
theorem skp_stop {s : ByteArray} {k m : Nat} {n : Bool} (h : k < s.size) (H : k + LM.skp n (s.data.toList.drop k) = m) (hd : (!LM.nxn n (s[k].toNat : Int) && !LM.blk (s[k].toNat : Int)) = true) : k = m := by
  rw [drop_cons h, LM.skp, hd] at H
  simpa using H
theorem skp_end {s : ByteArray} {k m : Nat} {n : Bool} (h : s.size ≤ k) (H : k + LM.skp n (s.data.toList.drop k) = m) : k = m := by
  rw [drop_end h, LM.skp] at H
  simpa using H

theorem blanksEnd_any (s : ByteArray) (hs : s.size ≤ 9223372036854775807) (a : Nat) (w : World) :
    Calls Tryz.prog 87 #[.string s, .int .i64 (a : Nat)] w fun e w' => e = .returned (.int .i64 (a + LM.skp false (s.data.toList.drop a) : Nat)) ∧ w = w' := by
  obtain ⟨m, hm⟩ : ∃ m, a + LM.skp false (s.data.toList.drop a) = m := ⟨_, rfl⟩
  rw [hm]
  have h0 := Lib.hid hm
  clear hm
  go_enter Tryz.func87, Tryz.ntmps87
  go_wp2
  go_loop [1, 5] (fun i n => ∃ (k : Nat) (b : Bool), (k = a ∨ k ≤ s.size) ∧ i = .int .i64 k ∧ n = .bool b ∧ Hid (k + LM.skp b (s.data.toList.drop k) = m)) (fun i _ => s.size - (intOf i).toNat)
  case atStart => exact ⟨a, false, .inl rfl, rfl, rfl, h0⟩
  case round =>
    obtain ⟨k, b, hk, rfl, rfl, hd⟩ := hrel
    by_cases hlt : k < s.size
    · obtain ⟨x, hx⟩ : ∃ x : Int, (s[k].toNat : Int) = x := ⟨_, rfl⟩
      have hst := @skp_stop s k m b hlt hd.out
      have hgo := @skp_go s k m b hlt hd.out
      rw [hx] at hst hgo
      have hst' := Lib.hid hst
      have hgo' := Lib.hid hgo
      clear hst hgo
      by_cases h10 : x = 10
      · subst h10
        have hn := Lib.hid (hgo'.out (by cases b <;> rfl))
        rw [show LM.nxn b 10 = false by cases b <;> rfl] at hn
        cases b
        all_goals
          go_wp2_with (go_at_call 95; refine (isBlank_any _ _).mono ?_; rintro e w' ⟨rfl, rfl⟩; rw [show LM.blk 10 = true by rfl])
          go_round
          case rel => exact ⟨k + 1, false, .inr (by omega), by go_num, rfl, hn⟩
          case measure => simp [intOf]; omega
      · have f10 : (x != 10) = true := by simpa using h10
        by_cases h59 : x = 59
        · subst h59
          have hn := Lib.hid (hgo'.out (by cases b <;> rfl))
          rw [show LM.nxn b 59 = true by cases b <;> rfl] at hn
          cases b
          all_goals
            go_wp2
            go_round
            case rel => exact ⟨k + 1, true, .inr (by omega), by go_num, rfl, hn⟩
            case measure => simp [intOf]; omega
        · have f59 : (x == 59) = false := by simpa using h59
          cases b
          · have e0 : LM.nxn false x = false := by simp [LM.nxn, h59]
            rw [e0] at hst' hgo'
            cases hb : LM.blk x
            · have hn := Lib.hid (hst'.out (by rw [hb]; rfl))
              have hb' := Lib.hid hb
              clear hb e0 h10 h59
              go_wp2_with (go_at_call 95; refine (isBlank_any _ _).mono ?_; rintro e w' ⟨rfl, rfl⟩; rw [hb'.out])
              go_ret
              exact ⟨ret_n hn.out, rfl⟩
            · have hn := Lib.hid (hgo'.out (by rw [hb]; rfl))
              have hb' := Lib.hid hb
              clear hb e0 h10 h59
              go_wp2_with (go_at_call 95; refine (isBlank_any _ _).mono ?_; rintro e w' ⟨rfl, rfl⟩; rw [hb'.out])
              go_round
              case rel => exact ⟨k + 1, false, .inr (by omega), by go_num, rfl, hn⟩
              case measure => simp [intOf]; omega
          · have e0 : LM.nxn true x = true := by simp [LM.nxn, h10]
            rw [e0] at hst' hgo'
            have hn := Lib.hid (hgo'.out (by rfl))
            clear e0 h10 h59
            go_wp2
            go_round
            case rel => exact ⟨k + 1, true, .inr (by omega), by go_num, rfl, hn⟩
            case measure => simp [intOf]; omega
    · have hn := Lib.hid (skp_end (by omega) hd.out)
      go_wp2
      go_ret
      exact ⟨ret_n hn.out, rfl⟩
end Go.Proofs.YtbomodendobnkaaGreat

/- What the functions of package lex give that make a token without looking far. -/
namespace Go.Proofs.YtbomodendobnkaaGreat
open Go.ChangeShapes Go.WideShapes Go.ChangeAt Go.RowKit

/-- a token of which no place is known, and an error -/
def tka (T : LM.Tk) : Value := .tuple #[.agg #[.int .i64 T.k, .int .i64 T.n, .string ⟨T.s.toArray⟩, .int .i64 0, .int .i64 0, .int .i64 (T.len : Nat)], er T.e]

theorem mark_any (k : Int) (s : ByteArray) (w : World) :
    Calls Tryz.prog 96 #[.int .i64 k, .string s] w fun e w' => e = .returned (.agg #[.int .i64 k, .int .i64 0, .string ⟨#[]⟩, .int .i64 0, .int .i64 0, .int .i64 (s.size : Nat)]) ∧ Went w w' := by
  go_enter Tryz.func96, Tryz.ntmps96
  go_wp2
  exact bodyPost_ret (v := .agg #[.int .i64 k, .int .i64 0, .string ⟨#[]⟩, .int .i64 0, .int .i64 0, .int .i64 (s.size : Nat)]) (by simp [results, Tryz.results96, go_sem]) rfl ⟨rfl, (Below.refl _ _).alloc (Nat.le_refl _) _⟩

theorem stringsClone_any (s : ByteArray) (hs : s.size ≤ 281474976710656) (w : World) :
    Calls Tryz.prog 106 #[.string s] w fun e w' => e = .returned (.string s) ∧ Went w w' := by
  go_enter Tryz.func106, Tryz.ntmps106
  go_wp2_with (go_at_call 109; refine (Tryz.stringslite_Clone _ _ hs).mono ?_; rintro e w' ⟨rfl, hb⟩)
  go_ret
  exact ⟨rfl, hb⟩

/-- do two bytes stand ahead? -/
def pre2 (a b : Int) : List UInt8 → Bool
  | [] => false
  | c :: r => decide ((c.toNat : Int) = a) && decide (LM.hd r = b)
theorem hasPrefix_two (s : ByteArray) (a b : UInt8) (w : World) :
    Calls Tryz.prog 39 #[.string s, .string ⟨#[a, b]⟩] w fun e w' => e = .returned (.bool (pre2 a.toNat b.toNat s.data.toList)) ∧ w = w' := by
  refine (Tryz.strings_HasPrefix s ⟨#[a, b]⟩ w).mono ?_
  rintro e w' ⟨rfl, rfl⟩
  refine ⟨ret_b ?_, rfl⟩
  unfold Lib.hasPrefix pre2
  cases h : s.data.toList with
  | nil => rfl
  | cons c r =>
    cases r with
    | nil =>
      have hb : ¬ ((-1 : Int) = b.toNat) := by omega
      simp [LM.hd, List.isPrefixOf, hb]
    | cons d q =>
      have e1 : (a == c) = decide ((c.toNat : Int) = a.toNat) := by
        rw [Bool.eq_iff_iff]; simp only [beq_iff_eq, decide_eq_true_eq]
        exact ⟨fun h => by rw [h], fun h => by apply UInt8.toNat_inj.1; omega⟩
      have e2 : (b == d) = decide ((d.toNat : Int) = b.toNat) := by
        rw [Bool.eq_iff_iff]; simp only [beq_iff_eq, decide_eq_true_eq]
        exact ⟨fun h => by rw [h], fun h => by apply UInt8.toNat_inj.1; omega⟩
      show ((a == c) && ((b == d) && true)) = (decide ((c.toNat : Int) = a.toNat) && decide ((d.toNat : Int) = b.toNat))
      rw [e1, e2, Bool.and_true]

/-- what the walk asks of a string that is no such one -/
theorem lst_no {s : ByteArray} {l : List UInt8} (h : s.data.toList ≠ l) : (s.toList == l) = false := by
  rw [ByteArray.toList_eq]; simpa using h
theorem lst_yes {s : ByteArray} {l : List UInt8} (h : s.data.toList = l) : s = ⟨l.toArray⟩ := by
  cases s; rename_i d; cases d; simp at h; rw [h]

/-- a byte behind a stroke -/
def esv (o : Option UInt8) : Value := match o with
  | none => .tuple #[.int .u8 0, .bool false]
  | some x => .tuple #[.int .u8 x.toNat, .bool true]
theorem escaped_any (c : UInt8) (w : World) :
    Calls Tryz.prog 105 #[.int .u8 c.toNat] w fun e w' => e = .returned (esv (LM.esc c)) ∧ w = w' := by
  by_cases h1 : c = 110
  · subst h1
    go_enter Tryz.func105, Tryz.ntmps105
    go_wp2
    go_ret2
    exact ⟨rfl, rfl⟩
  by_cases h2 : c = 116
  · subst h2
    go_enter Tryz.func105, Tryz.ntmps105
    go_wp2
    go_ret2
    exact ⟨rfl, rfl⟩
  by_cases h3 : c = 92
  · subst h3
    go_enter Tryz.func105, Tryz.ntmps105
    go_wp2
    go_ret2
    exact ⟨rfl, rfl⟩
  by_cases h4 : c = 34
  · subst h4
    go_enter Tryz.func105, Tryz.ntmps105
    go_wp2
    go_ret2
    exact ⟨rfl, rfl⟩
  have e : LM.esc c = none := by simp [LM.esc, h1, h2, h3, h4]
  rw [e]
  have k1 : ((c.toNat : Int) == 110) = false := by simp only [beq_eq_false_iff_ne, ne_eq]; intro e; apply h1; apply UInt8.toNat_inj.1; show c.toNat = 110; omega
  have k2 : ((c.toNat : Int) == 116) = false := by simp only [beq_eq_false_iff_ne, ne_eq]; intro e; apply h2; apply UInt8.toNat_inj.1; show c.toNat = 116; omega
  have k3 : ((c.toNat : Int) == 92) = false := by simp only [beq_eq_false_iff_ne, ne_eq]; intro e; apply h3; apply UInt8.toNat_inj.1; show c.toNat = 92; omega
  have k4 : ((c.toNat : Int) == 34) = false := by simp only [beq_eq_false_iff_ne, ne_eq]; intro e; apply h4; apply UInt8.toNat_inj.1; show c.toNat = 34; omega
  clear h1 h2 h3 h4 e
  go_enter Tryz.func105, Tryz.ntmps105
  go_wp2
  go_ret2
  exact ⟨rfl, rfl⟩

/-- a character, or none -/
def cov (n : Int) : Value := if n = -1 then .tuple #[.int .i64 0, .bool false] else .tuple #[.int .i64 n, .bool true]
theorem charOf_lit (l : List UInt8) (hl : l = LM.sp1 ∨ l = LM.sp2 ∨ l = LM.sp3 ∨ l = LM.sp4) (w : World) :
    Calls Tryz.prog 103 #[.string ⟨l.toArray⟩] w fun e w' => e = .returned (cov (LM.cho l)) ∧ w = w' := by
  rcases hl with rfl | rfl | rfl | rfl
  · rw [show LM.cho LM.sp1 = 32 by rfl]
    unfold LM.sp1
    go_enter Tryz.func103, Tryz.ntmps103
    go_wp2
    go_ret2
    exact ⟨rfl, rfl⟩
  · rw [show LM.cho LM.sp2 = 10 by rfl]
    unfold LM.sp2
    go_enter Tryz.func103, Tryz.ntmps103
    go_wp2
    go_ret2
    exact ⟨rfl, rfl⟩
  · rw [show LM.cho LM.sp3 = 9 by rfl]
    unfold LM.sp3
    go_enter Tryz.func103, Tryz.ntmps103
    go_wp2
    go_ret2
    exact ⟨rfl, rfl⟩
  · rw [show LM.cho LM.sp4 = 0 by rfl]
    unfold LM.sp4
    go_enter Tryz.func103, Tryz.ntmps103
    go_wp2
    go_ret2
    exact ⟨rfl, rfl⟩
theorem cho_one {s : ByteArray} (h : s.size = 1) (n : ¬ (s.data.toList = LM.sp1 ∨ s.data.toList = LM.sp2 ∨ s.data.toList = LM.sp3 ∨ s.data.toList = LM.sp4)) :
    LM.cho s.data.toList = if (s[0].toNat : Int) ≤ 32 then -1 else (s[0].toNat : Int) := by
  have e : s.data.toList = [s[0]] := by
    rw [cons_of (s := s) (by omega), List.drop_of_length_le (by rw [size_len]; omega)]
  have n1 : s.data.toList ≠ LM.sp1 := fun h => n (.inl h)
  have n2 : s.data.toList ≠ LM.sp2 := fun h => n (.inr (.inl h))
  have n3 : s.data.toList ≠ LM.sp3 := fun h => n (.inr (.inr (.inl h)))
  have n4 : s.data.toList ≠ LM.sp4 := fun h => n (.inr (.inr (.inr h)))
  unfold LM.cho
  rw [if_neg n1, if_neg n2, if_neg n3, if_neg n4, e]
theorem cho_more {s : ByteArray} (h : 1 < s.size) (n : ¬ (s.data.toList = LM.sp1 ∨ s.data.toList = LM.sp2 ∨ s.data.toList = LM.sp3 ∨ s.data.toList = LM.sp4)) :
    LM.cho s.data.toList = -1 := by
  have n1 : s.data.toList ≠ LM.sp1 := fun h => n (.inl h)
  have n2 : s.data.toList ≠ LM.sp2 := fun h => n (.inr (.inl h))
  have n3 : s.data.toList ≠ LM.sp3 := fun h => n (.inr (.inr (.inl h)))
  have n4 : s.data.toList ≠ LM.sp4 := fun h => n (.inr (.inr (.inr h)))
  unfold LM.cho
  rw [if_neg n1, if_neg n2, if_neg n3, if_neg n4]
  have hl := size_len s
  match he : s.data.toList with
  | [] => rfl
  | [c] => rw [he] at hl; simp at hl; omega
  | _ :: _ :: _ => rfl
theorem charOf_any (s : ByteArray) (h1 : 1 ≤ s.size) (hs : s.size ≤ 9223372036854775807) (w : World) :
    Calls Tryz.prog 103 #[.string s] w fun e w' => e = .returned (cov (LM.cho s.data.toList)) ∧ w = w' := by
  by_cases hl : s.data.toList = LM.sp1 ∨ s.data.toList = LM.sp2 ∨ s.data.toList = LM.sp3 ∨ s.data.toList = LM.sp4
  · have := charOf_lit s.data.toList hl w
    rw [← lst_yes (s := s) rfl] at this
    exact this
  · have f1 := lst_no (s := s) (l := [115, 112, 97, 99, 101]) (fun h => hl (.inl h))
    have f2 := lst_no (s := s) (l := [110, 101, 119, 108, 105, 110, 101]) (fun h => hl (.inr (.inl h)))
    have f3 := lst_no (s := s) (l := [116, 97, 98]) (fun h => hl (.inr (.inr (.inl h))))
    have f4 := lst_no (s := s) (l := [110, 117, 108]) (fun h => hl (.inr (.inr (.inr h))))
    by_cases h2 : 1 < s.size
    · rw [cho_more h2 hl]
      clear hl
      go_enter Tryz.func103, Tryz.ntmps103
      go_wp2
      go_ret2
      exact ⟨rfl, rfl⟩
    · rw [cho_one (by omega) hl]
      clear hl
      by_cases h3 : (s[0].toNat : Int) ≤ 32
      · rw [if_pos h3]
        go_enter Tryz.func103, Tryz.ntmps103
        go_wp2
        go_ret2
        exact ⟨rfl, rfl⟩
      · rw [if_neg h3]
        have e : cov (s[0].toNat : Int) = .tuple #[.int .i64 (s[0].toNat : Int), .bool true] := by unfold cov; rw [if_neg (by omega)]
        rw [e]
        clear e
        go_enter Tryz.func103, Tryz.ntmps103
        go_wp2
        go_ret2
        have hw : wrap64 (s[0].toNat : Int) = (s[0].toNat : Int) := FM.wrap_in _ (by omega) (by have := s[0].toNat_lt; omega)
        refine ⟨?_, rfl⟩
        show Ending.returned (.tuple #[.int .i64 (wrap64 (s[0].toNat : Int)), .bool true]) = _
        rw [hw]
end Go.Proofs.YtbomodendobnkaaGreat
