/- What the small functions of package lex give. -/
import Derived.Test.YtfabafolbelhdaaDoorLexMath
import Derived.Test.YtfabafolbelhdaaDoorFixParse
import Derived.Test.YtfabafolbelhdaaDoorFixText
import Derived.Test.YtfabafolbelhdaaDoorErrIs
import Derived.Below
namespace Go.Proofs.YtfabafolbelhdaaDoor
open Go.ChangeShapes Go.WideShapes Go.ChangeAt Go.RowKit

theorem isBlank_any (x : Int) (w : World) :
    Calls Tryd.prog 49 #[.int .u8 x] w fun e w' => e = .returned (.bool (LM.blk x)) ∧ w = w' := by
  go_enter Tryd.func49, Tryd.ntmps49
  go_wp2
  all_goals
    go_ret
    refine ⟨ret_b ?_, rfl⟩
    rw [LM.blk, Bool.eq_iff_iff]
    simp <;> omega
theorem isDelimiter_any (x : Int) (w : World) :
    Calls Tryd.prog 45 #[.int .u8 x] w fun e w' => e = .returned (.bool (LM.dlm x)) ∧ w = w' := by
  go_enter Tryd.func45, Tryd.ntmps45
  go_wp2
  all_goals
    go_ret
    refine ⟨ret_b ?_, rfl⟩
    rw [LM.dlm, Bool.eq_iff_iff]
    simp only [beq_iff_eq, beq_eq_false_iff_ne, ne_eq] at *
    simp <;> omega
theorem isNameByte_any (x : Int) (w : World) :
    Calls Tryd.prog 37 #[.int .u8 x] w fun e w' => e = .returned (.bool (LM.nmb x)) ∧ w = w' := by
  cases hd : LM.dlm x
  all_goals
    have hd' := Lib.hid hd
    clear hd
    go_enter Tryd.func37, Tryd.ntmps37
    go_wp2_with (go_at_call 45; refine (isDelimiter_any _ _).mono ?_; rintro e w' ⟨rfl, rfl⟩; rw [hd'.out])
  all_goals
    go_ret
    refine ⟨ret_b ?_, rfl⟩
    have hd := hd'.out
    rw [LM.dlm] at hd
    rw [LM.nmb, Bool.eq_iff_iff]
    simp only [beq_iff_eq, beq_eq_false_iff_ne, ne_eq, decide_eq_true_eq, decide_eq_false_iff_not] at *
    simp <;> omega
theorem isCount_any (x : Int) (w : World) :
    Calls Tryd.prog 36 #[.int .i64 x] w fun e w' => e = .returned (.bool (decide (1 ≤ x ∧ x ≤ 1073741824))) ∧ w = w' := by
  go_enter Tryd.func36, Tryd.ntmps36
  go_wp2
  all_goals
    go_ret
    refine ⟨ret_b ?_, rfl⟩
    rw [Bool.eq_iff_iff]
    simp <;> omega

theorem Calls.world {P : Program} {f : FuncId} {args : Array Value} {w : World} {v : Value} (h : Calls P f args w fun e w' => e = .returned v ∧ w = w') : Calls P f args w fun e w' => e = .returned v ∧ Went w w' :=
  h.mono fun _ _ ⟨he, hw⟩ => ⟨he, hw ▸ Went.refl w⟩

/-! ### where a word, and where blanks, end -/
theorem drop_cons {s : ByteArray} {k : Nat} (h : k < s.size) : s.data.toList.drop k = s[k] :: s.data.toList.drop (k + 1) := by
  rw [List.drop_eq_getElem_cons (by rw [size_len]; exact h)]; rfl
theorem drop_end {s : ByteArray} {k : Nat} (h : s.size ≤ k) : s.data.toList.drop k = [] := List.drop_of_length_le (by rw [size_len]; exact h)
theorem wln_go {s : ByteArray} {k m : Nat} (h : k < s.size) (H : k + LM.wln (s.data.toList.drop k) = m) (hd : LM.dlm (s[k].toNat : Int) = false) : k + 1 + LM.wln (s.data.toList.drop (k + 1)) = m := by
  rw [drop_cons h, LM.wln, hd] at H
  simp at H; omega
theorem wln_stop {s : ByteArray} {k m : Nat} (h : k < s.size) (H : k + LM.wln (s.data.toList.drop k) = m) (hd : LM.dlm (s[k].toNat : Int) = true) : k = m := by
  rw [drop_cons h, LM.wln, hd] at H
  simpa using H
theorem wln_end {s : ByteArray} {k m : Nat} (h : s.size ≤ k) (H : k + LM.wln (s.data.toList.drop k) = m) : k = m := by
  rw [drop_end h, LM.wln] at H
  simpa using H
theorem ret_n {a b : Nat} (h : a = b) : Ending.returned (.int .i64 (a : Int)) = .returned (.int .i64 (b : Int)) := by rw [h]

theorem wordEnd_any (s : ByteArray) (hs : s.size ≤ 9223372036854775807) (w : World) :
    Calls Tryd.prog 55 #[.string s] w fun e w' => e = .returned (.int .i64 (LM.wln s.data.toList : Nat)) ∧ w = w' := by
  obtain ⟨m, hm⟩ : ∃ m, LM.wln s.data.toList = m := ⟨_, rfl⟩
  have h0 : Hid (0 + LM.wln (s.data.toList.drop 0) = m) := by show 0 + _ = m; simpa using hm
  rw [hm]
  clear hm
  go_enter Tryd.func55, Tryd.ntmps55
  go_wp2
  go_loop [6] (fun i => ∃ k : Nat, k ≤ s.size ∧ i = .int .i64 k ∧ Hid (k + LM.wln (s.data.toList.drop k) = m)) (fun i => s.size - (intOf i).toNat)
  case atStart => exact ⟨0, Nat.zero_le _, rfl, h0⟩
  case round =>
    obtain ⟨k, hk, rfl, hd⟩ := hrel
    by_cases hlt : k < s.size
    · cases hq : LM.dlm (s[k].toNat : Int)
      · have hn := Lib.hid (wln_go hlt hd.out hq)
        have hq' := Lib.hid hq
        clear hq
        go_wp2_with (go_at_call 45; refine (isDelimiter_any _ _).mono ?_; rintro e w' ⟨rfl, rfl⟩; rw [hq'.out])
        go_round
        case rel => exact ⟨k + 1, by omega, by go_num, hn⟩
        case measure => simp [intOf]; omega
      · have hn := Lib.hid (wln_stop hlt hd.out hq)
        have hq' := Lib.hid hq
        clear hq
        go_wp2_with (go_at_call 45; refine (isDelimiter_any _ _).mono ?_; rintro e w' ⟨rfl, rfl⟩; rw [hq'.out])
        go_ret
        exact ⟨ret_n hn.out, rfl⟩
    · have hn := Lib.hid (wln_end (by omega) hd.out)
      have hk' : k = s.size := by omega
      subst hk'
      go_wp2
      go_ret
      exact ⟨ret_n hn.out, rfl⟩

theorem skp_go {s : ByteArray} {k m : Nat} {n : Bool} (h : k < s.size) (H : k + LM.skp n (s.data.toList.drop k) = m) (hd : (!LM.nxn n (s[k].toNat : Int) && !LM.blk (s[k].toNat : Int)) = false) : k + 1 + LM.skp (LM.nxn n (s[k].toNat : Int)) (s.data.toList.drop (k + 1)) = m := by
  rw [drop_cons h, LM.skp, hd] at H
  simp at H; omega
theorem skp_stop {s : ByteArray} {k m : Nat} {n : Bool} (h : k < s.size) (H : k + LM.skp n (s.data.toList.drop k) = m) (hd : (!LM.nxn n (s[k].toNat : Int) && !LM.blk (s[k].toNat : Int)) = true) : k = m := by
  rw [drop_cons h, LM.skp, hd] at H
  simpa using H
theorem skp_end {s : ByteArray} {k m : Nat} {n : Bool} (h : s.size ≤ k) (H : k + LM.skp n (s.data.toList.drop k) = m) : k = m := by
  rw [drop_end h, LM.skp] at H
  simpa using H

theorem blanksEnd_any (s : ByteArray) (hs : s.size ≤ 9223372036854775807) (a : Nat) (w : World) :
    Calls Tryd.prog 39 #[.string s, .int .i64 (a : Nat)] w fun e w' => e = .returned (.int .i64 (a + LM.skp false (s.data.toList.drop a) : Nat)) ∧ w = w' := by
  obtain ⟨m, hm⟩ : ∃ m, a + LM.skp false (s.data.toList.drop a) = m := ⟨_, rfl⟩
  rw [hm]
  have h0 := Lib.hid hm
  clear hm
  go_enter Tryd.func39, Tryd.ntmps39
  go_wp2
  go_loop [1, 5] (fun i n => ∃ (k : Nat) (b : Bool), (k = a ∨ k ≤ s.size) ∧ i = .int .i64 k ∧ n = .bool b ∧ Hid (k + LM.skp b (s.data.toList.drop k) = m)) (fun i _ => s.size - (intOf i).toNat)
  case atStart => exact ⟨a, false, .inl rfl, rfl, rfl, h0⟩
  case round =>
    obtain ⟨k, b, hk, rfl, rfl, hd⟩ := hrel
    by_cases hlt : k < s.size
    · obtain ⟨x, hx⟩ : ∃ x : Int, (s[k].toNat : Int) = x := ⟨_, rfl⟩
      have hst := @skp_stop s k m b hlt hd.out
      have hgo := @skp_go s k m b hlt hd.out
      rw [hx] at hst hgo
      have hst' := Lib.hid hst
      have hgo' := Lib.hid hgo
      clear hst hgo
      by_cases h10 : x = 10
      · subst h10
        have hn := Lib.hid (hgo'.out (by cases b <;> rfl))
        rw [show LM.nxn b 10 = false by cases b <;> rfl] at hn
        cases b
        all_goals
          go_wp2_with (go_at_call 49; refine (isBlank_any _ _).mono ?_; rintro e w' ⟨rfl, rfl⟩; rw [show LM.blk 10 = true by rfl])
          go_round
          case rel => exact ⟨k + 1, false, .inr (by omega), by go_num, rfl, hn⟩
          case measure => simp [intOf]; omega
      · have f10 : (x != 10) = true := by simpa using h10
        by_cases h59 : x = 59
        · subst h59
          have hn := Lib.hid (hgo'.out (by cases b <;> rfl))
          rw [show LM.nxn b 59 = true by cases b <;> rfl] at hn
          cases b
          all_goals
            go_wp2
            go_round
            case rel => exact ⟨k + 1, true, .inr (by omega), by go_num, rfl, hn⟩
            case measure => simp [intOf]; omega
        · have f59 : (x == 59) = false := by simpa using h59
          cases b
          · have e0 : LM.nxn false x = false := by simp [LM.nxn, h59]
            rw [e0] at hst' hgo'
            cases hb : LM.blk x
            · have hn := Lib.hid (hst'.out (by rw [hb]; rfl))
              have hb' := Lib.hid hb
              clear hb e0 h10 h59
              go_wp2_with (go_at_call 49; refine (isBlank_any _ _).mono ?_; rintro e w' ⟨rfl, rfl⟩; rw [hb'.out])
              go_ret
              exact ⟨ret_n hn.out, rfl⟩
            · have hn := Lib.hid (hgo'.out (by rw [hb]; rfl))
              have hb' := Lib.hid hb
              clear hb e0 h10 h59
              go_wp2_with (go_at_call 49; refine (isBlank_any _ _).mono ?_; rintro e w' ⟨rfl, rfl⟩; rw [hb'.out])
              go_round
              case rel => exact ⟨k + 1, false, .inr (by omega), by go_num, rfl, hn⟩
              case measure => simp [intOf]; omega
          · have e0 : LM.nxn true x = true := by simp [LM.nxn, h10]
            rw [e0] at hst' hgo'
            have hn := Lib.hid (hgo'.out (by rfl))
            clear e0 h10 h59
            go_wp2
            go_round
            case rel => exact ⟨k + 1, true, .inr (by omega), by go_num, rfl, hn⟩
            case measure => simp [intOf]; omega
    · have hn := Lib.hid (skp_end (by omega) hd.out)
      go_wp2
      go_ret
      exact ⟨ret_n hn.out, rfl⟩
end Go.Proofs.YtfabafolbelhdaaDoor
