/- errors.Is over two errors that are kinds of package api, bare (not wrapped): true just if they are the same kind. Go's own text of errors.Is is walked. -/
import Derived.Test.YthbgopmpdkefkaaGreatDoorRows
import Derived.WalkKit
import Derived.ProofKit
import Derived.OpenShut
import Derived.LaidEql
import Derived.Stop.Asserts
import Derived.RowKitTokens
import Derived.Handy
import Derived.Lib.Hide
import Derived.Test.YthbgopmpdkefkaaGreatDoorQ3
import Derived.Test.YthbgopmpdkefkaaGreatDoorQ7
import Derived.Test.YthbgopmpdkefkaaGreatDoorQ2
import Derived.Below
import Derived.Test.YthbgopmpdkefkaaGreatDoorShelf
import Derived.Lib.Strings
import Derived.Test.YthbgopmpdkefkaaGreatDoorQ1
namespace Go.Proofs.YthbgopmpdkefkaaGreatDoor
open Go.RowKit Go.Extern.Stop Go.Stop Go.Extern

section
variable {P : Program} (w : World)
theorem run_equalIn_iface_int (d : Nat) {ti tn : TypeId} {ms : Array (String × TypeId)} {i : TypeInfo} {k : IntKind} (a b : Int)
    (hi : P.underlying ti = some (.interface ms)) (hn : P.underlying tn = some (.int k)) (hinfo : P.info? tn = some i) (hcomp : i.comparable = true) :
    (Op.equalIn (d + 2) ti (.iface tn (.int k a)) (.iface tn (.int k b))).run P w = .ok (a == b) w := by
  simp [Op.equalIn, run_underlying hi, run_underlying hn, typeInfo, hinfo, hcomp]
/-- two interface values of one integer type are equal as their numbers are -/
theorem run_eql_iface_int {ti tn : TypeId} {ms : Array (String × TypeId)} {i : TypeInfo} {k : IntKind} (a b : Int)
    (hi : P.underlying ti = some (.interface ms)) (hn : P.underlying tn = some (.int k)) (hinfo : P.info? tn = some i) (hcomp : i.comparable = true) :
    (binOp .eql ti (.iface tn (.int k a)) (.iface tn (.int k b))).run P w = .ok (.bool (a == b)) w := by
  simp only [binOp]
  simp [Op.equal, Op.maxDepth, run_equalIn_iface_int w 9998 a b hi hn hinfo hcomp]
end

theorem Tryz.isTypeOf (v : Value) (w : World) : (callFunc 33 #[.iface 37 v]).run Tryz.prog w = .ok (.value (.iface 75 (.agg #[.pointer (some ⟨3, 37, none⟩)]))) w := by kernel_rfl
theorem Tryz.isComparable (w : World) : (callFunc 166 #[.agg #[.pointer (some ⟨3, 37, none⟩)]]).run Tryz.prog w = .ok (.value (.bool true)) w := by kernel_rfl
theorem Tryz.isComp : (Tryz.prog.info? 37).map (·.comparable) = some true := by kernel_rfl

theorem is_loop_same (a : Int) (w : World) :
    Calls Tryz.prog 34 #[.iface 37 (.int .i64 a), .iface 37 (.int .i64 a), .bool true] w fun e w' => e = .returned (.bool true) ∧ w = w' := by
  obtain ⟨i, hi, hcmp⟩ := Option.map_eq_some_iff.1 Tryz.isComp
  have heq := fun w => run_eql_iface_int (P := Tryz.prog) w a a Tryz.underlying32 Tryz.underlying37 hi hcmp
  simp only [beq_self_eq_true] at heq
  clear hi hcmp
  go_enter Tryz.func34, Tryz.ntmps34
  go_wp2
  refine wp_loop_rounds 1 ?_
  rw [rounds_succ]
  go_wp2
  go_ret
  exact ⟨rfl, rfl⟩

/-- errors.Is(k, k), k a kind -/
theorem is_same (a : Int) (w : World) :
    Calls Tryz.prog 14 #[.iface 37 (.int .i64 a), .iface 37 (.int .i64 a)] w fun e w' => e = .returned (.bool true) ∧ w = w' := by
  have tT := Tryz.isTypeOf
  have cT := Tryz.isComparable
  go_enter Tryz.func14, Tryz.ntmps14
  go_wp2_with (go_at_call 34; refine (is_loop_same _ _).mono ?_; rintro e w' ⟨rfl, rfl⟩)
  go_ret
  exact ⟨rfl, rfl⟩

theorem Tryz.noIs (v : Value) (xT : TypeId) (w : World) : (Instr.typeAssert (.iface 37 v) xT 77 true).run Tryz.prog w = .ok (.tuple #[.nilIface, .bool false]) w := run_typeAssert_lacksB Tryz.underlying77 (by kernel_rfl) (by kernel_rfl) v xT w
theorem Tryz.noUnwrap (v : Value) (xT : TypeId) (w : World) : (Instr.typeAssert (.iface 37 v) xT 80 true).run Tryz.prog w = .ok (.tuple #[.nilIface, .bool false]) w := run_typeAssert_lacksB Tryz.underlying80 (by kernel_rfl) (by kernel_rfl) v xT w
theorem Tryz.noUnwraps (v : Value) (xT : TypeId) (w : World) : (Instr.typeAssert (.iface 37 v) xT 82 true).run Tryz.prog w = .ok (.tuple #[.nilIface, .bool false]) w := run_typeAssert_lacksB Tryz.underlying82 (by kernel_rfl) (by kernel_rfl) v xT w

theorem is_loop_other (a b : Int) (hab : (a == b) = false) (w : World) :
    Calls Tryz.prog 34 #[.iface 37 (.int .i64 a), .iface 37 (.int .i64 b), .bool true] w fun e w' => e = .returned (.bool false) ∧ w = w' := by
  obtain ⟨i, hi, hcmp⟩ := Option.map_eq_some_iff.1 Tryz.isComp
  have heq := fun w => run_eql_iface_int (P := Tryz.prog) w a b Tryz.underlying32 Tryz.underlying37 hi hcmp
  simp only [hab] at heq
  clear hi hcmp hab
  have n1 := Tryz.noIs
  have n2 := Tryz.noUnwrap
  have n3 := Tryz.noUnwraps
  go_enter Tryz.func34, Tryz.ntmps34
  go_wp2
  refine wp_loop_rounds 1 ?_
  rw [rounds_succ]
  go_wp2
  go_ret
  exact ⟨rfl, rfl⟩

/-- errors.Is(k, j), of two kinds -/
theorem is_other (a b : Int) (hab : (a == b) = false) (w : World) :
    Calls Tryz.prog 14 #[.iface 37 (.int .i64 a), .iface 37 (.int .i64 b)] w fun e w' => e = .returned (.bool false) ∧ w = w' := by
  have tT := Tryz.isTypeOf
  have cT := Tryz.isComparable
  have HH := Lib.hid (is_loop_other a b hab w)
  clear hab
  go_enter Tryz.func14, Tryz.ntmps14
  go_wp2_with (go_at_call 34; refine HH.out.mono ?_; rintro e w' ⟨rfl, rfl⟩)
  go_ret
  exact ⟨rfl, rfl⟩
end Go.Proofs.YthbgopmpdkefkaaGreatDoor

/- What the small functions of package lex give. -/
namespace Go.Proofs.YthbgopmpdkefkaaGreatDoor
open Go.ChangeShapes Go.WideShapes Go.ChangeAt Go.RowKit

theorem isDelimiter_any (x : Int) (w : World) :
    Calls Tryz.prog 113 #[.int .u8 x] w fun e w' => e = .returned (.bool (LM.dlm x)) ∧ w = w' := by
  go_enter Tryz.func113, Tryz.ntmps113
  go_wp2
  all_goals
    go_ret
    refine ⟨ret_b ?_, rfl⟩
    rw [LM.dlm, Bool.eq_iff_iff]
    simp only [beq_iff_eq, beq_eq_false_iff_ne, ne_eq] at *
    simp <;> omega
theorem isNameByte_any (x : Int) (w : World) :
    Calls Tryz.prog 100 #[.int .u8 x] w fun e w' => e = .returned (.bool (LM.nmb x)) ∧ w = w' := by
  cases hd : LM.dlm x
  all_goals
    have hd' := Lib.hid hd
    clear hd
    go_enter Tryz.func100, Tryz.ntmps100
    go_wp2_with (go_at_call 113; refine (isDelimiter_any _ _).mono ?_; rintro e w' ⟨rfl, rfl⟩; rw [hd'.out])
  all_goals
    go_ret
    refine ⟨ret_b ?_, rfl⟩
    have hd := hd'.out
    rw [LM.dlm] at hd
    rw [LM.nmb, Bool.eq_iff_iff]
    simp only [beq_iff_eq, beq_eq_false_iff_ne, ne_eq, decide_eq_true_eq, decide_eq_false_iff_not] at *
    simp <;> omega
theorem Calls.world {P : Program} {f : FuncId} {args : Array Value} {w : World} {v : Value} (h : Calls P f args w fun e w' => e = .returned v ∧ w = w') : Calls P f args w fun e w' => e = .returned v ∧ Went w w' :=
  h.mono fun _ _ ⟨he, hw⟩ => ⟨he, hw ▸ Went.refl w⟩

/-! ### where a word, and where blanks, end -/
theorem drop_cons {s : ByteArray} {k : Nat} (h : k < s.size) : s.data.toList.drop k = s[k] :: s.data.toList.drop (k + 1) := by
  rw [List.drop_eq_getElem_cons (by rw [size_len]; exact h)]; rfl
theorem drop_end {s : ByteArray} {k : Nat} (h : s.size ≤ k) : s.data.toList.drop k = [] := List.drop_of_length_le (by rw [size_len]; exact h)
theorem wln_go {s : ByteArray} {k m : Nat} (h : k < s.size) (H : k + LM.wln (s.data.toList.drop k) = m) (hd : LM.dlm (s[k].toNat : Int) = false) : k + 1 + LM.wln (s.data.toList.drop (k + 1)) = m := by
  rw [drop_cons h, LM.wln, hd] at H
  simp at H; omega
theorem wln_stop {s : ByteArray} {k m : Nat} (h : k < s.size) (H : k + LM.wln (s.data.toList.drop k) = m) (hd : LM.dlm (s[k].toNat : Int) = true) : k = m := by
  rw [drop_cons h, LM.wln, hd] at H
  simpa using H
theorem wln_end {s : ByteArray} {k m : Nat} (h : s.size ≤ k) (H : k + LM.wln (s.data.toList.drop k) = m) : k = m := by
  rw [drop_end h, LM.wln] at H
  simpa using H
theorem ret_n {a b : Nat} (h : a = b) : Ending.returned (.int .i64 (a : Int)) = .returned (.int .i64 (b : Int)) := by rw [h]

theorem skp_go {s : ByteArray} {k m : Nat} {n : Bool} (h : k < s.size) (H : k + LM.skp n (s.data.toList.drop k) = m) (hd : (!LM.nxn n (s[k].toNat : Int) && !LM.blk (s[k].toNat : Int)) = false) : k + 1 + LM.skp (LM.nxn n (s[k].toNat : Int)) (s.data.toList.drop (k + 1)) = m := by
  rw [drop_cons h, LM.skp, hd] at H
  simp at H; omega
theorem skp_stop {s : ByteArray} {k m : Nat} {n : Bool} (h : k < s.size) (H : k + LM.skp n (s.data.toList.drop k) = m) (hd : (!LM.nxn n (s[k].toNat : Int) && !LM.blk (s[k].toNat : Int)) = true) : k = m := by
  rw [drop_cons h, LM.skp, hd] at H
  simpa using H
theorem skp_end {s : ByteArray} {k m : Nat} {n : Bool} (h : s.size ≤ k) (H : k + LM.skp n (s.data.toList.drop k) = m) : k = m := by
  rw [drop_end h, LM.skp] at H
  simpa using H

end Go.Proofs.YthbgopmpdkefkaaGreatDoor

/- What the functions of package lex give that make a token without looking far. -/
namespace Go.Proofs.YthbgopmpdkefkaaGreatDoor
open Go.ChangeShapes Go.WideShapes Go.ChangeAt Go.RowKit

/-- a token of which no place is known, and an error -/
def tka (T : LM.Tk) : Value := .tuple #[.agg #[.int .i64 T.k, .int .i64 T.n, .string ⟨T.s.toArray⟩, .int .i64 0, .int .i64 0, .int .i64 (T.len : Nat)], er T.e]

/-- do two bytes stand ahead? -/
def pre2 (a b : Int) : List UInt8 → Bool
  | [] => false
  | c :: r => decide ((c.toNat : Int) = a) && decide (LM.hd r = b)
/-- what the walk asks of a string that is no such one -/
theorem lst_no {s : ByteArray} {l : List UInt8} (h : s.data.toList ≠ l) : (s.toList == l) = false := by
  rw [ByteArray.toList_eq]; simpa using h
theorem lst_yes {s : ByteArray} {l : List UInt8} (h : s.data.toList = l) : s = ⟨l.toArray⟩ := by
  cases s; rename_i d; cases d; simp at h; rw [h]

/-- a byte behind a stroke -/
def esv (o : Option UInt8) : Value := match o with
  | none => .tuple #[.int .u8 0, .bool false]
  | some x => .tuple #[.int .u8 x.toNat, .bool true]
/-- a character, or none -/
def cov (n : Int) : Value := if n = -1 then .tuple #[.int .i64 0, .bool false] else .tuple #[.int .i64 n, .bool true]
theorem cho_one {s : ByteArray} (h : s.size = 1) (n : ¬ (s.data.toList = LM.sp1 ∨ s.data.toList = LM.sp2 ∨ s.data.toList = LM.sp3 ∨ s.data.toList = LM.sp4)) :
    LM.cho s.data.toList = if (s[0].toNat : Int) ≤ 32 then -1 else (s[0].toNat : Int) := by
  have e : s.data.toList = [s[0]] := by
    rw [cons_of (s := s) (by omega), List.drop_of_length_le (by rw [size_len]; omega)]
  have n1 : s.data.toList ≠ LM.sp1 := fun h => n (.inl h)
  have n2 : s.data.toList ≠ LM.sp2 := fun h => n (.inr (.inl h))
  have n3 : s.data.toList ≠ LM.sp3 := fun h => n (.inr (.inr (.inl h)))
  have n4 : s.data.toList ≠ LM.sp4 := fun h => n (.inr (.inr (.inr h)))
  unfold LM.cho
  rw [if_neg n1, if_neg n2, if_neg n3, if_neg n4, e]
theorem cho_more {s : ByteArray} (h : 1 < s.size) (n : ¬ (s.data.toList = LM.sp1 ∨ s.data.toList = LM.sp2 ∨ s.data.toList = LM.sp3 ∨ s.data.toList = LM.sp4)) :
    LM.cho s.data.toList = -1 := by
  have n1 : s.data.toList ≠ LM.sp1 := fun h => n (.inl h)
  have n2 : s.data.toList ≠ LM.sp2 := fun h => n (.inr (.inl h))
  have n3 : s.data.toList ≠ LM.sp3 := fun h => n (.inr (.inr (.inl h)))
  have n4 : s.data.toList ≠ LM.sp4 := fun h => n (.inr (.inr (.inr h)))
  unfold LM.cho
  rw [if_neg n1, if_neg n2, if_neg n3, if_neg n4]
  have hl := size_len s
  match he : s.data.toList with
  | [] => rfl
  | [c] => rw [he] at hl; simp at hl; omega
  | _ :: _ :: _ => rfl
end Go.Proofs.YthbgopmpdkefkaaGreatDoor

/- What package lex gives of a word: may it be a name, which token is it. -/
namespace Go.Proofs.YthbgopmpdkefkaaGreatDoor
open Go.ChangeShapes Go.WideShapes Go.ChangeAt Go.RowKit

/-- errors.Is(nil, k) -/
theorem is_nil (b : Int) (w : World) :
    Calls Tryz.prog 14 #[.nilIface, .iface 37 (.int .i64 b)] w fun e w' => e = .returned (.bool false) ∧ w = w' := by
  have hx : ∀ (v : Value) (w : World), (binOp .eql 32 .nilIface (.iface 37 v)).run Tryz.prog w = .ok (.bool false) w := fun v w => run_eql_iface_nil_left w 37 v Tryz.underlying32
  go_enter Tryz.func14, Tryz.ntmps14
  go_wp2
  go_ret
  exact ⟨rfl, rfl⟩

theorem parse_kind (l : List UInt8) : (FM.okd (FM.body l) = false ∧ FM.parse l = (0, 6)) ∨ (FM.okd (FM.body l) = true ∧ ((∃ n, FM.parse l = (n, 0)) ∨ FM.parse l = (0, 11))) := by
  unfold FM.parse
  cases FM.okd (FM.body l) with
  | false => exact .inl ⟨rfl, rfl⟩
  | true =>
    refine .inr ⟨rfl, ?_⟩
    rw [if_pos rfl]
    unfold FM.bd
    split
    · exact .inl ⟨_, rfl⟩
    · exact .inr rfl

theorem all_go {s : ByteArray} {k : Nat} (h : k < s.size) (H : (s.data.toList.take k).all (fun c => LM.nmb c.toNat) = true) (hd : LM.nmb (s[k].toNat : Int) = true) : (s.data.toList.take (k + 1)).all (fun c => LM.nmb c.toNat) = true := by
  rw [FM.take_snoc s k h, List.all_append, H]; simp [hd]
theorem all_stop {s : ByteArray} {k : Nat} (h : k < s.size) (hd : LM.nmb (s[k].toNat : Int) = false) : s.data.toList.all (fun c => LM.nmb c.toNat) = false := by
  rw [List.all_eq_false]
  exact ⟨s[k], Array.mem_toList_iff.2 (Array.getElem_mem (xs := s.data) h), by simp [hd]⟩
theorem all_end {s : ByteArray} {k : Nat} (h : s.size ≤ k) (H : (s.data.toList.take k).all (fun c => LM.nmb c.toNat) = true) : s.data.toList.all (fun c => LM.nmb c.toNat) = true := by
  rwa [List.take_of_length_le (by rw [size_len]; exact h)] at H

theorem sym_short {s : ByteArray} (h : s.size < 1 ∨ 60 < s.size ∨ s.data.toList = [46]) : LM.sym s.data.toList = false := by
  unfold LM.sym
  rw [size_len, decide_eq_false, Bool.false_and]
  rintro ⟨h1, h2, h3⟩
  rcases h with h | h | h
  · omega
  · omega
  · exact h3 h
theorem sym_of {s : ByteArray} (h1 : 1 ≤ s.size) (h2 : s.size ≤ 60) (h3 : s.data.toList ≠ [46]) : LM.sym s.data.toList = (s.data.toList.all (fun c => LM.nmb c.toNat) && !FM.okd (FM.body s.data.toList)) := by
  unfold LM.sym
  rw [size_len, decide_eq_true ⟨h1, h2, h3⟩, Bool.true_and]

theorem Symbol_any (s : ByteArray) (hs : s.size ≤ 9223372036854775807) (w : World) :
    Calls Tryz.prog 73 #[.string s] w fun e w' => e = .returned (.bool (LM.sym s.data.toList)) ∧ w = w' := by
  by_cases h1 : 1 ≤ s.size
  · obtain ⟨e1, e3⟩ := empty_no h1
    by_cases h2 : 60 < s.size
    · rw [sym_short (.inr (.inl h2))]
      go_enter Tryz.func73, Tryz.ntmps73
      go_wp2
      go_ret
      exact ⟨rfl, rfl⟩
    · by_cases h3 : s.data.toList = [46]
      · rw [sym_short (.inr (.inr h3))]
        obtain rfl := lst_yes h3
        clear h1 h2 h3 e1 e3 hs
        go_enter Tryz.func73, Tryz.ntmps73
        go_wp2
        go_ret
        exact ⟨rfl, rfl⟩
      · rw [sym_of h1 (by omega) h3]
        have f3 := lst_no (s := s) (l := [46]) h3
        clear h3
        have hp := parse_any s hs
        go_enter Tryz.func73, Tryz.ntmps73
        go_wp2
        go_loop [19] (fun i => ∃ k : Nat, k ≤ s.size ∧ i = .int .i64 k ∧ Hid ((s.data.toList.take k).all (fun c => LM.nmb c.toNat) = true)) (fun i => s.size - (intOf i).toNat)
        case atStart => exact ⟨0, Nat.zero_le _, rfl, by simp [Hid]⟩
        case round =>
          obtain ⟨k, hk, rfl, hd⟩ := hrel
          by_cases hlt : k < s.size
          · cases hq : LM.nmb (s[k].toNat : Int)
            · have hn := Lib.hid (all_stop hlt hq)
              have hq' := Lib.hid hq
              clear hq hp
              go_wp2_with (go_at_call 100; refine (isNameByte_any _ _).mono ?_; rintro e w' ⟨rfl, rfl⟩; rw [hq'.out])
              go_ret
              exact ⟨ret_b (by rw [hn.out]; rfl), rfl⟩
            · have hn := Lib.hid (all_go hlt hd.out hq)
              have hq' := Lib.hid hq
              clear hq hp
              go_wp2_with (go_at_call 100; refine (isNameByte_any _ _).mono ?_; rintro e w' ⟨rfl, rfl⟩; rw [hq'.out])
              go_round
              case rel => exact ⟨k + 1, by omega, by go_num, hn⟩
              case measure => simp [intOf]; omega
          · have hn := Lib.hid (all_end (by omega) hd.out)
            rcases parse_kind s.data.toList with ⟨ho, he⟩ | ⟨ho, ⟨n, he⟩ | he⟩
            · rw [he, ans_no _ _ (by omega)] at hp
              have hp' := Lib.hid hp
              have ho' := Lib.hid ho
              clear hp he ho
              go_wp2_with (first
                | (go_at_call 101; refine (hp'.out _).mono ?_; rintro e w' ⟨rfl, rfl⟩)
                | (go_at_call 14; refine (is_same _ _).mono ?_; rintro e w' ⟨rfl, rfl⟩))
              go_ret
              exact ⟨ret_b (by rw [hn.out, ho'.out]; rfl), rfl⟩
            · rw [he, ans_yes] at hp
              have hp' := Lib.hid hp
              have ho' := Lib.hid ho
              clear hp he ho
              go_wp2_with (first
                | (go_at_call 101; refine (hp'.out _).mono ?_; rintro e w' ⟨rfl, rfl⟩)
                | (go_at_call 14; refine (is_nil _ _).mono ?_; rintro e w' ⟨rfl, rfl⟩))
              go_ret
              exact ⟨ret_b (by rw [hn.out, ho'.out]; rfl), rfl⟩
            · rw [he, ans_no _ _ (by omega)] at hp
              have hp' := Lib.hid hp
              have ho' := Lib.hid ho
              clear hp he ho
              go_wp2_with (first
                | (go_at_call 101; refine (hp'.out _).mono ?_; rintro e w' ⟨rfl, rfl⟩)
                | (go_at_call 14; refine (is_other _ _ (by rfl) _).mono ?_; rintro e w' ⟨rfl, rfl⟩))
              go_ret
              exact ⟨ret_b (by rw [hn.out, ho'.out]; rfl), rfl⟩
  · obtain ⟨e1, e3, e4⟩ := empty_yes (s := s) (by omega)
    rw [sym_short (.inl (by omega))]
    clear e4
    go_enter Tryz.func73, Tryz.ntmps73
    go_wp2
    go_ret
    exact ⟨rfl, rfl⟩

theorem bcell {W w1 : World} (hb : Below W.heap.size W w1) : (∀ b o, b < W.heap.size → w1.cell? ⟨b, o, none⟩ = W.cell? ⟨b, o, none⟩) ∧ (∀ b o, b < W.heap.size → w1.frozen? ⟨b, o, none⟩ = W.frozen? ⟨b, o, none⟩) :=
  ⟨fun b o h => hb.cell (p := ⟨b, o, none⟩) h, fun b o h => hb.frozen (p := ⟨b, o, none⟩) h⟩

theorem below_new {w w1 : World} {o : Obj} (hb : Below (w.alloc o).heap.size (w.alloc o) w1) : Below w.heap.size w w1 :=
  ((Below.refl _ w).alloc (Nat.le_refl _) o).trans (hb.mono (by simp))
/-- six cells of a new block -/
theorem below_six {B g : Nat} {a w : World} (h : Below B a w) (hg : B ≤ g) (v0 v1 v2 v3 v4 v5 : Value) :
    Below B a ((((((w.setCell ⟨g, 0, none⟩ v0).setCell ⟨g, 1, none⟩ v1).setCell ⟨g, 2, none⟩ v2).setCell ⟨g, 3, none⟩ v3).setCell ⟨g, 4, none⟩ v4).setCell ⟨g, 5, none⟩ v5) :=
  (((((h.setCell hg v0).setCell hg v1).setCell hg v2).setCell hg v3).setCell hg v4).setCell hg v5

theorem tka_ret {T U : LM.Tk} (h : T = U) {v : Value} (hv : v = tka T) : Ending.returned v = .returned (tka U) := by rw [hv, h]
end Go.Proofs.YthbgopmpdkefkaaGreatDoor

/- More of the plain mathematics of layer 7: what begins with a sharp. No dump is read here. -/
namespace Go.Proofs.YthbgopmpdkefkaaGreatDoor.LM
open Go.RowKit

/-- does a token end there? -/
def en : List UInt8 → Bool
  | [] => true
  | c :: _ => dlm c.toNat
theorem en_wln (q : List UInt8) : en q = true ↔ wln q = 0 := by
  cases q with
  | nil => simp [en, wln]
  | cons c r => unfold en wln; cases h : dlm c.toNat <;> simp [h]
theorem en_drop (q : List UInt8) : en (q.drop (wln q)) = true := by
  induction q with
  | nil => rfl
  | cons c r ih =>
    unfold wln
    cases h : dlm c.toNat
    · simpa using ih
    · simpa [en] using h
theorem word_at : ∀ (v q : List UInt8), (∀ c ∈ v, dlm c.toNat = false) → ((q.take v.length = v ∧ en (q.drop v.length) = true) ↔ q.take (wln q) = v)
  | [], q, _ => by
    simp only [List.length_nil, List.take_zero, List.drop_zero, true_and]
    rw [en_wln]
    constructor
    · intro h; rw [h]; rfl
    · intro h
      have := congrArg List.length h
      rw [List.length_take, Nat.min_eq_left (wln_le q)] at this
      simpa using this
  | x :: v, q, h => by
    have hx := h x (by simp)
    have ih := fun q => word_at v q (fun c hc => h c (by simp [hc]))
    cases q with
    | nil => simp [wln]
    | cons c r =>
      simp only [List.length_cons, List.take_succ_cons, List.drop_succ_cons]
      unfold wln
      constructor
      · rintro ⟨h1, h2⟩
        injection h1 with h3 h4
        subst h3
        rw [hx]
        simp only [Bool.false_eq_true, if_false, List.take_succ_cons]
        rw [(ih r).1 ⟨h4, h2⟩]
      · cases hc : dlm c.toNat
        · simp only [Bool.false_eq_true, if_false, List.take_succ_cons]
          intro h1
          injection h1 with h3 h4
          have := (ih r).2 h4
          exact ⟨by rw [h3, this.1], this.2⟩
        · simp
def nm : Nat → List UInt8
  | 0 => sp1
  | 1 => sp2
  | 2 => sp3
  | _ => sp4
def cd : Nat → Int
  | 0 => 32
  | 1 => 10
  | 2 => 9
  | _ => 0
/-- does the name stand there, and end? -/
def nmAt (k : Nat) (q : List UInt8) : Prop := q.take (nm k).length = nm k ∧ en (q.drop (nm k).length) = true
theorem nm_plain (k : Nat) : ∀ c ∈ nm k, dlm c.toNat = false := by
  match k with
  | 0 => decide
  | 1 => decide
  | 2 => decide
  | _ + 3 => show ∀ c ∈ sp4, dlm c.toNat = false; decide
theorem nmAt_iff (k : Nat) (c : UInt8) (q : List UInt8) : nmAt k (c :: q) ↔ c :: q.take (wln q) = nm k := by
  unfold nmAt
  rw [word_at (nm k) (c :: q) (nm_plain k)]
  conv => lhs; unfold wln
  cases hc : dlm c.toNat
  · simp
  · simp only [if_true, List.take_zero]
    constructor
    · intro h
      exfalso
      have := congrArg List.length h
      match k with
      | 0 => simp [nm, sp1] at this
      | 1 => simp [nm, sp2] at this
      | 2 => simp [nm, sp3] at this
      | _ + 3 => simp [nm, sp4] at this
    · intro h
      have := nm_plain k c (by rw [← h]; simp)
      rw [hc] at this; cases this
theorem cho_nm (k : Nat) (hk : k < 4) : cho (nm k) = cd k := by
  match k, hk with
  | 0, _ => rfl
  | 1, _ => rfl
  | 2, _ => rfl
  | 3, _ => rfl
theorem cd_pos (k : Nat) : cd k ≠ -1 := by
  match k with
  | 0 => decide
  | 1 => decide
  | 2 => decide
  | _ + 3 => show (0 : Int) ≠ -1; decide
theorem chr_nm {k : Nat} (hk : k < 4) {q : List UInt8} (h : nmAt k q) : chr q = tok 11 (cd k) [] (2 + (nm k).length) := by
  cases q with
  | nil =>
    have := congrArg List.length h.1
    match k, hk with
    | 0, _ => simp [nm, sp1] at this
    | 1, _ => simp [nm, sp2] at this
    | 2, _ => simp [nm, sp3] at this
    | 3, _ => simp [nm, sp4] at this
  | cons c q =>
    have h1 := (nmAt_iff k c q).1 h
    have h2 := congrArg List.length h1
    rw [List.length_cons, List.length_take, Nat.min_eq_left (wln_le q)] at h2
    rw [chr_eq, h1, cho_nm k hk, if_neg (cd_pos k)]
    rw [show 3 + wln q = 2 + (nm k).length by omega]
theorem cho_one' (c : UInt8) : cho [c] = if (c.toNat : Int) ≤ 32 then (-1 : Int) else (c.toNat : Int) := by
  unfold cho
  rw [if_neg (by simp [sp1]), if_neg (by simp [sp2]), if_neg (by simp [sp3]), if_neg (by simp [sp4])]
theorem chr_one {c : UInt8} {q : List UInt8} (h : (32 : Int) < c.toNat) (he : en q = true) : chr (c :: q) = tok 11 c.toNat [] 3 := by
  rw [chr_eq, (en_wln q).1 he, List.take_zero, cho_one', if_neg (by omega), if_neg (by omega)]
theorem chr_none {q : List UInt8} (h1 : ∀ c r, q = c :: r → (32 : Int) < c.toNat → en r = false) (h2 : ∀ k, k < 4 → ¬ nmAt k q) : chr q = bad 6 := by
  cases q with
  | nil => rfl
  | cons c q =>
    have n0 : ¬ c :: q.take (wln q) = sp1 := fun h => h2 0 (by omega) ((nmAt_iff 0 c q).2 h)
    have n1 : ¬ c :: q.take (wln q) = sp2 := fun h => h2 1 (by omega) ((nmAt_iff 1 c q).2 h)
    have n2 : ¬ c :: q.take (wln q) = sp3 := fun h => h2 2 (by omega) ((nmAt_iff 2 c q).2 h)
    have n3 : ¬ c :: q.take (wln q) = sp4 := fun h => h2 3 (by omega) ((nmAt_iff 3 c q).2 h)
    rw [chr_eq, if_pos]
    unfold cho
    rw [if_neg n0, if_neg n1, if_neg n2, if_neg n3]
    cases hw : q.take (wln q) with
    | nil =>
      simp only
      have he : en q = true := by
        rw [en_wln]
        have := congrArg List.length hw
        rw [List.length_take, Nat.min_eq_left (wln_le q)] at this
        simpa using this
      have hc : ¬ (32 : Int) < c.toNat := fun hc => by
        have := h1 c q rfl hc
        rw [he] at this; cases this
      rw [if_pos (by omega)]
    | cons d r => rfl

theorem wrd_sharp {x : List UInt8} (h1 : x ≠ [102]) (h2 : x ≠ [116]) : wrd (35 :: x) = bad 6 := by
  unfold wrd
  rw [if_neg (by simp), if_neg (by simpa using h1), if_neg (by simpa using h2)]
  have e1 : FM.body (35 :: x) = 35 :: x := by simp [FM.body]
  have e2 : FM.okd (35 :: x) = false := by
    unfold FM.okd FM.digs
    simp only [List.all_cons]
    rw [show FM.dig 35 = false by decide]
    simp
  have e3 : sym (35 :: x) = false := by
    unfold sym
    simp only [List.all_cons]
    rw [show nmb ((35 : UInt8).toNat : Int) = false by decide]
    simp
  rw [e1, e2, e3]
  simp
theorem wln_sharp (q : List UInt8) : wln (35 :: q) = wln q + 1 := by
  conv => lhs; unfold wln
  rw [show dlm ((35 : UInt8).toNat : Int) = false by decide]; rfl
theorem scn_sharp {q : List UInt8} (h1 : hd q ≠ 40) (h2 : hd q ≠ 92) : scn (35 :: q) = wrd (35 :: q.take (wln q)) := by
  rw [scn_eq, if_neg (by decide), if_neg (by rintro ⟨_, h⟩; exact h1 h), if_neg (by rintro ⟨_, h⟩; exact h2 h), if_neg (by decide), if_neg (by decide), if_neg (by decide), if_neg (by decide), if_neg (by decide), wln_sharp, List.take_succ_cons]
theorem scn_char {q : List UInt8} : scn (35 :: 92 :: q) = chr q := by
  rw [scn_eq, if_neg (by decide), if_neg (by rintro ⟨_, h⟩; revert h; simp [hd]), if_pos ⟨by decide, by simp [hd]⟩]; rfl
theorem scn_flag {d : UInt8} {q : List UInt8} (hd' : d = 116 ∨ d = 102) (he : en q = true) : scn (35 :: d :: q) = tok 10 (if d = 116 then 1 else 0) [] 2 := by
  have hw := (en_wln q).1 he
  have e : wln (d :: q) = 1 := by
    unfold wln
    rcases hd' with rfl | rfl
    · rw [show dlm ((116 : UInt8).toNat : Int) = false by decide, hw]; rfl
    · rw [show dlm ((102 : UInt8).toNat : Int) = false by decide, hw]; rfl
  rw [scn_sharp (by rcases hd' with rfl | rfl <;> simp [hd]) (by rcases hd' with rfl | rfl <;> simp [hd]), e]
  rcases hd' with rfl | rfl <;> rfl
theorem scn_nothing {d : UInt8} {q : List UInt8} (h1 : d.toNat ≠ 40) (h2 : d.toNat ≠ 92) (h3 : d = 116 ∨ d = 102 → en q = false) : scn (35 :: d :: q) = bad 6 := by
  rw [scn_sharp (by simp [hd]; omega) (by simp [hd]; omega)]
  have key : ∀ x : UInt8, (x = 116 ∨ x = 102) → (d :: q).take (wln (d :: q)) ≠ [x] := by
    intro x hx h
    have hl := congrArg List.length h
    rw [List.length_take, Nat.min_eq_left (wln_le _)] at hl
    have hl' : wln (d :: q) = 1 := by simpa using hl
    rw [hl'] at h
    have hdx : d = x := by simpa using h
    have he := h3 (by rw [hdx]; exact hx)
    have : en q = true := by
      rw [en_wln]
      unfold wln at hl'
      split at hl'
      · omega
      · omega
    rw [he] at this; cases this
  exact wrd_sharp (key 102 (.inr rfl)) (key 116 (.inl rfl))
theorem scn_alone : scn [35] = bad 6 := rfl
end Go.Proofs.YthbgopmpdkefkaaGreatDoor.LM

/- What the document's own parser gives. -/
namespace Go.Proofs.YthbgopmpdkefkaaGreatDoor
open Go.ChangeShapes Go.WideShapes Go.ChangeAt Go.RowKit

/-- the digits so far: what they come to, or that it is too much -/
def Far (t : ByteArray) (k : Nat) (v : Int) (f : Bool) : Prop :=
  FM.digs (t.data.toList.take k) = true ∧ (f = false ∧ v = FM.val (t.data.toList.take k) ∨ f = true ∧ 1152921504606846980 ≤ FM.val (t.data.toList.take k))
theorem far_start (t : ByteArray) : Far t 0 0 false := ⟨by simp [FM.digs], .inl ⟨rfl, by simp [FM.val]⟩⟩
theorem far_step {t : ByteArray} {k : Nat} {v : Int} {f : Bool} (h : k < t.size) (H : Far t k v f) (h1 : 48 ≤ (t[k].toNat : Int)) (h2 : (t[k].toNat : Int) ≤ 57)
    (hv : v ≤ 115292150460684697) : Far t (k + 1) (v * 10 + ((t[k].toNat : Int) - 48)) f := by
  obtain ⟨hd, hf⟩ := H
  refine ⟨digs_yes_step h hd h1 h2, ?_⟩
  have e : FM.val (t.data.toList.take (k + 1)) = FM.val (t.data.toList.take k) * 10 + ((t[k].toNat : Int) - 48) := by
    rw [FM.take_snoc t k h, FM.val_snoc]
  rw [e]
  rcases hf with ⟨rfl, rfl⟩ | ⟨rfl, hf⟩
  · exact .inl ⟨rfl, rfl⟩
  · exact .inr ⟨rfl, by omega⟩
theorem far_over {t : ByteArray} {k : Nat} {v : Int} {f : Bool} (h : k < t.size) (H : Far t k v f) (h1 : 48 ≤ (t[k].toNat : Int)) (h2 : (t[k].toNat : Int) ≤ 57)
    (hv : 115292150460684697 < v) : Far t (k + 1) ((t[k].toNat : Int) - 48) true := by
  obtain ⟨hd, hf⟩ := H
  refine ⟨digs_yes_step h hd h1 h2, .inr ⟨rfl, ?_⟩⟩
  have e : FM.val (t.data.toList.take (k + 1)) = FM.val (t.data.toList.take k) * 10 + ((t[k].toNat : Int) - 48) := by
    rw [FM.take_snoc t k h, FM.val_snoc]
  rw [e]
  rcases hf with ⟨rfl, rfl⟩ | ⟨rfl, hf⟩ <;> omega
theorem far_not {t : ByteArray} {k : Nat} {v : Int} {f : Bool} (h : k < t.size) (_H : Far t k v f) (h1 : (t[k].toNat : Int) < 48 ∨ 57 < (t[k].toNat : Int)) : FM.okd t.data.toList = false := by
  unfold FM.okd; rw [digs_no_step h h1, Bool.and_false]
theorem far_end {t : ByteArray} {k : Nat} {v : Int} {f : Bool} (h : t.size ≤ k) (H : Far t k v f) (h1 : 1 ≤ t.size) (h2 : t.size ≤ 30) :
    FM.okd t.data.toList = true ∧ (f = false ∧ v = FM.val t.data.toList ∨ f = true ∧ 1152921504606846980 ≤ FM.val t.data.toList) := by
  obtain ⟨hd, hf⟩ := H
  rw [List.take_of_length_le (by rw [size_len]; exact h)] at hf
  refine ⟨?_, hf⟩
  unfold FM.okd; rw [digs_all h hd, size_len, decide_eq_true ⟨h1, h2⟩, Bool.true_and]

/-- the parser's answer behind the sign -/
def ends (ng : Bool) (t : ByteArray) : Int × Int := if FM.okd t.data.toList then FM.bd (if ng then -(FM.val t.data.toList) else FM.val t.data.toList) else (0, 6)
theorem ends_no {ng : Bool} {t : ByteArray} (h : FM.okd t.data.toList = false) : ends ng t = (0, 6) := by unfold ends; rw [h, if_neg (by simp)]
theorem ends_far {ng : Bool} {t : ByteArray} (h : FM.okd t.data.toList = true) (hv : 1152921504606846980 ≤ FM.val t.data.toList) : ends ng t = (0, 11) := by
  unfold ends; rw [h, if_pos rfl, FM.bd, FM.num_mk_no (by cases ng <;> simp <;> omega), if_neg (by simp)]
theorem ends_in {ng : Bool} {t : ByteArray} {v x : Int} (h : FM.okd t.data.toList = true) (hv : v = FM.val t.data.toList) (hx : (if ng then -v else v) = x) : ends ng t = FM.bd x := by
  unfold ends; rw [h, if_pos rfl, ← hv, hx]
theorem parse_ends (s : ByteArray) : FM.parse s.data.toList = ends (FM.neg s.data.toList) (bodyS s) := by
  unfold FM.parse ends FM.sv; rw [(body_data s).1]

end Go.Proofs.YthbgopmpdkefkaaGreatDoor
