/- errors.Is over two errors that are kinds of package api, bare (not wrapped): true just if they are the same kind. Go's own text of errors.Is is walked. -/
import Derived.Test.YthfelkcomhflnaaDoorRows
import Derived.WalkKit
import Derived.ProofKit
import Derived.OpenShut
import Derived.LaidEql
import Derived.Stop.Asserts
import Derived.RowKitTokens
import Derived.Handy
import Derived.Lib.Hide
import Derived.Test.YthfelkcomhflnaaDoorQ4
import Derived.Test.YthfelkcomhflnaaDoorQ18
import Derived.Test.YthfelkcomhflnaaDoorQ2
import Derived.Below
import Derived.Lib.Strings
namespace Go.Proofs.YthfelkcomhflnaaDoor
open Go.RowKit Go.Extern.Stop Go.Stop Go.Extern

section
variable {P : Program} (w : World)
theorem run_equalIn_iface_int (d : Nat) {ti tn : TypeId} {ms : Array (String × TypeId)} {i : TypeInfo} {k : IntKind} (a b : Int)
    (hi : P.underlying ti = some (.interface ms)) (hn : P.underlying tn = some (.int k)) (hinfo : P.info? tn = some i) (hcomp : i.comparable = true) :
    (Op.equalIn (d + 2) ti (.iface tn (.int k a)) (.iface tn (.int k b))).run P w = .ok (a == b) w := by
  simp [Op.equalIn, run_underlying hi, run_underlying hn, typeInfo, hinfo, hcomp]
/-- two interface values of one integer type are equal as their numbers are -/
theorem run_eql_iface_int {ti tn : TypeId} {ms : Array (String × TypeId)} {i : TypeInfo} {k : IntKind} (a b : Int)
    (hi : P.underlying ti = some (.interface ms)) (hn : P.underlying tn = some (.int k)) (hinfo : P.info? tn = some i) (hcomp : i.comparable = true) :
    (binOp .eql ti (.iface tn (.int k a)) (.iface tn (.int k b))).run P w = .ok (.bool (a == b)) w := by
  simp only [binOp]
  simp [Op.equal, Op.maxDepth, run_equalIn_iface_int w 9998 a b hi hn hinfo hcomp]
end

theorem Tryd.isTypeOf (v : Value) (w : World) : (callFunc 23 #[.iface 34 v]).run Tryd.prog w = .ok (.value (.iface 69 (.agg #[.pointer (some ⟨3, 34, none⟩)]))) w := by kernel_rfl
theorem Tryd.isComparable (w : World) : (callFunc 110 #[.agg #[.pointer (some ⟨3, 34, none⟩)]]).run Tryd.prog w = .ok (.value (.bool true)) w := by kernel_rfl
theorem Tryd.isComp : (Tryd.prog.info? 34).map (·.comparable) = some true := by kernel_rfl

theorem is_loop_same (a : Int) (w : World) :
    Calls Tryd.prog 24 #[.iface 34 (.int .i64 a), .iface 34 (.int .i64 a), .bool true] w fun e w' => e = .returned (.bool true) ∧ w = w' := by
  obtain ⟨i, hi, hcmp⟩ := Option.map_eq_some_iff.1 Tryd.isComp
  have heq := fun w => run_eql_iface_int (P := Tryd.prog) w a a Tryd.underlying27 Tryd.underlying34 hi hcmp
  simp only [beq_self_eq_true] at heq
  clear hi hcmp
  go_enter Tryd.func24, Tryd.ntmps24
  go_wp2
  refine wp_loop_rounds 1 ?_
  rw [rounds_succ]
  go_wp2
  go_ret
  exact ⟨rfl, rfl⟩

/-- errors.Is(k, k), k a kind -/
theorem is_same (a : Int) (w : World) :
    Calls Tryd.prog 11 #[.iface 34 (.int .i64 a), .iface 34 (.int .i64 a)] w fun e w' => e = .returned (.bool true) ∧ w = w' := by
  have tT := Tryd.isTypeOf
  have cT := Tryd.isComparable
  go_enter Tryd.func11, Tryd.ntmps11
  go_wp2_with (go_at_call 24; refine (is_loop_same _ _).mono ?_; rintro e w' ⟨rfl, rfl⟩)
  go_ret
  exact ⟨rfl, rfl⟩

theorem Tryd.noIs (v : Value) (xT : TypeId) (w : World) : (Instr.typeAssert (.iface 34 v) xT 71 true).run Tryd.prog w = .ok (.tuple #[.nilIface, .bool false]) w := run_typeAssert_lacksB Tryd.underlying71 (by kernel_rfl) (by kernel_rfl) v xT w
theorem Tryd.noUnwrap (v : Value) (xT : TypeId) (w : World) : (Instr.typeAssert (.iface 34 v) xT 74 true).run Tryd.prog w = .ok (.tuple #[.nilIface, .bool false]) w := run_typeAssert_lacksB Tryd.underlying74 (by kernel_rfl) (by kernel_rfl) v xT w
theorem Tryd.noUnwraps (v : Value) (xT : TypeId) (w : World) : (Instr.typeAssert (.iface 34 v) xT 76 true).run Tryd.prog w = .ok (.tuple #[.nilIface, .bool false]) w := run_typeAssert_lacksB Tryd.underlying76 (by kernel_rfl) (by kernel_rfl) v xT w

theorem is_loop_other (a b : Int) (hab : (a == b) = false) (w : World) :
    Calls Tryd.prog 24 #[.iface 34 (.int .i64 a), .iface 34 (.int .i64 b), .bool true] w fun e w' => e = .returned (.bool false) ∧ w = w' := by
  obtain ⟨i, hi, hcmp⟩ := Option.map_eq_some_iff.1 Tryd.isComp
  have heq := fun w => run_eql_iface_int (P := Tryd.prog) w a b Tryd.underlying27 Tryd.underlying34 hi hcmp
  simp only [hab] at heq
  clear hi hcmp hab
  have n1 := Tryd.noIs
  have n2 := Tryd.noUnwrap
  have n3 := Tryd.noUnwraps
  go_enter Tryd.func24, Tryd.ntmps24
  go_wp2
  refine wp_loop_rounds 1 ?_
  rw [rounds_succ]
  go_wp2
  go_ret
  exact ⟨rfl, rfl⟩

/-- errors.Is(k, j), of two kinds -/
theorem is_other (a b : Int) (hab : (a == b) = false) (w : World) :
    Calls Tryd.prog 11 #[.iface 34 (.int .i64 a), .iface 34 (.int .i64 b)] w fun e w' => e = .returned (.bool false) ∧ w = w' := by
  have tT := Tryd.isTypeOf
  have cT := Tryd.isComparable
  have HH := Lib.hid (is_loop_other a b hab w)
  clear hab
  go_enter Tryd.func11, Tryd.ntmps11
  go_wp2_with (go_at_call 24; refine HH.out.mono ?_; rintro e w' ⟨rfl, rfl⟩)
  go_ret
  exact ⟨rfl, rfl⟩
end Go.Proofs.YthfelkcomhflnaaDoor

/- What the small functions of package lex give. -/
namespace Go.Proofs.YthfelkcomhflnaaDoor
open Go.ChangeShapes Go.WideShapes Go.ChangeAt Go.RowKit

theorem isDelimiter_any (x : Int) (w : World) :
    Calls Tryd.prog 57 #[.int .u8 x] w fun e w' => e = .returned (.bool (LM.dlm x)) ∧ w = w' := by
  go_enter Tryd.func57, Tryd.ntmps57
  go_wp2
  all_goals
    go_ret
    refine ⟨ret_b ?_, rfl⟩
    rw [LM.dlm, Bool.eq_iff_iff]
    simp only [beq_iff_eq, beq_eq_false_iff_ne, ne_eq] at *
    simp <;> omega
theorem isNameByte_any (x : Int) (w : World) :
    Calls Tryd.prog 48 #[.int .u8 x] w fun e w' => e = .returned (.bool (LM.nmb x)) ∧ w = w' := by
  cases hd : LM.dlm x
  all_goals
    have hd' := Lib.hid hd
    clear hd
    go_enter Tryd.func48, Tryd.ntmps48
    go_wp2_with (go_at_call 57; refine (isDelimiter_any _ _).mono ?_; rintro e w' ⟨rfl, rfl⟩; rw [hd'.out])
  all_goals
    go_ret
    refine ⟨ret_b ?_, rfl⟩
    have hd := hd'.out
    rw [LM.dlm] at hd
    rw [LM.nmb, Bool.eq_iff_iff]
    simp only [beq_iff_eq, beq_eq_false_iff_ne, ne_eq, decide_eq_true_eq, decide_eq_false_iff_not] at *
    simp <;> omega
theorem Calls.world {P : Program} {f : FuncId} {args : Array Value} {w : World} {v : Value} (h : Calls P f args w fun e w' => e = .returned v ∧ w = w') : Calls P f args w fun e w' => e = .returned v ∧ Went w w' :=
  h.mono fun _ _ ⟨he, hw⟩ => ⟨he, hw ▸ Went.refl w⟩

/-! ### where a word, and where blanks, end -/
theorem drop_cons {s : ByteArray} {k : Nat} (h : k < s.size) : s.data.toList.drop k = s[k] :: s.data.toList.drop (k + 1) := by
  rw [List.drop_eq_getElem_cons (by rw [size_len]; exact h)]; rfl
theorem drop_end {s : ByteArray} {k : Nat} (h : s.size ≤ k) : s.data.toList.drop k = [] := List.drop_of_length_le (by rw [size_len]; exact h)
theorem wln_go {s : ByteArray} {k m : Nat} (h : k < s.size) (H : k + LM.wln (s.data.toList.drop k) = m) (hd : LM.dlm (s[k].toNat : Int) = false) : k + 1 + LM.wln (s.data.toList.drop (k + 1)) = m := by
  rw [drop_cons h, LM.wln, hd] at H
  simp at H; omega
theorem wln_stop {s : ByteArray} {k m : Nat} (h : k < s.size) (H : k + LM.wln (s.data.toList.drop k) = m) (hd : LM.dlm (s[k].toNat : Int) = true) : k = m := by
  rw [drop_cons h, LM.wln, hd] at H
  simpa using H
theorem wln_end {s : ByteArray} {k m : Nat} (h : s.size ≤ k) (H : k + LM.wln (s.data.toList.drop k) = m) : k = m := by
  rw [drop_end h, LM.wln] at H
  simpa using H
theorem ret_n {a b : Nat} (h : a = b) : Ending.returned (.int .i64 (a : Int)) = .returned (.int .i64 (b : Int)) := by rw [h]

theorem skp_go {s : ByteArray} {k m : Nat} {n : Bool} (h : k < s.size) (H : k + LM.skp n (s.data.toList.drop k) = m) (hd : (!LM.nxn n (s[k].toNat : Int) && !LM.blk (s[k].toNat : Int)) = false) : k + 1 + LM.skp (LM.nxn n (s[k].toNat : Int)) (s.data.toList.drop (k + 1)) = m := by
  rw [drop_cons h, LM.skp, hd] at H
  simp at H; omega
theorem skp_stop {s : ByteArray} {k m : Nat} {n : Bool} (h : k < s.size) (H : k + LM.skp n (s.data.toList.drop k) = m) (hd : (!LM.nxn n (s[k].toNat : Int) && !LM.blk (s[k].toNat : Int)) = true) : k = m := by
  rw [drop_cons h, LM.skp, hd] at H
  simpa using H
theorem skp_end {s : ByteArray} {k m : Nat} {n : Bool} (h : s.size ≤ k) (H : k + LM.skp n (s.data.toList.drop k) = m) : k = m := by
  rw [drop_end h, LM.skp] at H
  simpa using H

end Go.Proofs.YthfelkcomhflnaaDoor

/- What the functions of package lex give that make a token without looking far. -/
namespace Go.Proofs.YthfelkcomhflnaaDoor
open Go.ChangeShapes Go.WideShapes Go.ChangeAt Go.RowKit

/-- a token of which no place is known, and an error -/
def tka (T : LM.Tk) : Value := .tuple #[.agg #[.int .i64 T.k, .int .i64 T.n, .string ⟨T.s.toArray⟩, .int .i64 0, .int .i64 0, .int .i64 (T.len : Nat)], er T.e]

/-- do two bytes stand ahead? -/
def pre2 (a b : Int) : List UInt8 → Bool
  | [] => false
  | c :: r => decide ((c.toNat : Int) = a) && decide (LM.hd r = b)
/-- what the walk asks of a string that is no such one -/
theorem lst_no {s : ByteArray} {l : List UInt8} (h : s.data.toList ≠ l) : (s.toList == l) = false := by
  rw [ByteArray.toList_eq]; simpa using h
theorem lst_yes {s : ByteArray} {l : List UInt8} (h : s.data.toList = l) : s = ⟨l.toArray⟩ := by
  cases s; rename_i d; cases d; simp at h; rw [h]

/-- a byte behind a stroke -/
def esv (o : Option UInt8) : Value := match o with
  | none => .tuple #[.int .u8 0, .bool false]
  | some x => .tuple #[.int .u8 x.toNat, .bool true]
/-- a character, or none -/
def cov (n : Int) : Value := if n = -1 then .tuple #[.int .i64 0, .bool false] else .tuple #[.int .i64 n, .bool true]
theorem cho_one {s : ByteArray} (h : s.size = 1) (n : ¬ (s.data.toList = LM.sp1 ∨ s.data.toList = LM.sp2 ∨ s.data.toList = LM.sp3 ∨ s.data.toList = LM.sp4)) :
    LM.cho s.data.toList = if (s[0].toNat : Int) ≤ 32 then -1 else (s[0].toNat : Int) := by
  have e : s.data.toList = [s[0]] := by
    rw [cons_of (s := s) (by omega), List.drop_of_length_le (by rw [size_len]; omega)]
  have n1 : s.data.toList ≠ LM.sp1 := fun h => n (.inl h)
  have n2 : s.data.toList ≠ LM.sp2 := fun h => n (.inr (.inl h))
  have n3 : s.data.toList ≠ LM.sp3 := fun h => n (.inr (.inr (.inl h)))
  have n4 : s.data.toList ≠ LM.sp4 := fun h => n (.inr (.inr (.inr h)))
  unfold LM.cho
  rw [if_neg n1, if_neg n2, if_neg n3, if_neg n4, e]
theorem cho_more {s : ByteArray} (h : 1 < s.size) (n : ¬ (s.data.toList = LM.sp1 ∨ s.data.toList = LM.sp2 ∨ s.data.toList = LM.sp3 ∨ s.data.toList = LM.sp4)) :
    LM.cho s.data.toList = -1 := by
  have n1 : s.data.toList ≠ LM.sp1 := fun h => n (.inl h)
  have n2 : s.data.toList ≠ LM.sp2 := fun h => n (.inr (.inl h))
  have n3 : s.data.toList ≠ LM.sp3 := fun h => n (.inr (.inr (.inl h)))
  have n4 : s.data.toList ≠ LM.sp4 := fun h => n (.inr (.inr (.inr h)))
  unfold LM.cho
  rw [if_neg n1, if_neg n2, if_neg n3, if_neg n4]
  have hl := size_len s
  match he : s.data.toList with
  | [] => rfl
  | [c] => rw [he] at hl; simp at hl; omega
  | _ :: _ :: _ => rfl
end Go.Proofs.YthfelkcomhflnaaDoor

/- What package lex gives of a word: may it be a name, which token is it. -/
namespace Go.Proofs.YthfelkcomhflnaaDoor
open Go.ChangeShapes Go.WideShapes Go.ChangeAt Go.RowKit

/-- errors.Is(nil, k) -/
theorem is_nil (b : Int) (w : World) :
    Calls Tryd.prog 11 #[.nilIface, .iface 34 (.int .i64 b)] w fun e w' => e = .returned (.bool false) ∧ w = w' := by
  have hx : ∀ (v : Value) (w : World), (binOp .eql 27 .nilIface (.iface 34 v)).run Tryd.prog w = .ok (.bool false) w := fun v w => run_eql_iface_nil_left w 34 v Tryd.underlying27
  go_enter Tryd.func11, Tryd.ntmps11
  go_wp2
  go_ret
  exact ⟨rfl, rfl⟩

theorem parse_kind (l : List UInt8) : (FM.okd (FM.body l) = false ∧ FM.parse l = (0, 6)) ∨ (FM.okd (FM.body l) = true ∧ ((∃ n, FM.parse l = (n, 0)) ∨ FM.parse l = (0, 11))) := by
  unfold FM.parse
  cases FM.okd (FM.body l) with
  | false => exact .inl ⟨rfl, rfl⟩
  | true =>
    refine .inr ⟨rfl, ?_⟩
    rw [if_pos rfl]
    unfold FM.bd
    split
    · exact .inl ⟨_, rfl⟩
    · exact .inr rfl

theorem all_go {s : ByteArray} {k : Nat} (h : k < s.size) (H : (s.data.toList.take k).all (fun c => LM.nmb c.toNat) = true) (hd : LM.nmb (s[k].toNat : Int) = true) : (s.data.toList.take (k + 1)).all (fun c => LM.nmb c.toNat) = true := by
  rw [FM.take_snoc s k h, List.all_append, H]; simp [hd]
theorem all_stop {s : ByteArray} {k : Nat} (h : k < s.size) (hd : LM.nmb (s[k].toNat : Int) = false) : s.data.toList.all (fun c => LM.nmb c.toNat) = false := by
  rw [List.all_eq_false]
  exact ⟨s[k], Array.mem_toList_iff.2 (Array.getElem_mem (xs := s.data) h), by simp [hd]⟩
theorem all_end {s : ByteArray} {k : Nat} (h : s.size ≤ k) (H : (s.data.toList.take k).all (fun c => LM.nmb c.toNat) = true) : s.data.toList.all (fun c => LM.nmb c.toNat) = true := by
  rwa [List.take_of_length_le (by rw [size_len]; exact h)] at H

theorem sym_short {s : ByteArray} (h : s.size < 1 ∨ 60 < s.size ∨ s.data.toList = [46]) : LM.sym s.data.toList = false := by
  unfold LM.sym
  rw [size_len, decide_eq_false, Bool.false_and]
  rintro ⟨h1, h2, h3⟩
  rcases h with h | h | h
  · omega
  · omega
  · exact h3 h
theorem sym_of {s : ByteArray} (h1 : 1 ≤ s.size) (h2 : s.size ≤ 60) (h3 : s.data.toList ≠ [46]) : LM.sym s.data.toList = (s.data.toList.all (fun c => LM.nmb c.toNat) && !FM.okd (FM.body s.data.toList)) := by
  unfold LM.sym
  rw [size_len, decide_eq_true ⟨h1, h2, h3⟩, Bool.true_and]

theorem Symbol_any (s : ByteArray) (hs : s.size ≤ 9223372036854775807) (w : World) :
    Calls Tryd.prog 38 #[.string s] w fun e w' => e = .returned (.bool (LM.sym s.data.toList)) ∧ w = w' := by
  by_cases h1 : 1 ≤ s.size
  · obtain ⟨e1, e3⟩ := empty_no h1
    by_cases h2 : 60 < s.size
    · rw [sym_short (.inr (.inl h2))]
      go_enter Tryd.func38, Tryd.ntmps38
      go_wp2
      go_ret
      exact ⟨rfl, rfl⟩
    · by_cases h3 : s.data.toList = [46]
      · rw [sym_short (.inr (.inr h3))]
        obtain rfl := lst_yes h3
        clear h1 h2 h3 e1 e3 hs
        go_enter Tryd.func38, Tryd.ntmps38
        go_wp2
        go_ret
        exact ⟨rfl, rfl⟩
      · rw [sym_of h1 (by omega) h3]
        have f3 := lst_no (s := s) (l := [46]) h3
        clear h3
        have hp := parse_any s hs
        go_enter Tryd.func38, Tryd.ntmps38
        go_wp2
        go_loop [19] (fun i => ∃ k : Nat, k ≤ s.size ∧ i = .int .i64 k ∧ Hid ((s.data.toList.take k).all (fun c => LM.nmb c.toNat) = true)) (fun i => s.size - (intOf i).toNat)
        case atStart => exact ⟨0, Nat.zero_le _, rfl, by simp [Hid]⟩
        case round =>
          obtain ⟨k, hk, rfl, hd⟩ := hrel
          by_cases hlt : k < s.size
          · cases hq : LM.nmb (s[k].toNat : Int)
            · have hn := Lib.hid (all_stop hlt hq)
              have hq' := Lib.hid hq
              clear hq hp
              go_wp2_with (go_at_call 48; refine (isNameByte_any _ _).mono ?_; rintro e w' ⟨rfl, rfl⟩; rw [hq'.out])
              go_ret
              exact ⟨ret_b (by rw [hn.out]; rfl), rfl⟩
            · have hn := Lib.hid (all_go hlt hd.out hq)
              have hq' := Lib.hid hq
              clear hq hp
              go_wp2_with (go_at_call 48; refine (isNameByte_any _ _).mono ?_; rintro e w' ⟨rfl, rfl⟩; rw [hq'.out])
              go_round
              case rel => exact ⟨k + 1, by omega, by go_num, hn⟩
              case measure => simp [intOf]; omega
          · have hn := Lib.hid (all_end (by omega) hd.out)
            rcases parse_kind s.data.toList with ⟨ho, he⟩ | ⟨ho, ⟨n, he⟩ | he⟩
            · rw [he, ans_no _ _ (by omega)] at hp
              have hp' := Lib.hid hp
              have ho' := Lib.hid ho
              clear hp he ho
              go_wp2_with (first
                | (go_at_call 49; refine (hp'.out _).mono ?_; rintro e w' ⟨rfl, rfl⟩)
                | (go_at_call 11; refine (is_same _ _).mono ?_; rintro e w' ⟨rfl, rfl⟩))
              go_ret
              exact ⟨ret_b (by rw [hn.out, ho'.out]; rfl), rfl⟩
            · rw [he, ans_yes] at hp
              have hp' := Lib.hid hp
              have ho' := Lib.hid ho
              clear hp he ho
              go_wp2_with (first
                | (go_at_call 49; refine (hp'.out _).mono ?_; rintro e w' ⟨rfl, rfl⟩)
                | (go_at_call 11; refine (is_nil _ _).mono ?_; rintro e w' ⟨rfl, rfl⟩))
              go_ret
              exact ⟨ret_b (by rw [hn.out, ho'.out]; rfl), rfl⟩
            · rw [he, ans_no _ _ (by omega)] at hp
              have hp' := Lib.hid hp
              have ho' := Lib.hid ho
              clear hp he ho
              go_wp2_with (first
                | (go_at_call 49; refine (hp'.out _).mono ?_; rintro e w' ⟨rfl, rfl⟩)
                | (go_at_call 11; refine (is_other _ _ (by rfl) _).mono ?_; rintro e w' ⟨rfl, rfl⟩))
              go_ret
              exact ⟨ret_b (by rw [hn.out, ho'.out]; rfl), rfl⟩
  · obtain ⟨e1, e3, e4⟩ := empty_yes (s := s) (by omega)
    rw [sym_short (.inl (by omega))]
    clear e4
    go_enter Tryd.func38, Tryd.ntmps38
    go_wp2
    go_ret
    exact ⟨rfl, rfl⟩

theorem bcell {W w1 : World} (hb : Below W.heap.size W w1) : (∀ b o, b < W.heap.size → w1.cell? ⟨b, o, none⟩ = W.cell? ⟨b, o, none⟩) ∧ (∀ b o, b < W.heap.size → w1.frozen? ⟨b, o, none⟩ = W.frozen? ⟨b, o, none⟩) :=
  ⟨fun b o h => hb.cell (p := ⟨b, o, none⟩) h, fun b o h => hb.frozen (p := ⟨b, o, none⟩) h⟩

theorem below_new {w w1 : World} {o : Obj} (hb : Below (w.alloc o).heap.size (w.alloc o) w1) : Below w.heap.size w w1 :=
  ((Below.refl _ w).alloc (Nat.le_refl _) o).trans (hb.mono (by simp))
/-- six cells of a new block -/
theorem below_six {B g : Nat} {a w : World} (h : Below B a w) (hg : B ≤ g) (v0 v1 v2 v3 v4 v5 : Value) :
    Below B a ((((((w.setCell ⟨g, 0, none⟩ v0).setCell ⟨g, 1, none⟩ v1).setCell ⟨g, 2, none⟩ v2).setCell ⟨g, 3, none⟩ v3).setCell ⟨g, 4, none⟩ v4).setCell ⟨g, 5, none⟩ v5) :=
  (((((h.setCell hg v0).setCell hg v1).setCell hg v2).setCell hg v3).setCell hg v4).setCell hg v5

theorem tka_ret {T U : LM.Tk} (h : T = U) {v : Value} (hv : v = tka T) : Ending.returned v = .returned (tka U) := by rw [hv, h]
end Go.Proofs.YthfelkcomhflnaaDoor

/- What package lex gives of a character, a string, and what stands anywhere. -/
namespace Go.Proofs.YthfelkcomhflnaaDoor
open Go.ChangeShapes Go.WideShapes Go.ChangeAt Go.RowKit

theorem extract_drop (s : ByteArray) (k : Nat) : (s.extract k s.size).data.toList = s.data.toList.drop k := Lib.extract_to_end s k
theorem extract_take (s : ByteArray) (k : Nat) : (s.extract 0 k).data.toList = s.data.toList.take k := by simp
theorem chr_cons {s t : ByteArray} {q : Nat} (ht : t.data.toList = s.data.toList.drop 2) (h0 : 1 ≤ t.size) (hq : LM.wln (t.extract 1 t.size).data.toList = q) :
    1 + q ≤ t.size ∧ LM.chr (s.data.toList.drop 2) = if LM.cho (t.extract 0 (1 + q)).data.toList = -1 then LM.bad 6 else LM.tok 11 (LM.cho (t.extract 0 (1 + q)).data.toList) [] (3 + q) := by
  rw [extract_drop] at hq
  have hl := LM.wln_le (t.data.toList.drop 1)
  rw [hq, List.length_drop, size_len] at hl
  refine ⟨by omega, ?_⟩
  rw [extract_take, ← ht, cons_of (s := t) (by omega), LM.chr, hq]
  rw [Nat.add_comm 1 q, List.take_succ_cons]

end Go.Proofs.YthfelkcomhflnaaDoor
