/- What the parser of package fix, and its parts, give: one contract each. -/
import Derived.Test.YtpiekdcbjkgipaaGreatDoorQ1
import Derived.WalkSpells
import Derived.Lib.IndexBytes
import Derived.Test.YtpiekdcbjkgipaaGreatDoorRows
import Derived.WalkKit
import Derived.ProofKit
import Derived.OpenShut
import Derived.LaidEql
import Derived.Stop.Asserts
import Derived.RowKitTokens
import Derived.Handy
import Derived.Lib.Hide
import Derived.Test.YtpiekdcbjkgipaaGreatDoorQ3
import Derived.Test.YtpiekdcbjkgipaaGreatDoorQ2
import Derived.Below
import Derived.Test.YtpiekdcbjkgipaaGreatDoorShelf
import Derived.Lib.Strings
namespace Go.Proofs.YtpiekdcbjkgipaaGreatDoor
open Go.ChangeShapes Go.WideShapes Go.ChangeAt Go.RowKit

/-- what stands behind the sign -/
def bodyS (s : ByteArray) : ByteArray := if FM.body s.data.toList = s.data.toList then s else s.extract 1 s.size
def sgn (s : ByteArray) : Int := if FM.neg s.data.toList then -1 else 1

theorem size_len (s : ByteArray) : s.data.toList.length = s.size := by simp
theorem empty_no {s : ByteArray} (h : 1 ≤ s.size) : s.toList.isEmpty = false ∧ ¬ s.toList = [] := by
  rw [ByteArray.toList_eq]
  have hz := size_len s
  cases he : s.data.toList with
  | nil => rw [he] at hz; simp at hz; omega
  | cons c r => exact ⟨rfl, by simp⟩
theorem empty_yes {s : ByteArray} (h : s.size = 0) : s.toList.isEmpty = true ∧ s.toList = [] ∧ s.data.toList = [] := by
  rw [ByteArray.toList_eq]
  have hz := size_len s
  cases he : s.data.toList with
  | nil => exact ⟨rfl, rfl, rfl⟩
  | cons c r => rw [he] at hz; simp at hz; omega
theorem at_eq (s : ByteArray) (k : Nat) (h : k < s.size) : s.data.toList[k]'(by rw [size_len]; exact h) = s[k] := rfl
theorem cons_of {s : ByteArray} (h : 0 < s.size) : s.data.toList = s[0] :: s.data.toList.drop 1 := by
  have hz := size_len s
  have e := at_eq s 0 h
  cases he : s.data.toList with
  | nil => rw [he] at hz; simp at hz; omega
  | cons c r => simp [he] at e; simp [e]

theorem digs_yes_step {s : ByteArray} {k : Nat} (h : k < s.size) (hk : FM.digs (s.data.toList.take k) = true) (h1 : 48 ≤ (s[k].toNat : Int)) (h2 : (s[k].toNat : Int) ≤ 57) : FM.digs (s.data.toList.take (k + 1)) = true := by
  rw [FM.take_snoc s k h, FM.digs_snoc, hk]; simp [FM.dig]; omega
theorem digs_no_step {s : ByteArray} {k : Nat} (h : k < s.size) (h1 : (s[k].toNat : Int) < 48 ∨ 57 < (s[k].toNat : Int)) : FM.digs s.data.toList = false := by
  refine FM.digs_not _ k (by rw [size_len]; exact h) ?_
  rw [at_eq s k h]; simp [FM.dig]; omega
theorem digs_all {s : ByteArray} {k : Nat} (h : s.size ≤ k) (hk : FM.digs (s.data.toList.take k) = true) : FM.digs s.data.toList = true := by
  rwa [List.take_of_length_le (by rw [size_len]; exact h)] at hk

theorem areDigits_any (s : ByteArray) (hs : s.size ≤ 9223372036854775807) (w : World) :
    Calls Tryz.prog 117 #[.string s] w fun e w' => e = .returned (.bool (FM.okd s.data.toList)) ∧ w = w' := by
  by_cases h : 1 ≤ s.size
  · obtain ⟨e1, e3⟩ := empty_no h
    by_cases h2 : s.size ≤ 30
    · have e2 : FM.okd s.data.toList = FM.digs s.data.toList := by unfold FM.okd; rw [size_len, decide_eq_true ⟨h, h2⟩, Bool.true_and]
      rw [e2]
      clear e2
      go_enter Tryz.func117, Tryz.ntmps117
      go_wp2
      go_loop [13] (fun i => ∃ k : Nat, k ≤ s.size ∧ i = .int .i64 k ∧ Hid (FM.digs (s.data.toList.take k) = true)) (fun i => s.size - (intOf i).toNat)
      case atStart => exact ⟨0, Nat.zero_le _, rfl, by simp [FM.digs, Hid]⟩
      case round =>
        obtain ⟨k, hk, rfl, hd⟩ := hrel
        by_cases hlt : k < s.size
        · by_cases h1 : 48 ≤ (s[k].toNat : Int)
          · by_cases h3 : (s[k].toNat : Int) ≤ 57
            · have hn := digs_yes_step hlt hd.out h1 h3
              have hn' := Lib.hid hn
              clear hn
              go_wp2
              go_round
              case rel => exact ⟨k + 1, by omega, by go_num, hn'⟩
              case measure => simp [intOf]; omega
            · have hn := Lib.hid (digs_no_step hlt (by omega))
              go_wp2
              go_ret
              exact ⟨ret_b hn.out.symm, rfl⟩
          · have hn := Lib.hid (digs_no_step hlt (by omega))
            go_wp2
            go_ret
            exact ⟨ret_b hn.out.symm, rfl⟩
        · go_wp2
          go_ret
          exact ⟨ret_b (digs_all (by omega) hd.out).symm, rfl⟩
    · have e2 : FM.okd s.data.toList = false := by unfold FM.okd; rw [size_len, decide_eq_false (by omega), Bool.false_and]
      rw [e2]
      clear e2
      go_enter Tryz.func117, Tryz.ntmps117
      go_wp2
      go_ret
      exact ⟨rfl, rfl⟩
  · obtain ⟨e1, e3, e4⟩ := empty_yes (s := s) (by omega)
    have e2 : FM.okd s.data.toList = false := by rw [e4]; rfl
    rw [e2]
    clear e2 e4
    go_enter Tryz.func117, Tryz.ntmps117
    go_wp2
    go_ret
    exact ⟨rfl, rfl⟩

theorem unsigned_any (s : ByteArray) (hs : s.size ≤ 9223372036854775807) (w : World) :
    Calls Tryz.prog 116 #[.string s] w fun e w' => e = .returned (.tuple #[.string (bodyS s), .int .i64 (sgn s)]) ∧ w = w' := by
  by_cases h : 1 ≤ s.size
  · obtain ⟨e1, e3⟩ := empty_no h
    have hc := cons_of (s := s) (by omega)
    by_cases h5 : s[0] = 45
    · have eb : bodyS s = s.extract 1 s.size := by
        unfold bodyS; rw [if_neg]; rw [hc, h5]; simp only [FM.body, true_or, if_true]
        intro e; have := congrArg List.length e; simp at this
      have es : sgn s = -1 := by unfold sgn; rw [hc, h5]; rfl
      rw [eb, es]
      have b1 : ((s[0].toNat : Int) == 45) = true := by rw [h5]; rfl
      clear eb es hc h5
      go_enter Tryz.func116, Tryz.ntmps116
      go_wp2
      go_ret2
      exact ⟨rfl, rfl⟩
    · have b1 : ((s[0].toNat : Int) == 45) = false := by
        simp only [beq_eq_false_iff_ne, ne_eq]; intro e; apply h5; apply UInt8.toNat_inj.1; show s[0].toNat = 45; omega
      have es : sgn s = 1 := by unfold sgn; rw [hc]; simp [FM.neg, h5]
      by_cases h6 : s[0] = 43
      · have eb : bodyS s = s.extract 1 s.size := by
          unfold bodyS; rw [if_neg]; rw [hc, h6]; simp only [FM.body, or_true, if_true]
          intro e; have := congrArg List.length e; simp at this
        rw [eb, es]
        have b2 : ((s[0].toNat : Int) == 43) = true := by rw [h6]; rfl
        clear eb es hc h5 h6
        go_enter Tryz.func116, Tryz.ntmps116
        go_wp2
        go_ret2
        exact ⟨rfl, rfl⟩
      · have eb : bodyS s = s := by
          unfold bodyS; rw [if_pos]; rw [hc]; simp [FM.body, h5, h6]
        rw [eb, es]
        have b2 : ((s[0].toNat : Int) == 43) = false := by
          simp only [beq_eq_false_iff_ne, ne_eq]; intro e; apply h6; apply UInt8.toNat_inj.1; show s[0].toNat = 43; omega
        clear eb es hc h5 h6
        go_enter Tryz.func116, Tryz.ntmps116
        go_wp2
        go_ret2
        exact ⟨rfl, rfl⟩
  · obtain ⟨e1, e3, e4⟩ := empty_yes (s := s) (by omega)
    have eb : bodyS s = s := by unfold bodyS; rw [e4]; rfl
    have es : sgn s = 1 := by unfold sgn; rw [e4]; rfl
    rw [eb, es]
    clear eb es e4
    go_enter Tryz.func116, Tryz.ntmps116
    go_wp2
    go_ret2
    exact ⟨rfl, rfl⟩

theorem body_data (s : ByteArray) : (bodyS s).data.toList = FM.body s.data.toList ∧ (bodyS s).size ≤ s.size := by
  unfold bodyS
  split
  · rename_i h; exact ⟨h.symm, Nat.le_refl _⟩
  · rename_i h
    refine ⟨?_, by simp⟩
    rw [Lib.extract_to_end]
    cases he : s.data.toList with
    | nil => rfl
    | cons c r =>
      rw [he] at h
      by_cases hc : c = 45 ∨ c = 43
      · simp [FM.body, hc]
      · exact absurd (by simp [FM.body, hc]) h

theorem follow_any (n d : Int) (hn : FM.num n = true) (hd : -9 ≤ d) (hd' : d ≤ 9) (w : World) :
    Calls Tryz.prog 118 #[.int .i64 n, .int .i64 d] w fun e w' => e = .returned (ans (FM.fo n d)) ∧ w = w' := by
  have hm := mul_any n 10
  have hq := add_any (n * 10) d
  rw [FM.mul, both_yes hn (by kernel_rfl)] at hm
  unfold FM.fo
  rw [FM.bd] at hm
  cases h1 : FM.num (n * 10)
  · rw [h1, if_neg (by simp), ans_no _ _ (by omega)] at hm
    rw [if_neg (by simp), ans_no _ _ (by omega)]
    have hm' := Lib.hid hm
    clear hm hq hn h1
    go_enter Tryz.func118, Tryz.ntmps118
    go_wp2_with (go_at_call 124; refine (hm'.out _).mono ?_; rintro e w' ⟨rfl, rfl⟩)
    go_ret2
    exact ⟨rfl, rfl⟩
  · rw [h1, if_pos rfl, ans_yes] at hm
    rw [if_pos rfl]
    have hb := FM.num_yes h1
    rw [FM.add, both_yes h1 (FM.num_mk (by omega))] at hq
    have hm' := Lib.hid hm
    have hq' := Lib.hid hq
    clear hm hq hn h1
    go_enter Tryz.func118, Tryz.ntmps118
    go_wp2_with (first
      | (go_at_call 124; refine (hm'.out _).mono ?_; rintro e w' ⟨rfl, rfl⟩)
      | (go_at_call 125; refine (hq'.out _).mono ?_; rintro e w' ⟨rfl, rfl⟩; unfold ans))
    go_ret2
    exact ⟨rfl, rfl⟩

/-- what the parser's loop holds: the digits so far, with the sign -/
theorem round_yes {s : ByteArray} {k : Nat} (h : k < s.size) (hd : FM.digs s.data.toList = true) (g : Int) (hg : g = 1 ∨ g = -1) :
    48 ≤ (s[k].toNat : Int) ∧ (s[k].toNat : Int) ≤ 57 ∧ 0 ≤ FM.val (s.data.toList.take k)
    ∧ FM.fo (g * FM.val (s.data.toList.take k)) (g * ((s[k].toNat : Int) - 48)) = FM.bd (g * FM.val (s.data.toList.take (k + 1))) := by
  have h1 := FM.dig_yes (FM.digs_at _ k hd (by rw [size_len]; exact h))
  rw [at_eq s k h] at h1
  have h2 := FM.val_nonneg _ (FM.digs_take _ k hd)
  refine ⟨h1.1, h1.2, h2, ?_⟩
  have e : FM.val (s.data.toList.take (k + 1)) = FM.val (s.data.toList.take k) * 10 + ((s[k].toNat : Int) - 48) := by
    rw [FM.take_snoc s k h, FM.val_snoc]
  rw [e, FM.fo_eq]
  · congr 1; rcases hg with rfl | rfl <;> omega
  · rcases hg with rfl | rfl <;> omega
theorem over_all {s : ByteArray} (k : Nat) (hd : FM.digs s.data.toList = true) (g : Int) (hg : g = 1 ∨ g = -1) (h : FM.num (g * FM.val (s.data.toList.take k)) = false) :
    FM.bd (g * FM.val s.data.toList) = (0, 11) := by
  have h1 := FM.val_take _ k hd
  have h2 := FM.val_nonneg _ (FM.digs_take _ k hd)
  have h3 := FM.num_no h
  have : FM.num (g * FM.val s.data.toList) = false := by
    apply FM.num_mk_no
    rcases hg with rfl | rfl <;> omega
  rw [FM.bd, this, if_neg (by simp)]

set_option maxHeartbeats 400000 in
theorem parse_any (s : ByteArray) (hs : s.size ≤ 9223372036854775807) (w : World) :
    Calls Tryz.prog 102 #[.string s] w fun e w' => e = .returned (ans (FM.parse s.data.toList)) ∧ w = w' := by
  obtain ⟨hb, hbs⟩ := body_data s
  have ha := areDigits_any (bodyS s) (by omega)
  have hu := unsigned_any s hs
  have hsg : sgn s = 1 ∨ sgn s = -1 := by unfold sgn; split <;> simp
  have hsv : FM.sv s.data.toList = sgn s * FM.val (bodyS s).data.toList := by
    rw [hb]; unfold FM.sv sgn; split <;> simp
  have hp : FM.parse s.data.toList = if FM.okd (bodyS s).data.toList then FM.bd (sgn s * FM.val (bodyS s).data.toList) else (0, 6) := by
    rw [FM.parse, hsv, ← hb]
  rw [hp]
  clear hp hsv hb
  generalize bodyS s = t at *
  generalize sgn s = g at *
  have hu' := Lib.hid hu
  clear hu
  have htz : t.size ≤ 9223372036854775807 := by omega
  cases hok : FM.okd t.data.toList
  · rw [hok] at ha
    rw [if_neg (by simp), ans_no _ _ (by omega)]
    have ha' := Lib.hid ha
    clear ha hok hsg
    go_enter Tryz.func102, Tryz.ntmps102
    go_wp2_with (first
      | (go_at_call 116; refine (hu'.out _).mono ?_; rintro e w' ⟨rfl, rfl⟩)
      | (go_at_call 117; refine (ha'.out _).mono ?_; rintro e w' ⟨rfl, rfl⟩))
    go_ret2
    exact ⟨rfl, rfl⟩
  · rw [hok] at ha
    rw [if_pos rfl]
    have hd := Lib.hid (FM.okd_digs hok)
    have ha' := Lib.hid ha
    clear ha hok
    go_enter Tryz.func102, Tryz.ntmps102
    go_wp2_with (first
      | (go_at_call 116; refine (hu'.out _).mono ?_; rintro e w' ⟨rfl, rfl⟩)
      | (go_at_call 117; refine (ha'.out _).mono ?_; rintro e w' ⟨rfl, rfl⟩))
    go_loop [6, 20] (fun n i => ∃ k : Nat, k ≤ t.size ∧ i = .int .i64 k ∧ n = .int .i64 (g * FM.val (t.data.toList.take k)) ∧ Hid (FM.num (g * FM.val (t.data.toList.take k)) = true)) (fun _ i => t.size - (intOf i).toNat)
    case atStart => exact ⟨0, Nat.zero_le _, rfl, by simp [FM.val], by simp [FM.val, Hid]; kernel_rfl⟩
    case round =>
      obtain ⟨k, hk, rfl, rfl, hn⟩ := hrel
      by_cases hlt : k < t.size
      · obtain ⟨d1, d2, v0, hfo⟩ := round_yes hlt hd.out g hsg
        have hgd : -9 ≤ g * ((t[k].toNat : Int) - 48) ∧ g * ((t[k].toNat : Int) - 48) ≤ 9 := by rcases hsg with rfl | rfl <;> omega
        have hf := follow_any (g * FM.val (t.data.toList.take k)) (g * ((t[k].toNat : Int) - 48)) hn.out hgd.1 hgd.2
        rw [hfo] at hf
        have hf' := Lib.hid hf
        clear hfo hf
        cases hn1 : FM.num (g * FM.val (t.data.toList.take (k + 1)))
        · have ho := Lib.hid (over_all (k + 1) hd.out g hsg hn1)
          have e1 : FM.bd (g * FM.val (t.data.toList.take (k + 1))) = (0, 11) := by rw [FM.bd, hn1, if_neg (by simp)]
          rw [e1, ans_no _ _ (by omega)] at hf'
          clear e1 hn1
          rcases hsg with rfl | rfl
          all_goals
            simp only [Int.neg_mul, Int.one_mul] at hf'
            go_wp2_with (go_at_call 118; refine (hf'.out _).mono ?_; rintro e w' ⟨rfl, rfl⟩)
            go_ret2
            refine ⟨?_, rfl⟩
            rw [ho.out, ans_no _ _ (by omega)]
            rfl
        · have hn2 := Lib.hid hn1
          have e1 : FM.bd (g * FM.val (t.data.toList.take (k + 1))) = (g * FM.val (t.data.toList.take (k + 1)), 0) := by rw [FM.bd, hn1, if_pos rfl]
          rw [e1, ans_yes] at hf'
          clear e1 hn1
          rcases hsg with rfl | rfl
          all_goals
            simp only [Int.neg_mul, Int.one_mul] at hf'
            go_wp2_with (go_at_call 118; refine (hf'.out _).mono ?_; rintro e w' ⟨rfl, rfl⟩)
            go_round
            case rel => exact ⟨k + 1, by omega, by go_num, by simp only [Int.neg_mul, Int.one_mul], hn2⟩
            case measure => simp [intOf]; omega
      · have ek : t.data.toList.take k = t.data.toList := List.take_of_length_le (by rw [size_len]; omega)
        rw [ek] at hn ⊢
        have e1 := Lib.hid (show FM.bd (g * FM.val t.data.toList) = (g * FM.val t.data.toList, 0) by rw [FM.bd, hn.out, if_pos rfl])
        clear ek
        go_wp2
        go_ret2
        refine ⟨?_, rfl⟩
        rw [e1.out, ans_yes]
        rfl
end Go.Proofs.YtpiekdcbjkgipaaGreatDoor

/- errors.Is over two errors that are kinds of package api, bare (not wrapped): true just if they are the same kind. Go's own text of errors.Is is walked. -/
namespace Go.Proofs.YtpiekdcbjkgipaaGreatDoor
open Go.RowKit Go.Extern.Stop Go.Stop Go.Extern

section
variable {P : Program} (w : World)
theorem run_equalIn_iface_int (d : Nat) {ti tn : TypeId} {ms : Array (String × TypeId)} {i : TypeInfo} {k : IntKind} (a b : Int)
    (hi : P.underlying ti = some (.interface ms)) (hn : P.underlying tn = some (.int k)) (hinfo : P.info? tn = some i) (hcomp : i.comparable = true) :
    (Op.equalIn (d + 2) ti (.iface tn (.int k a)) (.iface tn (.int k b))).run P w = .ok (a == b) w := by
  simp [Op.equalIn, run_underlying hi, run_underlying hn, typeInfo, hinfo, hcomp]
/-- two interface values of one integer type are equal as their numbers are -/
theorem run_eql_iface_int {ti tn : TypeId} {ms : Array (String × TypeId)} {i : TypeInfo} {k : IntKind} (a b : Int)
    (hi : P.underlying ti = some (.interface ms)) (hn : P.underlying tn = some (.int k)) (hinfo : P.info? tn = some i) (hcomp : i.comparable = true) :
    (binOp .eql ti (.iface tn (.int k a)) (.iface tn (.int k b))).run P w = .ok (.bool (a == b)) w := by
  simp only [binOp]
  simp [Op.equal, Op.maxDepth, run_equalIn_iface_int w 9998 a b hi hn hinfo hcomp]
end

theorem Tryz.isTypeOf (v : Value) (w : World) : (callFunc 33 #[.iface 37 v]).run Tryz.prog w = .ok (.value (.iface 75 (.agg #[.pointer (some ⟨3, 37, none⟩)]))) w := by kernel_rfl
theorem Tryz.isComparable (w : World) : (callFunc 168 #[.agg #[.pointer (some ⟨3, 37, none⟩)]]).run Tryz.prog w = .ok (.value (.bool true)) w := by kernel_rfl
theorem Tryz.isComp : (Tryz.prog.info? 37).map (·.comparable) = some true := by kernel_rfl

theorem is_loop_same (a : Int) (w : World) :
    Calls Tryz.prog 34 #[.iface 37 (.int .i64 a), .iface 37 (.int .i64 a), .bool true] w fun e w' => e = .returned (.bool true) ∧ w = w' := by
  obtain ⟨i, hi, hcmp⟩ := Option.map_eq_some_iff.1 Tryz.isComp
  have heq := fun w => run_eql_iface_int (P := Tryz.prog) w a a Tryz.underlying32 Tryz.underlying37 hi hcmp
  simp only [beq_self_eq_true] at heq
  clear hi hcmp
  go_enter Tryz.func34, Tryz.ntmps34
  go_wp2
  refine wp_loop_rounds 1 ?_
  rw [rounds_succ]
  go_wp2
  go_ret
  exact ⟨rfl, rfl⟩

/-- errors.Is(k, k), k a kind -/
theorem is_same (a : Int) (w : World) :
    Calls Tryz.prog 14 #[.iface 37 (.int .i64 a), .iface 37 (.int .i64 a)] w fun e w' => e = .returned (.bool true) ∧ w = w' := by
  have tT := Tryz.isTypeOf
  have cT := Tryz.isComparable
  go_enter Tryz.func14, Tryz.ntmps14
  go_wp2_with (go_at_call 34; refine (is_loop_same _ _).mono ?_; rintro e w' ⟨rfl, rfl⟩)
  go_ret
  exact ⟨rfl, rfl⟩

theorem Tryz.noIs (v : Value) (xT : TypeId) (w : World) : (Instr.typeAssert (.iface 37 v) xT 77 true).run Tryz.prog w = .ok (.tuple #[.nilIface, .bool false]) w := run_typeAssert_lacksB Tryz.underlying77 (by kernel_rfl) (by kernel_rfl) v xT w
theorem Tryz.noUnwrap (v : Value) (xT : TypeId) (w : World) : (Instr.typeAssert (.iface 37 v) xT 80 true).run Tryz.prog w = .ok (.tuple #[.nilIface, .bool false]) w := run_typeAssert_lacksB Tryz.underlying80 (by kernel_rfl) (by kernel_rfl) v xT w
theorem Tryz.noUnwraps (v : Value) (xT : TypeId) (w : World) : (Instr.typeAssert (.iface 37 v) xT 82 true).run Tryz.prog w = .ok (.tuple #[.nilIface, .bool false]) w := run_typeAssert_lacksB Tryz.underlying82 (by kernel_rfl) (by kernel_rfl) v xT w

theorem is_loop_other (a b : Int) (hab : (a == b) = false) (w : World) :
    Calls Tryz.prog 34 #[.iface 37 (.int .i64 a), .iface 37 (.int .i64 b), .bool true] w fun e w' => e = .returned (.bool false) ∧ w = w' := by
  obtain ⟨i, hi, hcmp⟩ := Option.map_eq_some_iff.1 Tryz.isComp
  have heq := fun w => run_eql_iface_int (P := Tryz.prog) w a b Tryz.underlying32 Tryz.underlying37 hi hcmp
  simp only [hab] at heq
  clear hi hcmp hab
  have n1 := Tryz.noIs
  have n2 := Tryz.noUnwrap
  have n3 := Tryz.noUnwraps
  go_enter Tryz.func34, Tryz.ntmps34
  go_wp2
  refine wp_loop_rounds 1 ?_
  rw [rounds_succ]
  go_wp2
  go_ret
  exact ⟨rfl, rfl⟩

/-- errors.Is(k, j), of two kinds -/
theorem is_other (a b : Int) (hab : (a == b) = false) (w : World) :
    Calls Tryz.prog 14 #[.iface 37 (.int .i64 a), .iface 37 (.int .i64 b)] w fun e w' => e = .returned (.bool false) ∧ w = w' := by
  have tT := Tryz.isTypeOf
  have cT := Tryz.isComparable
  have HH := Lib.hid (is_loop_other a b hab w)
  clear hab
  go_enter Tryz.func14, Tryz.ntmps14
  go_wp2_with (go_at_call 34; refine HH.out.mono ?_; rintro e w' ⟨rfl, rfl⟩)
  go_ret
  exact ⟨rfl, rfl⟩
end Go.Proofs.YtpiekdcbjkgipaaGreatDoor

/- What the small functions of package lex give. -/
namespace Go.Proofs.YtpiekdcbjkgipaaGreatDoor
open Go.ChangeShapes Go.WideShapes Go.ChangeAt Go.RowKit

theorem isDelimiter_any (x : Int) (w : World) :
    Calls Tryz.prog 115 #[.int .u8 x] w fun e w' => e = .returned (.bool (LM.dlm x)) ∧ w = w' := by
  go_enter Tryz.func115, Tryz.ntmps115
  go_wp2
  all_goals
    go_ret
    refine ⟨ret_b ?_, rfl⟩
    rw [LM.dlm, Bool.eq_iff_iff]
    simp only [beq_iff_eq, beq_eq_false_iff_ne, ne_eq] at *
    simp <;> omega
theorem isNameByte_any (x : Int) (w : World) :
    Calls Tryz.prog 101 #[.int .u8 x] w fun e w' => e = .returned (.bool (LM.nmb x)) ∧ w = w' := by
  cases hd : LM.dlm x
  all_goals
    have hd' := Lib.hid hd
    clear hd
    go_enter Tryz.func101, Tryz.ntmps101
    go_wp2_with (go_at_call 115; refine (isDelimiter_any _ _).mono ?_; rintro e w' ⟨rfl, rfl⟩; rw [hd'.out])
  all_goals
    go_ret
    refine ⟨ret_b ?_, rfl⟩
    have hd := hd'.out
    rw [LM.dlm] at hd
    rw [LM.nmb, Bool.eq_iff_iff]
    simp only [beq_iff_eq, beq_eq_false_iff_ne, ne_eq, decide_eq_true_eq, decide_eq_false_iff_not] at *
    simp <;> omega
theorem Calls.world {P : Program} {f : FuncId} {args : Array Value} {w : World} {v : Value} (h : Calls P f args w fun e w' => e = .returned v ∧ w = w') : Calls P f args w fun e w' => e = .returned v ∧ Went w w' :=
  h.mono fun _ _ ⟨he, hw⟩ => ⟨he, hw ▸ Went.refl w⟩

/-! ### where a word, and where blanks, end -/
end Go.Proofs.YtpiekdcbjkgipaaGreatDoor

/- What the functions of package lex give that make a token without looking far. -/
namespace Go.Proofs.YtpiekdcbjkgipaaGreatDoor
open Go.ChangeShapes Go.WideShapes Go.ChangeAt Go.RowKit

/-- what the walk asks of a string that is no such one -/
theorem lst_no {s : ByteArray} {l : List UInt8} (h : s.data.toList ≠ l) : (s.toList == l) = false := by
  rw [ByteArray.toList_eq]; simpa using h
theorem lst_yes {s : ByteArray} {l : List UInt8} (h : s.data.toList = l) : s = ⟨l.toArray⟩ := by
  cases s; rename_i d; cases d; simp at h; rw [h]

end Go.Proofs.YtpiekdcbjkgipaaGreatDoor

/- What package lex gives of a word: may it be a name, which token is it. -/
namespace Go.Proofs.YtpiekdcbjkgipaaGreatDoor
open Go.ChangeShapes Go.WideShapes Go.ChangeAt Go.RowKit

/-- errors.Is(nil, k) -/
theorem is_nil (b : Int) (w : World) :
    Calls Tryz.prog 14 #[.nilIface, .iface 37 (.int .i64 b)] w fun e w' => e = .returned (.bool false) ∧ w = w' := by
  have hx : ∀ (v : Value) (w : World), (binOp .eql 32 .nilIface (.iface 37 v)).run Tryz.prog w = .ok (.bool false) w := fun v w => run_eql_iface_nil_left w 37 v Tryz.underlying32
  go_enter Tryz.func14, Tryz.ntmps14
  go_wp2
  go_ret
  exact ⟨rfl, rfl⟩

theorem parse_kind (l : List UInt8) : (FM.okd (FM.body l) = false ∧ FM.parse l = (0, 6)) ∨ (FM.okd (FM.body l) = true ∧ ((∃ n, FM.parse l = (n, 0)) ∨ FM.parse l = (0, 11))) := by
  unfold FM.parse
  cases FM.okd (FM.body l) with
  | false => exact .inl ⟨rfl, rfl⟩
  | true =>
    refine .inr ⟨rfl, ?_⟩
    rw [if_pos rfl]
    unfold FM.bd
    split
    · exact .inl ⟨_, rfl⟩
    · exact .inr rfl

theorem all_go {s : ByteArray} {k : Nat} (h : k < s.size) (H : (s.data.toList.take k).all (fun c => LM.nmb c.toNat) = true) (hd : LM.nmb (s[k].toNat : Int) = true) : (s.data.toList.take (k + 1)).all (fun c => LM.nmb c.toNat) = true := by
  rw [FM.take_snoc s k h, List.all_append, H]; simp [hd]
theorem all_stop {s : ByteArray} {k : Nat} (h : k < s.size) (hd : LM.nmb (s[k].toNat : Int) = false) : s.data.toList.all (fun c => LM.nmb c.toNat) = false := by
  rw [List.all_eq_false]
  exact ⟨s[k], Array.mem_toList_iff.2 (Array.getElem_mem (xs := s.data) h), by simp [hd]⟩
theorem all_end {s : ByteArray} {k : Nat} (h : s.size ≤ k) (H : (s.data.toList.take k).all (fun c => LM.nmb c.toNat) = true) : s.data.toList.all (fun c => LM.nmb c.toNat) = true := by
  rwa [List.take_of_length_le (by rw [size_len]; exact h)] at H

theorem sym_short {s : ByteArray} (h : s.size < 1 ∨ 60 < s.size ∨ s.data.toList = [46]) : LM.sym s.data.toList = false := by
  unfold LM.sym
  rw [size_len, decide_eq_false, Bool.false_and]
  rintro ⟨h1, h2, h3⟩
  rcases h with h | h | h
  · omega
  · omega
  · exact h3 h
theorem sym_of {s : ByteArray} (h1 : 1 ≤ s.size) (h2 : s.size ≤ 60) (h3 : s.data.toList ≠ [46]) : LM.sym s.data.toList = (s.data.toList.all (fun c => LM.nmb c.toNat) && !FM.okd (FM.body s.data.toList)) := by
  unfold LM.sym
  rw [size_len, decide_eq_true ⟨h1, h2, h3⟩, Bool.true_and]

theorem Symbol_any (s : ByteArray) (hs : s.size ≤ 9223372036854775807) (w : World) :
    Calls Tryz.prog 73 #[.string s] w fun e w' => e = .returned (.bool (LM.sym s.data.toList)) ∧ w = w' := by
  by_cases h1 : 1 ≤ s.size
  · obtain ⟨e1, e3⟩ := empty_no h1
    by_cases h2 : 60 < s.size
    · rw [sym_short (.inr (.inl h2))]
      go_enter Tryz.func73, Tryz.ntmps73
      go_wp2
      go_ret
      exact ⟨rfl, rfl⟩
    · by_cases h3 : s.data.toList = [46]
      · rw [sym_short (.inr (.inr h3))]
        obtain rfl := lst_yes h3
        clear h1 h2 h3 e1 e3 hs
        go_enter Tryz.func73, Tryz.ntmps73
        go_wp2
        go_ret
        exact ⟨rfl, rfl⟩
      · rw [sym_of h1 (by omega) h3]
        have f3 := lst_no (s := s) (l := [46]) h3
        clear h3
        have hp := parse_any s hs
        go_enter Tryz.func73, Tryz.ntmps73
        go_wp2
        go_loop [19] (fun i => ∃ k : Nat, k ≤ s.size ∧ i = .int .i64 k ∧ Hid ((s.data.toList.take k).all (fun c => LM.nmb c.toNat) = true)) (fun i => s.size - (intOf i).toNat)
        case atStart => exact ⟨0, Nat.zero_le _, rfl, by simp [Hid]⟩
        case round =>
          obtain ⟨k, hk, rfl, hd⟩ := hrel
          by_cases hlt : k < s.size
          · cases hq : LM.nmb (s[k].toNat : Int)
            · have hn := Lib.hid (all_stop hlt hq)
              have hq' := Lib.hid hq
              clear hq hp
              go_wp2_with (go_at_call 101; refine (isNameByte_any _ _).mono ?_; rintro e w' ⟨rfl, rfl⟩; rw [hq'.out])
              go_ret
              exact ⟨ret_b (by rw [hn.out]; rfl), rfl⟩
            · have hn := Lib.hid (all_go hlt hd.out hq)
              have hq' := Lib.hid hq
              clear hq hp
              go_wp2_with (go_at_call 101; refine (isNameByte_any _ _).mono ?_; rintro e w' ⟨rfl, rfl⟩; rw [hq'.out])
              go_round
              case rel => exact ⟨k + 1, by omega, by go_num, hn⟩
              case measure => simp [intOf]; omega
          · have hn := Lib.hid (all_end (by omega) hd.out)
            rcases parse_kind s.data.toList with ⟨ho, he⟩ | ⟨ho, ⟨n, he⟩ | he⟩
            · rw [he, ans_no _ _ (by omega)] at hp
              have hp' := Lib.hid hp
              have ho' := Lib.hid ho
              clear hp he ho
              go_wp2_with (first
                | (go_at_call 102; refine (hp'.out _).mono ?_; rintro e w' ⟨rfl, rfl⟩)
                | (go_at_call 14; refine (is_same _ _).mono ?_; rintro e w' ⟨rfl, rfl⟩))
              go_ret
              exact ⟨ret_b (by rw [hn.out, ho'.out]; rfl), rfl⟩
            · rw [he, ans_yes] at hp
              have hp' := Lib.hid hp
              have ho' := Lib.hid ho
              clear hp he ho
              go_wp2_with (first
                | (go_at_call 102; refine (hp'.out _).mono ?_; rintro e w' ⟨rfl, rfl⟩)
                | (go_at_call 14; refine (is_nil _ _).mono ?_; rintro e w' ⟨rfl, rfl⟩))
              go_ret
              exact ⟨ret_b (by rw [hn.out, ho'.out]; rfl), rfl⟩
            · rw [he, ans_no _ _ (by omega)] at hp
              have hp' := Lib.hid hp
              have ho' := Lib.hid ho
              clear hp he ho
              go_wp2_with (first
                | (go_at_call 102; refine (hp'.out _).mono ?_; rintro e w' ⟨rfl, rfl⟩)
                | (go_at_call 14; refine (is_other _ _ (by rfl) _).mono ?_; rintro e w' ⟨rfl, rfl⟩))
              go_ret
              exact ⟨ret_b (by rw [hn.out, ho'.out]; rfl), rfl⟩
  · obtain ⟨e1, e3, e4⟩ := empty_yes (s := s) (by omega)
    rw [sym_short (.inl (by omega))]
    clear e4
    go_enter Tryz.func73, Tryz.ntmps73
    go_wp2
    go_ret
    exact ⟨rfl, rfl⟩

end Go.Proofs.YtpiekdcbjkgipaaGreatDoor

/- More of the plain mathematics of layer 7: what begins with a sharp. No dump is read here. -/
namespace Go.Proofs.YtpiekdcbjkgipaaGreatDoor.LM
open Go.RowKit

/-- does a token end there? -/
def en : List UInt8 → Bool
  | [] => true
  | c :: _ => dlm c.toNat
def nm : Nat → List UInt8
  | 0 => sp1
  | 1 => sp2
  | 2 => sp3
  | _ => sp4
end Go.Proofs.YtpiekdcbjkgipaaGreatDoor.LM

/- What the document's own parser gives. -/
namespace Go.Proofs.YtpiekdcbjkgipaaGreatDoor
open Go.ChangeShapes Go.WideShapes Go.ChangeAt Go.RowKit

/-- the parser's answer behind the sign -/
def ends (ng : Bool) (t : ByteArray) : Int × Int := if FM.okd t.data.toList then FM.bd (if ng then -(FM.val t.data.toList) else FM.val t.data.toList) else (0, 6)
end Go.Proofs.YtpiekdcbjkgipaaGreatDoor
