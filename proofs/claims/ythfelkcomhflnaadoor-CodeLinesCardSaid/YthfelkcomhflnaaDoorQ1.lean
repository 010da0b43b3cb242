/- What each call of package fix on two numbers gives: one contract a function. -/
import Derived.Test.YthfelkcomhflnaaDoorRows
import Derived.Test.YthfelkcomhflnaaDoorFixMath
import Derived.WalkKit
import Derived.ProofKit
import Derived.OpenShut
import Derived.Deep.QuietTactic
import Derived.BigQuiet
import Derived.Lib.Hide
import Derived.Lib.ItoaLen
namespace Go.Proofs.YthfelkcomhflnaaDoor
open Go.ChangeShapes Go.WideShapes Go.ChangeAt Go.RowKit

theorem ret_i {k : IntKind} {a b : Int} (h : a = b) : Ending.returned (.int k a) = .returned (.int k b) := by rw [h]
theorem ret_b {a b : Bool} (h : a = b) : Ending.returned (.bool a) = .returned (.bool b) := by rw [h]
/-- the error of that kind, or none -/
def er (k : Int) : Value := if k = 0 then .nilIface else .iface 34 (.int .i64 k)
/-- a number and an error -/
def ans (p : Int × Int) : Value := .tuple #[.int .i64 p.1, er p.2]
theorem ans_yes (n : Int) : ans (n, 0) = .tuple #[.int .i64 n, .nilIface] := rfl
theorem ans_no (n k : Int) (h : k ≠ 0) : ans (n, k) = .tuple #[.int .i64 n, .iface 34 (.int .i64 k)] := by unfold ans er; simp only [if_neg h]

theorem isNumber_any (a : Int) (w : World) :
    Calls Tryd.prog 75 #[.int .i64 a] w fun e w' => e = .returned (.bool (FM.num a)) ∧ w = w' := by
  go_enter Tryd.func75, Tryd.ntmps75
  go_wp2
  all_goals
    go_ret
    refine ⟨ret_b ?_, rfl⟩
    simp [FM.num] <;> omega

theorem bounded_any (a : Int) (w : World) :
    Calls Tryd.prog 76 #[.int .i64 a] w fun e w' => e = .returned (ans (FM.bd a)) ∧ w = w' := by
  cases h : FM.num a
  · rw [FM.bd, h, if_neg (by simp), ans_no _ _ (by omega)]
    go_enter Tryd.func76, Tryd.ntmps76
    go_wp2_with (go_at_call 75; refine (isNumber_any _ _).mono ?_; rintro e w' ⟨rfl, rfl⟩)
    go_ret2
    exact ⟨rfl, rfl⟩
  · rw [FM.bd, h, if_pos rfl, ans_yes]
    go_enter Tryd.func76, Tryd.ntmps76
    go_wp2_with (go_at_call 75; refine (isNumber_any _ _).mono ?_; rintro e w' ⟨rfl, rfl⟩)
    go_ret2
    exact ⟨rfl, rfl⟩
end Go.Proofs.YthfelkcomhflnaaDoor

/- What the six calls of package fix on two numbers give: one contract each. -/
namespace Go.Proofs.YthfelkcomhflnaaDoor
open Go.ChangeShapes Go.WideShapes Go.ChangeAt Go.RowKit

theorem both_no {a b : Int} (h : FM.num a = false ∨ FM.num b = false) (x : Int × Int) : FM.both a b x = (0, 2) := by
  unfold FM.both; rcases h with h | h <;> simp [h]
theorem both_yes {a b : Int} (ha : FM.num a = true) (hb : FM.num b = true) (x : Int × Int) : FM.both a b x = x := by
  unfold FM.both; simp [ha, hb]

theorem add_any (a b : Int) (w : World) :
    Calls Tryd.prog 66 #[.int .i64 a, .int .i64 b] w fun e w' => e = .returned (ans (FM.add a b)) ∧ w = w' := by
  cases ha : FM.num a
  · rw [FM.add, both_no (.inl ha), ans_no _ _ (by omega)]
    go_enter Tryd.func66, Tryd.ntmps66
    go_wp2_with (go_at_call 75; refine (isNumber_any _ _).mono ?_; rintro e w' ⟨rfl, rfl⟩)
    go_ret2
    exact ⟨rfl, rfl⟩
  · cases hb : FM.num b
    · rw [FM.add, both_no (.inr hb), ans_no _ _ (by omega)]
      go_enter Tryd.func66, Tryd.ntmps66
      go_wp2_with (go_at_call 75; refine (isNumber_any _ _).mono ?_; rintro e w' ⟨rfl, rfl⟩)
      go_ret2
      exact ⟨rfl, rfl⟩
    · rw [FM.add, both_yes ha hb]
      have h1 := FM.num_yes ha
      have h2 := FM.num_yes hb
      go_enter Tryd.func66, Tryd.ntmps66
      go_wp2_with (first
        | (go_at_call 75; refine (isNumber_any _ _).mono ?_; rintro e w' ⟨rfl, rfl⟩)
        | (go_at_call 76; refine (bounded_any _ _).mono ?_; rintro e w' ⟨rfl, rfl⟩; unfold ans))
      go_ret2
      exact ⟨rfl, rfl⟩

end Go.Proofs.YthfelkcomhflnaaDoor

/- What Mul and the divisions of package fix give. -/
namespace Go.Proofs.YthfelkcomhflnaaDoor
open Go.ChangeShapes Go.WideShapes Go.ChangeAt Go.RowKit

theorem mul_any (a b : Int) (w : World) :
    Calls Tryd.prog 65 #[.int .i64 a, .int .i64 b] w fun e w' => e = .returned (ans (FM.mul a b)) ∧ w = w' := by
  cases ha : FM.num a
  · rw [FM.mul, both_no (.inl ha), ans_no _ _ (by omega)]
    go_enter Tryd.func65, Tryd.ntmps65
    go_wp2_with (go_at_call 75; refine (isNumber_any _ _).mono ?_; rintro e w' ⟨rfl, rfl⟩)
    go_ret2
    exact ⟨rfl, rfl⟩
  · cases hb : FM.num b
    · rw [FM.mul, both_no (.inr hb), ans_no _ _ (by omega)]
      go_enter Tryd.func65, Tryd.ntmps65
      go_wp2_with (go_at_call 75; refine (isNumber_any _ _).mono ?_; rintro e w' ⟨rfl, rfl⟩)
      go_ret2
      exact ⟨rfl, rfl⟩
    · rw [FM.mul, both_yes ha hb]
      by_cases h0 : a = 0
      · subst h0
        rw [Int.zero_mul]
        go_enter Tryd.func65, Tryd.ntmps65
        go_wp2_with (first
          | (go_at_call 75; refine (isNumber_any _ _).mono ?_; rintro e w' ⟨rfl, rfl⟩)
          | (go_at_call 76; refine (bounded_any _ _).mono ?_; rintro e w' ⟨rfl, rfl⟩; unfold ans))
        go_ret2
        exact ⟨rfl, rfl⟩
      · have ht : (a != 0) = true := by simpa using h0
        by_cases hq : wrap64 ((wrap64 (a * b)).tdiv a) = b
        · have hz := FM.mul_way_yes a b ha hb h0 hq
          have hq' : (wrap64 ((wrap64 (a * b)).tdiv a) != b) = false := by simpa using hq
          rw [← hz]
          clear hz hq
          have h0' : a < 0 ∨ 0 < a := by omega
          go_enter Tryd.func65, Tryd.ntmps65
          go_wp2_with (first
            | (go_at_call 75; refine (isNumber_any _ _).mono ?_; rintro e w' ⟨rfl, rfl⟩)
            | (go_at_call 76; refine (bounded_any _ _).mono ?_; rintro e w' ⟨rfl, rfl⟩; unfold ans))
          go_ret2
          exact ⟨rfl, rfl⟩
        · rw [FM.mul_way_no a b ha hb h0 hq, ans_no _ _ (by omega)]
          have hq' : (wrap64 ((wrap64 (a * b)).tdiv a) != b) = true := by simpa using hq
          clear hq
          have h0' : a < 0 ∨ 0 < a := by omega
          go_enter Tryd.func65, Tryd.ntmps65
          go_wp2_with (first
            | (go_at_call 75; refine (isNumber_any _ _).mono ?_; rintro e w' ⟨rfl, rfl⟩)
            | (go_at_call 76; refine (bounded_any _ _).mono ?_; rintro e w' ⟨rfl, rfl⟩; unfold ans))
          go_ret2
          exact ⟨rfl, rfl⟩

/-- the three divisions -/
def dv (k a b : Int) : Int × Int := if k = 3 then FM.mod a b else if k = 2 then FM.rem a b else FM.quo a b
theorem dv_no {a b : Int} (k : Int) (h : FM.num a = false ∨ FM.num b = false) : dv k a b = (0, 2) := by
  unfold dv FM.mod FM.rem FM.quo; simp only [both_no h, ite_self]
theorem dv_nought {a b : Int} (k : Int) (ha : FM.num a = true) (hb : FM.num b = true) (h : b = 0) : dv k a b = (0, 12) := by
  unfold dv FM.mod FM.rem FM.quo; simp only [both_yes ha hb, if_pos h, ite_self]
end Go.Proofs.YthfelkcomhflnaaDoor

/- What the document's own answers for layer 2 are on two numbers: one contract each. -/
namespace Go.Proofs.YthfelkcomhflnaaDoor
open Go.ChangeShapes Go.WideShapes Go.ChangeAt Go.RowKit

/-- a number and the kind of an error -/
def two (p : Int × Int) : Value := .tuple #[.int .i64 p.1, .int .i64 p.2]

end Go.Proofs.YthfelkcomhflnaaDoor

/- The plain mathematics of a number's text: its sign, its digits, what they come to. No dump is read here. -/
namespace Go.Proofs.YthfelkcomhflnaaDoor.FM
open Go.RowKit

def dig (c : UInt8) : Bool := decide (48 ≤ (c.toNat : Int) ∧ (c.toNat : Int) ≤ 57)
theorem dig_yes {c : UInt8} (h : dig c = true) : 48 ≤ (c.toNat : Int) ∧ (c.toNat : Int) ≤ 57 := of_decide_eq_true h
def val (l : List UInt8) : Int := l.foldl (fun v c => v * 10 + ((c.toNat : Int) - 48)) 0
def digs (l : List UInt8) : Bool := l.all dig
def okd (l : List UInt8) : Bool := decide (1 ≤ l.length ∧ l.length ≤ 30) && digs l
def body : List UInt8 → List UInt8
  | [] => []
  | c :: r => if c = 45 ∨ c = 43 then r else c :: r
def neg : List UInt8 → Bool
  | [] => false
  | c :: _ => c == 45
def sv (l : List UInt8) : Int := if neg l then -(val (body l)) else val (body l)
def parse (l : List UInt8) : Int × Int := if okd (body l) then bd (sv l) else (0, 6)

theorem val_snoc (l : List UInt8) (c : UInt8) : val (l ++ [c]) = val l * 10 + ((c.toNat : Int) - 48) := by simp [val]
theorem digs_snoc (l : List UInt8) (c : UInt8) : digs (l ++ [c]) = (digs l && dig c) := by simp [digs]
theorem take_snoc (s : ByteArray) (k : Nat) (h : k < s.size) : s.data.toList.take (k + 1) = s.data.toList.take k ++ [s[k]] := by
  rw [List.take_succ_eq_append_getElem (by simpa using h)]; rfl
theorem val_app (l m : List UInt8) (hm : digs m = true) (h0 : 0 ≤ val l) : val l ≤ val (l ++ m) := by
  induction m generalizing l with
  | nil => simp
  | cons c m ih =>
    simp only [digs, List.all_cons, Bool.and_eq_true] at hm
    have hc := dig_yes hm.1
    have e : l ++ c :: m = (l ++ [c]) ++ m := by simp
    rw [e]
    have h1 := val_snoc l c
    have := ih (l ++ [c]) (by simpa [digs] using hm.2) (by omega)
    omega
theorem val_nonneg (l : List UInt8) (h : digs l = true) : 0 ≤ val l := by
  have := val_app [] l h (by simp [val])
  simpa [val] using this
theorem digs_take (l : List UInt8) (k : Nat) (h : digs l = true) : digs (l.take k) = true := by
  simp only [digs, List.all_eq_true] at h ⊢
  exact fun c hc => h c (List.mem_of_mem_take hc)
theorem digs_drop (l : List UInt8) (k : Nat) (h : digs l = true) : digs (l.drop k) = true := by
  simp only [digs, List.all_eq_true] at h ⊢
  exact fun c hc => h c (List.mem_of_mem_drop hc)
theorem val_take (l : List UInt8) (k : Nat) (h : digs l = true) : val (l.take k) ≤ val l := by
  have := val_app (l.take k) (l.drop k) (digs_drop l k h) (val_nonneg _ (digs_take l k h))
  rwa [List.take_append_drop] at this
theorem digs_at (l : List UInt8) (k : Nat) (h : digs l = true) (hk : k < l.length) : dig l[k] = true := by
  simp only [digs, List.all_eq_true] at h
  exact h _ (List.getElem_mem hk)
theorem digs_not (l : List UInt8) (k : Nat) (hk : k < l.length) (h : dig l[k] = false) : digs l = false := by
  cases hd : digs l with
  | false => rfl
  | true => rw [digs_at l k hd hk] at h; cases h

/-- one digit more behind a number, of its sign -/
def fo (n d : Int) : Int × Int := if num (n * 10) then bd (n * 10 + d) else (0, 11)
theorem fo_eq (n d : Int) (h : 0 ≤ n ∧ 0 ≤ d ∨ n ≤ 0 ∧ d ≤ 0) : fo n d = bd (n * 10 + d) := by
  unfold fo
  cases h1 : num (n * 10) with
  | true => rw [if_pos rfl]
  | false =>
    have := num_no h1
    rw [if_neg (by simp), bd, num_mk_no (by omega), if_neg (by simp)]

/-! ### Noughts, signs, numerals -/
theorem parse_no (l : List UInt8) (h : okd (body l) = false) : parse l = (0, 6) := by rw [parse, h, if_neg (by simp)]
theorem okd_digs {l : List UInt8} (h : okd l = true) : digs l = true := by simp [okd] at h; exact h.2
theorem body_plain {l : List UInt8} (h : digs l = true) : body l = l ∧ neg l = false := by
  cases l with
  | nil => exact ⟨rfl, rfl⟩
  | cons c r =>
    simp only [digs, List.all_cons, Bool.and_eq_true] at h
    have hc := dig_yes h.1
    have h1 : c ≠ 45 := by rintro rfl; revert hc; decide
    have h2 : c ≠ 43 := by rintro rfl; revert hc; decide
    exact ⟨by simp [body, h1, h2], by simp [neg, h1]⟩
theorem dec_digs (u : Nat) : digs (Lib.decDigits u) = true ∧ val (Lib.decDigits u) = u := by
  induction u using Nat.strongRecOn with
  | _ u ih =>
    rw [Lib.decDigits]
    by_cases h : u < 10
    · rw [dif_pos h]
      have e : (UInt8.ofNat (48 + u)).toNat = 48 + u := by simp; omega
      refine ⟨?_, ?_⟩
      · simp only [digs, List.all_cons, List.all_nil, Bool.and_true, dig, e, decide_eq_true_eq]; omega
      · simp only [val, List.foldl_cons, List.foldl_nil, e]; omega
    · rw [dif_neg h]
      obtain ⟨h1, h2⟩ := ih (u / 10) (by omega)
      have e : (UInt8.ofNat (48 + u % 10)).toNat = 48 + u % 10 := by simp; omega
      refine ⟨?_, ?_⟩
      · rw [digs_snoc, h1]; simp only [dig, e, Bool.true_and, decide_eq_true_eq]; omega
      · rw [val_snoc, h2, e]; omega
theorem dec_len (u : Nat) (h : u ≤ 9223372036854775808) : 1 ≤ (Lib.decDigits u).length ∧ (Lib.decDigits u).length ≤ 20 := by
  have h1 := Lib.nDigits_pos u
  rw [Lib.decDigits_length]
  refine ⟨h1, ?_⟩
  by_cases h2 : 20 < Lib.nDigits u
  · exfalso
    have : ∀ k v : Nat, k ≤ Lib.nDigits v → 1 ≤ k → 10 ^ (k - 1) ≤ v ∨ k = 1 := by
      intro k
      induction k with
      | zero => intro v _ h; omega
      | succ k ih =>
        intro v hv _
        by_cases hk : k = 0
        · right; omega
        · left
          by_cases hs : v < 10
          · rw [Lib.nDigits_small hs] at hv; omega
          · rw [Lib.nDigits_big hs] at hv
            have := ih (v / 10) (by omega) (by omega)
            simp only [Nat.add_sub_cancel]
            rcases this with h | h
            · have e : 10 ^ k = 10 ^ (k - 1) * 10 := by rw [← Nat.pow_succ]; congr 1; omega
              omega
            · subst h; simp; omega
    have := this 21 u (by omega) (by omega)
    simp at this
    omega
  · omega
end Go.Proofs.YthfelkcomhflnaaDoor.FM
