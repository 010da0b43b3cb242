/- The plain mathematics of layer 9: how deep data are, how many parts they have, which are right, their texts. No dump is read here. -/
import Derived.Test.YtbomodendobnkaaGreatQ4
import Derived.Lib.ItoaLen
import Derived.Test.YtbomodendobnkaaGreatRows
import Derived.Test.YtbomodendobnkaaGreatQ1
import Derived.WalkKit
import Derived.ProofKit
import Derived.OpenShut
import Derived.Deep.QuietTactic
import Derived.BigQuiet
import Derived.Lib.Hide
namespace Go.Proofs.YtbomodendobnkaaGreat.SM
open Go.RowKit RM

/-- how many stand within one another -/
def hi : Dl → Nat
  | .nil => 0
  | .cons _ _ _ is r => max (hi is + 1) (hi r)
/-- how many there are, with all within them -/
def sz : Dl → Nat
  | .nil => 0
  | .cons _ _ _ is r => sz is + 1 + sz r
/-- the data from a place on -/
def dr : Dl → Nat → Dl
  | d, 0 => d
  | .nil, _ + 1 => .nil
  | .cons _ _ _ _ r, i + 1 => dr r i
/-- the last one's kind -/
def lastk : Dl → Int
  | .nil => 0
  | .cons k _ _ _ r => if r.len = 0 then k else lastk r
theorem dr_at : ∀ (d : Dl) (i : Nat) (x : Dm), d.at_ i = some x → dr d i = .cons x.k x.n x.s x.is (dr d (i + 1))
  | .nil, i, x, h => by simp [Dl.at_] at h
  | .cons k n s is r, 0, x, h => by
    simp only [Dl.at_, Option.some.injEq] at h
    subst h
    cases r <;> rfl
  | .cons k n s is r, i + 1, x, h => by
    show dr r i = .cons x.k x.n x.s x.is (dr r (i + 1))
    exact dr_at r i x h
theorem dr_end : ∀ (d : Dl) (i : Nat), d.len ≤ i → dr d i = .nil
  | .nil, 0, _ => rfl
  | .nil, i + 1, _ => rfl
  | .cons k n s is r, 0, h => by simp [Dl.len] at h
  | .cons k n s is r, i + 1, h => dr_end r i (by simp only [Dl.len] at h; omega)
theorem dr_len : ∀ (d : Dl) (i : Nat), (dr d i).len = d.len - i
  | d, 0 => by simp [dr]
  | .nil, i + 1 => by simp [dr, Dl.len]
  | .cons k n s is r, i + 1 => by rw [dr, dr_len r i, Dl.len]; omega
theorem dr_zero (d : Dl) : dr d 0 = d := by cases d <;> rfl
theorem lastk_at : ∀ (d : Dl) (x : Dm), d.at_ (d.len - 1) = some x → lastk d = x.k
  | .nil, x, h => by simp [Dl.at_] at h
  | .cons k n s is r, x, h => by
    unfold lastk
    by_cases hr : r.len = 0
    · rw [if_pos hr]
      rw [show (Dl.cons k n s is r).len - 1 = 0 by simp [Dl.len, hr]] at h
      simp only [Dl.at_, Option.some.injEq] at h
      subst h; rfl
    · rw [if_neg hr]
      apply lastk_at r x
      rw [show (Dl.cons k n s is r).len - 1 = (r.len - 1) + 1 by simp only [Dl.len]; omega] at h
      exact h

/-- are a datum's fields as its kind asks for? -/
def kd (k n : Int) (s : List UInt8) (is : Dl) : Bool :=
  if k = 1 then decide (is.len = 0) && decide (s = []) && decide (-1152921504606846976 ≤ n ∧ n ≤ 1152921504606846975)
  else if k = 2 then decide (is.len = 0) && decide (s = []) && decide (n = 0 ∨ n = 1)
  else if k = 3 then decide (is.len = 0) && decide (s = []) && decide (0 ≤ n ∧ n ≤ 255)
  else if k = 4 then decide (is.len = 0) && decide (n = 0) && decide (s.length ≤ 500)
  else if k = 5 then decide (is.len = 0) && decide (n = 0) && LM.sym s
  else if k = 6 ∨ k = 8 then decide (n = 0) && decide (s = [])
  else if k = 7 then decide (n = 0) && decide (s = []) && decide (2 ≤ is.len) && decide (lastk is ≠ 6 ∧ lastk is ≠ 7)
  else false
def rgt : Dl → Bool
  | .nil => true
  | .cons k n s is r => kd k n s is && rgt is && rgt r
theorem rgt_none {d : Dl} (h : d.len = 0) : rgt d = true := by
  cases d with
  | nil => rfl
  | cons => simp [Dl.len] at h
theorem rgt_at : ∀ (d : Dl) (i : Nat) (x : Dm), d.at_ i = some x → rgt d = true → kd x.k x.n x.s x.is = true ∧ rgt x.is = true
  | .nil, i, x, h, _ => by simp [Dl.at_] at h
  | .cons k n s is r, 0, x, h, hr => by
    simp only [Dl.at_, Option.some.injEq] at h
    subst h
    simp only [rgt, Bool.and_eq_true] at hr
    exact hr.1
  | .cons k n s is r, i + 1, x, h, hr => by
    simp only [rgt, Bool.and_eq_true] at hr
    exact rgt_at r i x h hr.2
/-- a datum is right: few parts, not too deep, each as it should be -/
def okd (x : Dm) : Bool := decide (sz x.is + 1 ≤ 4000) && decide (hi x.is + 1 ≤ 64) && (kd x.k x.n x.s x.is && rgt x.is)

/-! ### texts -/
def chr (c : Int) : List UInt8 :=
  if c < 0 ∨ 255 < c then []
  else if c = 32 then [35, 92, 115, 112, 97, 99, 101]
  else if c = 10 then [35, 92, 110, 101, 119, 108, 105, 110, 101]
  else if c = 9 then [35, 92, 116, 97, 98]
  else if c = 0 then [35, 92, 110, 117, 108]
  else [35, 92, UInt8.ofNat c.toNat]
def es (c : UInt8) : List UInt8 := if c = 10 then [92, 110] else if c = 9 then [92, 116] else if c = 92 ∨ c = 34 then [92, c] else [c]
def esl : List UInt8 → List UInt8
  | [] => []
  | c :: r => es c ++ esl r
theorem esl_snoc : ∀ (l : List UInt8) (c : UInt8), esl (l ++ [c]) = esl l ++ es c
  | [], c => by simp [esl]
  | d :: r, c => by rw [List.cons_append, esl, esl, esl_snoc r c, List.append_assoc]
theorem es_len (c : UInt8) : 1 ≤ (es c).length ∧ (es c).length ≤ 2 := by
  unfold es
  split
  · simp
  · split
    · simp
    · split <;> simp
theorem esl_len : ∀ l : List UInt8, (esl l).length ≤ 2 * l.length
  | [] => by simp [esl]
  | c :: r => by have := esl_len r; have := (es_len c).2; simp [esl]; omega
def quo (s : List UInt8) : List UInt8 := 34 :: (esl s ++ [34])
/-- a datum's text, of the text of its items -/
def one (p : Bool) (k n : Int) (s inner : List UInt8) : List UInt8 :=
  if k = 1 then Lib.itoa n
  else if k = 2 then (if n = 0 then [35, 102] else [35, 116])
  else if k = 3 then (if p then [UInt8.ofNat n.toNat] else chr n)
  else if k = 4 then (if p then s else quo s)
  else if k = 5 then s
  else (if k = 8 then [35, 40] else [40]) ++ (inner ++ [41])
/-- the texts of items, from one on: dot: a full stop stands ahead of the last; first: nothing stands ahead of these -/
def tl (p dot : Bool) : Bool → Dl → List UInt8
  | _, .nil => []
  | first, .cons k n s is r => (if first then [] else [32]) ++ ((if dot && decide (r.len = 0) then [46, 32] else []) ++ (one p k n s (tl p (decide (k = 7)) true is) ++ tl p dot false r))
def txt (p : Bool) (x : Dm) : List UInt8 := one p x.k x.n x.s (tl p (decide (x.k = 7)) true x.is)
theorem chr_len (c : Int) : (chr c).length ≤ 9 := by
  unfold chr
  split
  · simp
  · split
    · simp
    · split
      · simp
      · split
        · simp
        · split <;> simp
theorem one_len {p : Bool} {k n : Int} {s inner : List UInt8} {is : Dl} (h : kd k n s is = true) (hs : 4 ≤ k → k ≤ 5 → s.length ≤ 500) : (one p k n s inner).length ≤ 1002 + inner.length := by
  unfold one
  split
  · rename_i h1
    subst h1
    have hb : -1152921504606846976 ≤ n ∧ n ≤ 1152921504606846975 := by simp [kd] at h; exact h.2
    have := Lib.itoa_length_le n (by omega) (by omega)
    omega
  · split
    · split <;> simp <;> omega
    · split
      · split
        · simp; omega
        · have := chr_len n; omega
      · split
        · rename_i h4
          have := hs (by omega) (by omega)
          split
          · omega
          · have := esl_len s; simp [quo]; omega
        · split
          · rename_i h5
            have := hs (by omega) (by omega)
            omega
          · split <;> simp <;> omega
theorem sym_short {s : List UInt8} (h : LM.sym s = true) : s.length ≤ 60 := by
  unfold LM.sym at h
  simp only [Bool.and_eq_true, decide_eq_true_eq] at h
  omega
theorem kd_short {k n : Int} {s : List UInt8} {is : Dl} (h : kd k n s is = true) (h4 : 4 ≤ k) (h5 : k ≤ 5) : s.length ≤ 500 := by
  rcases (show k = 4 ∨ k = 5 by omega) with rfl | rfl
  · simp [kd] at h; exact h.2
  · simp [kd] at h; have := sym_short h.2; omega
theorem tl_len (p : Bool) : ∀ (d : Dl) (dot first : Bool), rgt d = true → (tl p dot first d).length ≤ 1010 * sz d
  | .nil, dot, first, _ => by simp [tl]
  | .cons k n s is r, dot, first, h => by
    simp only [rgt, Bool.and_eq_true] at h
    have h1 := tl_len p r dot false h.2
    have h2 := tl_len p is (decide (k = 7)) true h.1.2
    have h3 := one_len (p := p) (inner := tl p (decide (k = 7)) true is) h.1.1 (kd_short h.1.1)
    have h4 : (if first then ([] : List UInt8) else [32]).length ≤ 1 := by split <;> simp
    have h5 : (if dot && decide (r.len = 0) then ([46, 32] : List UInt8) else []).length ≤ 2 := by split <;> simp
    simp only [tl, List.length_append, sz]
    omega
theorem txt_len (p : Bool) (x : Dm) (h : kd x.k x.n x.s x.is = true) (hr : rgt x.is = true) : (txt p x).length ≤ 1010 * (sz x.is + 1) := by
  have h2 := tl_len p x.is (decide (x.k = 7)) true hr
  have h3 := one_len (p := p) (inner := tl p (decide (x.k = 7)) true x.is) h (kd_short h)
  unfold txt
  omega
end Go.Proofs.YtbomodendobnkaaGreat.SM

/- What each call of package fix on two numbers gives: one contract a function. -/
namespace Go.Proofs.YtbomodendobnkaaGreat
open Go.ChangeShapes Go.WideShapes Go.ChangeAt Go.RowKit

theorem ret_i {k : IntKind} {a b : Int} (h : a = b) : Ending.returned (.int k a) = .returned (.int k b) := by rw [h]
theorem ret_b {a b : Bool} (h : a = b) : Ending.returned (.bool a) = .returned (.bool b) := by rw [h]
/-- the error of that kind, or none -/
def er (k : Int) : Value := if k = 0 then .nilIface else .iface 47 (.int .i64 k)
/-- a number and an error -/
def ans (p : Int × Int) : Value := .tuple #[.int .i64 p.1, er p.2]
theorem ans_yes (n : Int) : ans (n, 0) = .tuple #[.int .i64 n, .nilIface] := rfl
theorem ans_no (n k : Int) (h : k ≠ 0) : ans (n, k) = .tuple #[.int .i64 n, .iface 47 (.int .i64 k)] := by unfold ans er; simp only [if_neg h]

theorem isNumber_any (a : Int) (w : World) :
    Calls Tryz.prog 107 #[.int .i64 a] w fun e w' => e = .returned (.bool (FM.num a)) ∧ w = w' := by
  go_enter Tryz.func107, Tryz.ntmps107
  go_wp2
  all_goals
    go_ret
    refine ⟨ret_b ?_, rfl⟩
    simp [FM.num] <;> omega

theorem bounded_any (a : Int) (w : World) :
    Calls Tryz.prog 108 #[.int .i64 a] w fun e w' => e = .returned (ans (FM.bd a)) ∧ w = w' := by
  cases h : FM.num a
  · rw [FM.bd, h, if_neg (by simp), ans_no _ _ (by omega)]
    go_enter Tryz.func108, Tryz.ntmps108
    go_wp2_with (go_at_call 107; refine (isNumber_any _ _).mono ?_; rintro e w' ⟨rfl, rfl⟩)
    go_ret2
    exact ⟨rfl, rfl⟩
  · rw [FM.bd, h, if_pos rfl, ans_yes]
    go_enter Tryz.func108, Tryz.ntmps108
    go_wp2_with (go_at_call 107; refine (isNumber_any _ _).mono ?_; rintro e w' ⟨rfl, rfl⟩)
    go_ret2
    exact ⟨rfl, rfl⟩
end Go.Proofs.YtbomodendobnkaaGreat

/- What the six calls of package fix on two numbers give: one contract each. -/
namespace Go.Proofs.YtbomodendobnkaaGreat
open Go.ChangeShapes Go.WideShapes Go.ChangeAt Go.RowKit

theorem both_no {a b : Int} (h : FM.num a = false ∨ FM.num b = false) (x : Int × Int) : FM.both a b x = (0, 2) := by
  unfold FM.both; rcases h with h | h <;> simp [h]
theorem both_yes {a b : Int} (ha : FM.num a = true) (hb : FM.num b = true) (x : Int × Int) : FM.both a b x = x := by
  unfold FM.both; simp [ha, hb]

theorem add_any (a b : Int) (w : World) :
    Calls Tryz.prog 102 #[.int .i64 a, .int .i64 b] w fun e w' => e = .returned (ans (FM.add a b)) ∧ w = w' := by
  cases ha : FM.num a
  · rw [FM.add, both_no (.inl ha), ans_no _ _ (by omega)]
    go_enter Tryz.func102, Tryz.ntmps102
    go_wp2_with (go_at_call 107; refine (isNumber_any _ _).mono ?_; rintro e w' ⟨rfl, rfl⟩)
    go_ret2
    exact ⟨rfl, rfl⟩
  · cases hb : FM.num b
    · rw [FM.add, both_no (.inr hb), ans_no _ _ (by omega)]
      go_enter Tryz.func102, Tryz.ntmps102
      go_wp2_with (go_at_call 107; refine (isNumber_any _ _).mono ?_; rintro e w' ⟨rfl, rfl⟩)
      go_ret2
      exact ⟨rfl, rfl⟩
    · rw [FM.add, both_yes ha hb]
      have h1 := FM.num_yes ha
      have h2 := FM.num_yes hb
      go_enter Tryz.func102, Tryz.ntmps102
      go_wp2_with (first
        | (go_at_call 107; refine (isNumber_any _ _).mono ?_; rintro e w' ⟨rfl, rfl⟩)
        | (go_at_call 108; refine (bounded_any _ _).mono ?_; rintro e w' ⟨rfl, rfl⟩; unfold ans))
      go_ret2
      exact ⟨rfl, rfl⟩

end Go.Proofs.YtbomodendobnkaaGreat

/- What Mul and the divisions of package fix give. -/
namespace Go.Proofs.YtbomodendobnkaaGreat
open Go.ChangeShapes Go.WideShapes Go.ChangeAt Go.RowKit

theorem mul_any (a b : Int) (w : World) :
    Calls Tryz.prog 101 #[.int .i64 a, .int .i64 b] w fun e w' => e = .returned (ans (FM.mul a b)) ∧ w = w' := by
  cases ha : FM.num a
  · rw [FM.mul, both_no (.inl ha), ans_no _ _ (by omega)]
    go_enter Tryz.func101, Tryz.ntmps101
    go_wp2_with (go_at_call 107; refine (isNumber_any _ _).mono ?_; rintro e w' ⟨rfl, rfl⟩)
    go_ret2
    exact ⟨rfl, rfl⟩
  · cases hb : FM.num b
    · rw [FM.mul, both_no (.inr hb), ans_no _ _ (by omega)]
      go_enter Tryz.func101, Tryz.ntmps101
      go_wp2_with (go_at_call 107; refine (isNumber_any _ _).mono ?_; rintro e w' ⟨rfl, rfl⟩)
      go_ret2
      exact ⟨rfl, rfl⟩
    · rw [FM.mul, both_yes ha hb]
      by_cases h0 : a = 0
      · subst h0
        rw [Int.zero_mul]
        go_enter Tryz.func101, Tryz.ntmps101
        go_wp2_with (first
          | (go_at_call 107; refine (isNumber_any _ _).mono ?_; rintro e w' ⟨rfl, rfl⟩)
          | (go_at_call 108; refine (bounded_any _ _).mono ?_; rintro e w' ⟨rfl, rfl⟩; unfold ans))
        go_ret2
        exact ⟨rfl, rfl⟩
      · have ht : (a != 0) = true := by simpa using h0
        by_cases hq : wrap64 ((wrap64 (a * b)).tdiv a) = b
        · have hz := FM.mul_way_yes a b ha hb h0 hq
          have hq' : (wrap64 ((wrap64 (a * b)).tdiv a) != b) = false := by simpa using hq
          rw [← hz]
          clear hz hq
          have h0' : a < 0 ∨ 0 < a := by omega
          go_enter Tryz.func101, Tryz.ntmps101
          go_wp2_with (first
            | (go_at_call 107; refine (isNumber_any _ _).mono ?_; rintro e w' ⟨rfl, rfl⟩)
            | (go_at_call 108; refine (bounded_any _ _).mono ?_; rintro e w' ⟨rfl, rfl⟩; unfold ans))
          go_ret2
          exact ⟨rfl, rfl⟩
        · rw [FM.mul_way_no a b ha hb h0 hq, ans_no _ _ (by omega)]
          have hq' : (wrap64 ((wrap64 (a * b)).tdiv a) != b) = true := by simpa using hq
          clear hq
          have h0' : a < 0 ∨ 0 < a := by omega
          go_enter Tryz.func101, Tryz.ntmps101
          go_wp2_with (first
            | (go_at_call 107; refine (isNumber_any _ _).mono ?_; rintro e w' ⟨rfl, rfl⟩)
            | (go_at_call 108; refine (bounded_any _ _).mono ?_; rintro e w' ⟨rfl, rfl⟩; unfold ans))
          go_ret2
          exact ⟨rfl, rfl⟩

/-- the three divisions -/
def dv (k a b : Int) : Int × Int := if k = 3 then FM.mod a b else if k = 2 then FM.rem a b else FM.quo a b
theorem dv_no {a b : Int} (k : Int) (h : FM.num a = false ∨ FM.num b = false) : dv k a b = (0, 2) := by
  unfold dv FM.mod FM.rem FM.quo; simp only [both_no h, ite_self]
theorem dv_nought {a b : Int} (k : Int) (ha : FM.num a = true) (hb : FM.num b = true) (h : b = 0) : dv k a b = (0, 12) := by
  unfold dv FM.mod FM.rem FM.quo; simp only [both_yes ha hb, if_pos h, ite_self]
end Go.Proofs.YtbomodendobnkaaGreat

/- What the document's own answers for layer 2 are on two numbers: one contract each. -/
namespace Go.Proofs.YtbomodendobnkaaGreat
open Go.ChangeShapes Go.WideShapes Go.ChangeAt Go.RowKit

/-- a number and the kind of an error -/
def two (p : Int × Int) : Value := .tuple #[.int .i64 p.1, .int .i64 p.2]

end Go.Proofs.YtbomodendobnkaaGreat
