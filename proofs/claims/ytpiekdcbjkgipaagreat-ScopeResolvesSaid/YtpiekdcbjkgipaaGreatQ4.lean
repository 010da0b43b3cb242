/- The plain mathematics of layer 9: how deep data are, how many parts they have, which are right, their texts. No dump is read here. -/
import Derived.Test.YtpiekdcbjkgipaaGreatQ3
import Derived.Lib.ItoaLen
import Derived.Test.YtpiekdcbjkgipaaGreatLaw
namespace Go.Proofs.YtpiekdcbjkgipaaGreat.SM
open Go.RowKit RM

/-- how many stand within one another -/
def hi : Dl → Nat
  | .nil => 0
  | .cons _ _ _ is r => max (hi is + 1) (hi r)
/-- how many there are, with all within them -/
def sz : Dl → Nat
  | .nil => 0
  | .cons _ _ _ is r => sz is + 1 + sz r
/-- the data from a place on -/
def dr : Dl → Nat → Dl
  | d, 0 => d
  | .nil, _ + 1 => .nil
  | .cons _ _ _ _ r, i + 1 => dr r i
/-- the last one's kind -/
def lastk : Dl → Int
  | .nil => 0
  | .cons k _ _ _ r => if r.len = 0 then k else lastk r
theorem dr_at : ∀ (d : Dl) (i : Nat) (x : Dm), d.at_ i = some x → dr d i = .cons x.k x.n x.s x.is (dr d (i + 1))
  | .nil, i, x, h => by simp [Dl.at_] at h
  | .cons k n s is r, 0, x, h => by
    simp only [Dl.at_, Option.some.injEq] at h
    subst h
    cases r <;> rfl
  | .cons k n s is r, i + 1, x, h => by
    show dr r i = .cons x.k x.n x.s x.is (dr r (i + 1))
    exact dr_at r i x h
theorem dr_end : ∀ (d : Dl) (i : Nat), d.len ≤ i → dr d i = .nil
  | .nil, 0, _ => rfl
  | .nil, i + 1, _ => rfl
  | .cons k n s is r, 0, h => by simp [Dl.len] at h
  | .cons k n s is r, i + 1, h => dr_end r i (by simp only [Dl.len] at h; omega)
theorem dr_len : ∀ (d : Dl) (i : Nat), (dr d i).len = d.len - i
  | d, 0 => by simp [dr]
  | .nil, i + 1 => by simp [dr, Dl.len]
  | .cons k n s is r, i + 1 => by rw [dr, dr_len r i, Dl.len]; omega
theorem dr_zero (d : Dl) : dr d 0 = d := by cases d <;> rfl
theorem lastk_at : ∀ (d : Dl) (x : Dm), d.at_ (d.len - 1) = some x → lastk d = x.k
  | .nil, x, h => by simp [Dl.at_] at h
  | .cons k n s is r, x, h => by
    unfold lastk
    by_cases hr : r.len = 0
    · rw [if_pos hr]
      rw [show (Dl.cons k n s is r).len - 1 = 0 by simp [Dl.len, hr]] at h
      simp only [Dl.at_, Option.some.injEq] at h
      subst h; rfl
    · rw [if_neg hr]
      apply lastk_at r x
      rw [show (Dl.cons k n s is r).len - 1 = (r.len - 1) + 1 by simp only [Dl.len]; omega] at h
      exact h

/-- are a datum's fields as its kind asks for? -/
def kd (k n : Int) (s : List UInt8) (is : Dl) : Bool :=
  if k = 1 then decide (is.len = 0) && decide (s = []) && decide (-1152921504606846976 ≤ n ∧ n ≤ 1152921504606846975)
  else if k = 2 then decide (is.len = 0) && decide (s = []) && decide (n = 0 ∨ n = 1)
  else if k = 3 then decide (is.len = 0) && decide (s = []) && decide (0 ≤ n ∧ n ≤ 255)
  else if k = 4 then decide (is.len = 0) && decide (n = 0) && decide (s.length ≤ 500)
  else if k = 5 then decide (is.len = 0) && decide (n = 0) && LM.sym s
  else if k = 6 ∨ k = 8 then decide (n = 0) && decide (s = [])
  else if k = 7 then decide (n = 0) && decide (s = []) && decide (2 ≤ is.len) && decide (lastk is ≠ 6 ∧ lastk is ≠ 7)
  else false
def rgt : Dl → Bool
  | .nil => true
  | .cons k n s is r => kd k n s is && rgt is && rgt r
theorem rgt_none {d : Dl} (h : d.len = 0) : rgt d = true := by
  cases d with
  | nil => rfl
  | cons => simp [Dl.len] at h
theorem rgt_at : ∀ (d : Dl) (i : Nat) (x : Dm), d.at_ i = some x → rgt d = true → kd x.k x.n x.s x.is = true ∧ rgt x.is = true
  | .nil, i, x, h, _ => by simp [Dl.at_] at h
  | .cons k n s is r, 0, x, h, hr => by
    simp only [Dl.at_, Option.some.injEq] at h
    subst h
    simp only [rgt, Bool.and_eq_true] at hr
    exact hr.1
  | .cons k n s is r, i + 1, x, h, hr => by
    simp only [rgt, Bool.and_eq_true] at hr
    exact rgt_at r i x h hr.2
/-- a datum is right: few parts, not too deep, each as it should be -/
def okd (x : Dm) : Bool := decide (sz x.is + 1 ≤ 4000) && decide (hi x.is + 1 ≤ 64) && (kd x.k x.n x.s x.is && rgt x.is)

/-! ### texts -/
def chr (c : Int) : List UInt8 :=
  if c < 0 ∨ 255 < c then []
  else if c = 32 then [35, 92, 115, 112, 97, 99, 101]
  else if c = 10 then [35, 92, 110, 101, 119, 108, 105, 110, 101]
  else if c = 9 then [35, 92, 116, 97, 98]
  else if c = 0 then [35, 92, 110, 117, 108]
  else [35, 92, UInt8.ofNat c.toNat]
def es (c : UInt8) : List UInt8 := if c = 10 then [92, 110] else if c = 9 then [92, 116] else if c = 92 ∨ c = 34 then [92, c] else [c]
def esl : List UInt8 → List UInt8
  | [] => []
  | c :: r => es c ++ esl r
theorem esl_snoc : ∀ (l : List UInt8) (c : UInt8), esl (l ++ [c]) = esl l ++ es c
  | [], c => by simp [esl]
  | d :: r, c => by rw [List.cons_append, esl, esl, esl_snoc r c, List.append_assoc]
theorem es_len (c : UInt8) : 1 ≤ (es c).length ∧ (es c).length ≤ 2 := by
  unfold es
  split
  · simp
  · split
    · simp
    · split <;> simp
theorem esl_len : ∀ l : List UInt8, (esl l).length ≤ 2 * l.length
  | [] => by simp [esl]
  | c :: r => by have := esl_len r; have := (es_len c).2; simp [esl]; omega
def quo (s : List UInt8) : List UInt8 := 34 :: (esl s ++ [34])
/-- a datum's text, of the text of its items -/
def one (p : Bool) (k n : Int) (s inner : List UInt8) : List UInt8 :=
  if k = 1 then Lib.itoa n
  else if k = 2 then (if n = 0 then [35, 102] else [35, 116])
  else if k = 3 then (if p then [UInt8.ofNat n.toNat] else chr n)
  else if k = 4 then (if p then s else quo s)
  else if k = 5 then s
  else (if k = 8 then [35, 40] else [40]) ++ (inner ++ [41])
/-- the texts of items, from one on: dot: a full stop stands ahead of the last; first: nothing stands ahead of these -/
def tl (p dot : Bool) : Bool → Dl → List UInt8
  | _, .nil => []
  | first, .cons k n s is r => (if first then [] else [32]) ++ ((if dot && decide (r.len = 0) then [46, 32] else []) ++ (one p k n s (tl p (decide (k = 7)) true is) ++ tl p dot false r))
def txt (p : Bool) (x : Dm) : List UInt8 := one p x.k x.n x.s (tl p (decide (x.k = 7)) true x.is)
theorem chr_len (c : Int) : (chr c).length ≤ 9 := by
  unfold chr
  split
  · simp
  · split
    · simp
    · split
      · simp
      · split
        · simp
        · split <;> simp
theorem one_len {p : Bool} {k n : Int} {s inner : List UInt8} {is : Dl} (h : kd k n s is = true) (hs : 4 ≤ k → k ≤ 5 → s.length ≤ 500) : (one p k n s inner).length ≤ 1002 + inner.length := by
  unfold one
  split
  · rename_i h1
    subst h1
    have hb : -1152921504606846976 ≤ n ∧ n ≤ 1152921504606846975 := by simp [kd] at h; exact h.2
    have := Lib.itoa_length_le n (by omega) (by omega)
    omega
  · split
    · split <;> simp <;> omega
    · split
      · split
        · simp; omega
        · have := chr_len n; omega
      · split
        · rename_i h4
          have := hs (by omega) (by omega)
          split
          · omega
          · have := esl_len s; simp [quo]; omega
        · split
          · rename_i h5
            have := hs (by omega) (by omega)
            omega
          · split <;> simp <;> omega
theorem sym_short {s : List UInt8} (h : LM.sym s = true) : s.length ≤ 60 := by
  unfold LM.sym at h
  simp only [Bool.and_eq_true, decide_eq_true_eq] at h
  omega
theorem kd_short {k n : Int} {s : List UInt8} {is : Dl} (h : kd k n s is = true) (h4 : 4 ≤ k) (h5 : k ≤ 5) : s.length ≤ 500 := by
  rcases (show k = 4 ∨ k = 5 by omega) with rfl | rfl
  · simp [kd] at h; exact h.2
  · simp [kd] at h; have := sym_short h.2; omega
theorem tl_len (p : Bool) : ∀ (d : Dl) (dot first : Bool), rgt d = true → (tl p dot first d).length ≤ 1010 * sz d
  | .nil, dot, first, _ => by simp [tl]
  | .cons k n s is r, dot, first, h => by
    simp only [rgt, Bool.and_eq_true] at h
    have h1 := tl_len p r dot false h.2
    have h2 := tl_len p is (decide (k = 7)) true h.1.2
    have h3 := one_len (p := p) (inner := tl p (decide (k = 7)) true is) h.1.1 (kd_short h.1.1)
    have h4 : (if first then ([] : List UInt8) else [32]).length ≤ 1 := by split <;> simp
    have h5 : (if dot && decide (r.len = 0) then ([46, 32] : List UInt8) else []).length ≤ 2 := by split <;> simp
    simp only [tl, List.length_append, sz]
    omega
theorem txt_len (p : Bool) (x : Dm) (h : kd x.k x.n x.s x.is = true) (hr : rgt x.is = true) : (txt p x).length ≤ 1010 * (sz x.is + 1) := by
  have h2 := tl_len p x.is (decide (x.k = 7)) true hr
  have h3 := one_len (p := p) (inner := tl p (decide (x.k = 7)) true x.is) h (kd_short h)
  unfold txt
  omega
end Go.Proofs.YtpiekdcbjkgipaaGreat.SM

/- The plain mathematics of layer 10: terms, their parts, which are right, how their locals are numbered. No dump is read here. -/
namespace Go.Proofs.YtpiekdcbjkgipaaGreat.TM
open Go.RowKit RM

/-- some terms, one behind the other: each one's kind, number, name, locals, datum and kids -/
inductive Tl where
  | nil : Tl
  | cons : Int → Int → List UInt8 → List Int → Dm → Tl → Tl → Tl
/-- one of them -/
structure Tm where
  k : Int
  n : Int
  s : List UInt8
  ps : List Int
  d : Dm
  ks : Tl
namespace Tl
def len : Tl → Nat
  | .nil => 0
  | .cons _ _ _ _ _ _ r => r.len + 1
def one (t : Tm) : Tl := .cons t.k t.n t.s t.ps t.d t.ks .nil
def app : Tl → Tl → Tl
  | .nil, e => e
  | .cons k n s ps d ks r, e => .cons k n s ps d ks (r.app e)
def snoc (l : Tl) (t : Tm) : Tl := l.app (.one t)
def at_ : Tl → Nat → Option Tm
  | .nil, _ => none
  | .cons k n s ps d ks _, 0 => some ⟨k, n, s, ps, d, ks⟩
  | .cons _ _ _ _ _ _ r, i + 1 => r.at_ i
theorem at_some : ∀ (d : Tl) (i : Nat), i < d.len → ∃ x, d.at_ i = some x
  | .nil, i, h => by simp [len] at h
  | .cons k n s ps d ks r, 0, h => ⟨_, rfl⟩
  | .cons k n s ps d ks r, i + 1, h => at_some r i (by simp only [len] at h; omega)
theorem at_lt : ∀ {d : Tl} {i : Nat} {x : Tm}, d.at_ i = some x → i < d.len
  | .nil, i, _, h => by simp [at_] at h
  | .cons k n s ps d ks r, 0, _, h => by simp [len]
  | .cons k n s ps d ks r, i + 1, x, h => by
    have := at_lt (show r.at_ i = some x from h)
    simp only [len]; omega
theorem app_nil : ∀ l : Tl, l.app .nil = l
  | .nil => rfl
  | .cons k n s ps d ks r => by rw [app, app_nil r]
theorem app_app : ∀ a b c : Tl, (a.app b).app c = a.app (b.app c)
  | .nil, b, c => rfl
  | .cons k n s ps d ks r, b, c => by rw [app, app, app, app_app r]
theorem len_app : ∀ a b : Tl, (a.app b).len = a.len + b.len
  | .nil, b => by simp [app, len]
  | .cons k n s ps d ks r, b => by rw [app, len, len, len_app r]; omega
theorem len_one (t : Tm) : (one t).len = 1 := rfl
theorem len_snoc (l : Tl) (t : Tm) : (l.snoc t).len = l.len + 1 := by rw [snoc, len_app]; rfl
/-- what holds of all terms of a row that is made of such -/
theorem all_of (P : Tm → Prop) (hP : ∀ k n s ps d ks, (∀ i x, at_ ks i = some x → P x) → P ⟨k, n, s, ps, d, ks⟩) : ∀ (d : Tl) (i : Nat) (x : Tm), d.at_ i = some x → P x
  | .nil, i, x, h => by simp [at_] at h
  | .cons k n s ps d ks r, 0, x, h => by
    simp only [at_, Option.some.injEq] at h
    subst h
    exact hP k n s ps d ks (all_of P hP ks)
  | .cons k n s ps d ks r, i + 1, x, h => all_of P hP r i x h
theorem all_one (P : Tm → Prop) (hP : ∀ k n s ps d ks, (∀ i x, at_ ks i = some x → P x) → P ⟨k, n, s, ps, d, ks⟩) (x : Tm) : P x := all_of P hP (.one x) 0 x (by cases x; rfl)
/-- those from a place on -/
def dr : Tl → Nat → Tl
  | d, 0 => d
  | .nil, _ + 1 => .nil
  | .cons _ _ _ _ _ _ r, i + 1 => dr r i
theorem dr_zero (d : Tl) : dr d 0 = d := by cases d <;> rfl
theorem dr_at : ∀ (d : Tl) (i : Nat) (x : Tm), d.at_ i = some x → dr d i = .cons x.k x.n x.s x.ps x.d x.ks (dr d (i + 1))
  | .nil, i, x, h => by simp [at_] at h
  | .cons k n s ps d ks r, 0, x, h => by
    simp only [at_, Option.some.injEq] at h
    subst h
    cases r <;> rfl
  | .cons k n s ps d ks r, i + 1, x, h => by
    show dr r i = .cons x.k x.n x.s x.ps x.d x.ks (dr r (i + 1))
    exact dr_at r i x h
theorem dr_end : ∀ (d : Tl) (i : Nat), d.len ≤ i → dr d i = .nil
  | .nil, 0, _ => rfl
  | .nil, i + 1, _ => rfl
  | .cons k n s ps d ks r, 0, h => by simp [len] at h
  | .cons k n s ps d ks r, i + 1, h => dr_end r i (by simp only [len] at h; omega)
theorem dr_len : ∀ (d : Tl) (i : Nat), (dr d i).len = d.len - i
  | d, 0 => by simp [dr]
  | .nil, i + 1 => by simp [dr, len]
  | .cons k n s ps d ks r, i + 1 => by rw [dr, dr_len r i, len]; omega
/-- the first ones -/
def tk : Tl → Nat → Tl
  | _, 0 => .nil
  | .nil, _ + 1 => .nil
  | .cons k n s ps d ks r, i + 1 => .cons k n s ps d ks (tk r i)
theorem tk_zero (d : Tl) : tk d 0 = .nil := by cases d <;> rfl
theorem tk_all : ∀ d : Tl, tk d d.len = d
  | .nil => rfl
  | .cons k n s ps d ks r => by rw [len, tk, tk_all r]
theorem tk_len : ∀ (d : Tl) (i : Nat), i ≤ d.len → (tk d i).len = i
  | .nil, 0, _ => rfl
  | .nil, i + 1, h => by simp [len] at h
  | .cons k n s ps d ks r, 0, _ => rfl
  | .cons k n s ps d ks r, i + 1, h => by rw [tk, len, tk_len r i (by simp only [len] at h; omega)]
theorem tk_snoc : ∀ (d : Tl) (i : Nat) (x : Tm), d.at_ i = some x → tk d (i + 1) = (tk d i).snoc x
  | .nil, i, x, h => by simp [at_] at h
  | .cons k n s ps d ks r, 0, x, h => by
    simp only [at_, Option.some.injEq] at h
    subst h
    cases r <;> rfl
  | .cons k n s ps d ks r, i + 1, x, h => by
    show Tl.cons k n s ps d ks (tk r (i + 1)) = _
    rw [tk_snoc r i x h]; rfl
theorem tk_dr : ∀ (d : Tl) (i : Nat), (tk d i).app (dr d i) = d
  | d, 0 => by rw [tk_zero, dr_zero]; rfl
  | .nil, i + 1 => rfl
  | .cons k n s ps d ks r, i + 1 => by rw [tk, dr, app, tk_dr r i]
end Tl

/-- how many stand within one another -/
def hi : Tl → Nat
  | .nil => 0
  | .cons _ _ _ _ _ ks r => max (hi ks + 1) (hi r)
/-- how many there are, with all within them -/
def sz : Tl → Nat
  | .nil => 0
  | .cons _ _ _ _ _ ks r => sz ks + 1 + sz r
theorem hi_len : ∀ (d : Tl), 0 < d.len → 1 ≤ hi d
  | .nil, h => by simp [Tl.len] at h
  | .cons k n s ps d ks r, _ => by unfold hi; omega
theorem hi_at {d : Tl} {i : Nat} {x : Tm} (h : d.at_ i = some x) : hi (d.dr i) = max (hi x.ks + 1) (hi (d.dr (i + 1))) := by rw [Tl.dr_at d i x h]; rfl
theorem sz_at {d : Tl} {i : Nat} {x : Tm} (h : d.at_ i = some x) : sz (d.dr i) = sz x.ks + 1 + sz (d.dr (i + 1)) := by rw [Tl.dr_at d i x h]; rfl
theorem hi_dr : ∀ (d : Tl) (i : Nat), hi (d.dr i) ≤ hi d
  | d, 0 => by rw [Tl.dr_zero]; exact Nat.le_refl _
  | .nil, i + 1 => Nat.le_refl _
  | .cons k n s ps d ks r, i + 1 => by
    have := hi_dr r i
    show hi (r.dr i) ≤ max (hi ks + 1) (hi r)
    omega
theorem sz_dr : ∀ (d : Tl) (i : Nat), sz (d.dr i) ≤ sz d
  | d, 0 => by rw [Tl.dr_zero]; exact Nat.le_refl _
  | .nil, i + 1 => Nat.le_refl _
  | .cons k n s ps d ks r, i + 1 => by
    have := sz_dr r i
    show sz (r.dr i) ≤ sz ks + 1 + sz r
    omega
theorem sz_in {d : Tl} {i : Nat} {x : Tm} (h : d.at_ i = some x) : sz x.ks + 1 ≤ sz d := by
  have := sz_dr d i
  rw [sz_at h] at this
  omega
theorem hi_in {d : Tl} {i : Nat} {x : Tm} (h : d.at_ i = some x) : hi x.ks + 1 ≤ hi d := by
  have := hi_dr d i
  rw [hi_at h] at this
  omega
theorem len_sz : ∀ d : Tl, d.len ≤ sz d
  | .nil => Nat.le_refl _
  | .cons k n s ps d ks r => by have := len_sz r; simp only [Tl.len, sz]; omega

/-- all Params, from the front -/
def prs : Tl → List Int
  | .nil => []
  | .cons _ _ _ ps _ ks r => ps ++ (prs ks ++ prs r)
theorem prs_app : ∀ a b : Tl, prs (a.app b) = prs a ++ prs b
  | .nil, b => rfl
  | .cons k n s ps d ks r, b => by rw [Tl.app, prs, prs, prs_app r b]; simp
theorem prs_snoc (a : Tl) (x : Tm) : prs (a.snoc x) = prs a ++ (x.ps ++ prs x.ks) := by rw [Tl.snoc, prs_app]; simp [Tl.one, prs]
/-- are these locals that weren't met, all above 0, each once? -/
def frs : List Int → List Int → Bool
  | _, [] => true
  | met, p :: r => decide (1 ≤ p) && !met.contains p && frs (met ++ [p]) r
theorem frs_app : ∀ (met a b : List Int), frs met (a ++ b) = (frs met a && frs (met ++ a) b)
  | met, [], b => by simp [frs]
  | met, p :: a, b => by
    rw [List.cons_append, frs, frs, frs_app (met ++ [p]) a b, List.append_assoc]
    simp [Bool.and_assoc]

def nod (d : Dm) : Bool := decide (d.k = 0) && decide (d.n = 0) && decide (d.s = []) && decide (d.is.len = 0)
/-- may a datum be quoted? -/
def quo (d : Dm) : Bool := if d.k = 0 then (decide (d.n = 0) || decide (d.n = 1)) && decide (d.s = []) && decide (d.is.len = 0) else SM.okd d
/-- are a term's fields as its kind asks for, where these locals are bound? -/
def fit (bd : List Int) (t : Tm) : Bool :=
  if t.k = 1 then decide (t.ks.len = 0) && decide (t.s = []) && decide (t.ps = []) && decide (t.n = 0) && quo t.d
  else if t.k = 2 then decide (t.ks.len = 0) && decide (t.s = []) && decide (t.ps = []) && bd.contains t.n && nod t.d
  else if t.k = 3 then decide (t.ks.len = 0) && decide (t.ps = []) && decide (t.n = 0) && LM.sym t.s && nod t.d
  else if t.k = 4 then decide (t.ks.len = 1) && decide (t.s = []) && decide (t.ps = []) && bd.contains t.n && nod t.d
  else if t.k = 5 ∨ t.k = 6 then decide (t.ks.len = 1) && decide (t.ps = []) && decide (t.n = 0) && LM.sym t.s && nod t.d
  else if t.k = 7 then (decide (t.ks.len = 2) || decide (t.ks.len = 3)) && decide (t.s = []) && decide (t.ps = []) && decide (t.n = 0) && nod t.d
  else if t.k = 8 then decide (t.ks.len = 1) && decide (t.s = []) && decide (t.ps.length ≤ 24) && (decide (t.n = 0) || (decide (t.n = 1) && !decide (t.ps = []))) && nod t.d
  else if t.k = 9 then decide (1 ≤ t.ks.len) && decide (t.s = []) && decide (t.ps = []) && decide (t.n = 0) && nod t.d
  else if t.k = 10 then decide (1 ≤ t.ks.len) && decide (t.ks.len ≤ 29) && decide (t.s = []) && decide (t.ps = []) && decide (t.n = 0) && nod t.d
  else false
/-- are all of a row right, where these locals are bound? (whatever their Params are) -/
def rtl : List Int → Tl → Bool
  | _, .nil => true
  | bd, .cons k n s ps d ks r => fit bd ⟨k, n, s, ps, d, ks⟩ && rtl (bd ++ ps) ks && rtl bd r
theorem rtl_at {bd : List Int} {d : Tl} {i : Nat} {x : Tm} (h : d.at_ i = some x) : rtl bd (d.dr i) = (fit bd x && rtl (bd ++ x.ps) x.ks && rtl bd (d.dr (i + 1))) := by rw [Tl.dr_at d i x h]; rfl
theorem rtl_end (bd : List Int) {d : Tl} {i : Nat} (h : d.len ≤ i) : rtl bd (d.dr i) = true := by rw [Tl.dr_end d i h]; rfl
theorem prs_at {d : Tl} {i : Nat} {x : Tm} (h : d.at_ i = some x) : prs (d.dr i) = x.ps ++ (prs x.ks ++ prs (d.dr (i + 1))) := by rw [Tl.dr_at d i x h]; rfl
/-- is a term right where some locals were met, and some of them are bound? -/
def ok1 (bd : List Int) (t : Tm) : Bool := fit bd t && rtl (bd ++ t.ps) t.ks
def okt (t : Tm) : Bool := decide (sz t.ks + 1 ≤ 4000) && decide (hi t.ks + 1 ≤ 200) && frs [] (t.ps ++ prs t.ks) && ok1 [] t

/-- a local's place among some, from 1 on -/
def pl (l : List Int) (n : Int) : Int := if l.contains n then (l.idxOf n : Int) + 1 else 0
/-- the same terms, with their locals numbered -/
def nmt (l : List Int) : Tl → Tl
  | .nil => .nil
  | .cons k n s ps d ks r => .cons k (if k = 2 ∨ k = 4 then pl l n else n) s (ps.map (pl l)) d (nmt l ks) (nmt l r)
def nm1 (l : List Int) (t : Tm) : Tm := ⟨t.k, if t.k = 2 ∨ t.k = 4 then pl l t.n else t.n, t.s, t.ps.map (pl l), t.d, nmt l t.ks⟩
def alpha (t : Tm) : Tm := nm1 (t.ps ++ prs t.ks) t
theorem nmt_len (l : List Int) : ∀ d : Tl, (nmt l d).len = d.len
  | .nil => rfl
  | .cons k n s ps d ks r => by rw [nmt, Tl.len, Tl.len, nmt_len l r]
theorem nmt_at (l : List Int) : ∀ {d : Tl} {i : Nat} {x : Tm}, d.at_ i = some x → (nmt l d).at_ i = some (nm1 l x)
  | .nil, i, x, h => by simp [Tl.at_] at h
  | .cons k n s ps d ks r, 0, x, h => by
    simp only [Tl.at_, Option.some.injEq] at h
    subst h; rfl
  | .cons k n s ps d ks r, i + 1, x, h => by
    have h' : r.at_ i = some x := h
    exact nmt_at l (d := r) (i := i) h'
theorem nmt_snoc (l : List Int) : ∀ (d : Tl) (x : Tm), nmt l (d.snoc x) = (nmt l d).snoc (nm1 l x)
  | .nil, x => rfl
  | .cons k n s ps d ks r, x => by
    show Tl.cons _ _ _ _ _ _ (nmt l (r.snoc x)) = _
    rw [nmt_snoc l r x]; rfl
end Go.Proofs.YtpiekdcbjkgipaaGreat.TM

/- Data that can be read in memory, wherever they lie (also shared): what came in, and what is one's own. -/
namespace Go.Proofs.YtpiekdcbjkgipaaGreat
open Go.ChangeShapes Go.WideShapes Go.ChangeAt Go.RowKit Go.Deep

/-- these data lie in block b from o on -/
def InAt (w : World) : RM.Dl → Nat → Nat → Prop
  | .nil, _, _ => True
  | .cons k n s is r, b, o => b < w.heap.size ∧ w.cell? ⟨b, o, none⟩ = some (.int .i64 k) ∧ w.cell? ⟨b, o + 1, none⟩ = some (.int .i64 n) ∧ w.cell? ⟨b, o + 2, none⟩ = some (.string ⟨s.toArray⟩)
      ∧ (∃ A c, w.cell? ⟨b, o + 3, none⟩ = some (.slice A is.len c) ∧ is.len ≤ 9223372036854775807 ∧ ∃ b' o', (0 < is.len → A = some ⟨b', o', none⟩) ∧ InAt w is b' o') ∧ InAt w r b (o + 4)
/-- v is a slice of these data -/
def In (w : World) (v : Value) (d : RM.Dl) : Prop := ∃ A c, v = .slice A d.len c ∧ d.len ≤ 9223372036854775807 ∧ ∃ b o, (0 < d.len → A = some ⟨b, o, none⟩) ∧ InAt w d b o
/-- each number is one of 64 bits -/
def Bd : RM.Dl → Prop
  | .nil => True
  | .cons k n _ is r => (-9223372036854775808 ≤ k ∧ k ≤ 9223372036854775807) ∧ (-9223372036854775808 ≤ n ∧ n ≤ 9223372036854775807) ∧ Bd is ∧ Bd r

section
variable {w w' : World} {v : Value}
theorem InAt.below (k : Below w.heap.size w w') : ∀ {d : RM.Dl} {b o : Nat}, InAt w d b o → InAt w' d b o
  | .nil, _, _, _ => trivial
  | .cons _ _ _ _ _, b, o, ⟨h0, h1, h2, h3, ⟨A, c, h4, hl, b', o', h5, h6⟩, h7⟩ =>
    ⟨Nat.lt_of_lt_of_le h0 k.size, (k.cell (p := ⟨b, o, none⟩) h0).trans h1, (k.cell (p := ⟨b, o + 1, none⟩) h0).trans h2, (k.cell (p := ⟨b, o + 2, none⟩) h0).trans h3,
      ⟨A, c, (k.cell (p := ⟨b, o + 3, none⟩) h0).trans h4, hl, b', o', h5, InAt.below k h6⟩, InAt.below k h7⟩
theorem In.below {d : RM.Dl} (h : In w v d) (k : Below w.heap.size w w') : In w' v d := by
  obtain ⟨A, c, e, hl, b, o, h1, h2⟩ := h
  exact ⟨A, c, e, hl, b, o, h1, h2.below k⟩
theorem In.len {d : RM.Dl} (h : In w v d) : d.len ≤ 9223372036854775807 := by
  obtain ⟨A, c, e, hl, _⟩ := h; exact hl
theorem In.drew {d : RM.Dl} (h : In w v d) : In w.drew v d := h.below (below_of_drew (w := w) (w' := w.drew) (Below.refl _ _))
theorem In.read {d : RM.Dl} (h : In w v d) : ∃ A c, v = .slice A d.len c := by
  obtain ⟨A, c, e, _⟩ := h; exact ⟨A, c, e⟩
theorem InAt.at_ : ∀ {d : RM.Dl} {b o i : Nat} {x : RM.Dm}, InAt w d b o → d.at_ i = some x →
    b < w.heap.size ∧ w.cell? ⟨b, o + i * 4, none⟩ = some (.int .i64 x.k) ∧ w.cell? ⟨b, o + i * 4 + 1, none⟩ = some (.int .i64 x.n) ∧ w.cell? ⟨b, o + i * 4 + 2, none⟩ = some (.string ⟨x.s.toArray⟩)
      ∧ ∃ A c, w.cell? ⟨b, o + i * 4 + 3, none⟩ = some (.slice A x.is.len c) ∧ In w (.slice A x.is.len c) x.is
  | .nil, _, _, _, _, _, hx => by simp [RM.Dl.at_] at hx
  | .cons k n s is r, b, o, 0, x, ⟨h0, h1, h2, h3, ⟨A, c, h4, hl, b', o', h5, h6⟩, h7⟩, hx => by
    simp only [RM.Dl.at_, Option.some.injEq] at hx
    subst hx
    simp only [Nat.zero_mul, Nat.add_zero]
    exact ⟨h0, h1, h2, h3, A, c, h4, A, c, rfl, hl, b', o', h5, h6⟩
  | .cons k n s is r, b, o, i + 1, x, ⟨h0, h1, h2, h3, h4, h7⟩, hx => by
    have h := InAt.at_ h7 (show r.at_ i = some x from hx)
    rw [show o + (i + 1) * 4 = o + 4 + i * 4 by omega]
    exact h
theorem In.at_ {A : Option Addr} {n c : Nat} {d : RM.Dl} (h : In w (.slice A n c) d) {i : Nat} {x : RM.Dm} (hx : d.at_ i = some x) :
    ∃ b o B m, A = some ⟨b, o, none⟩ ∧ b < w.heap.size ∧ w.cell? ⟨b, o + i * 4, none⟩ = some (.int .i64 x.k) ∧ w.cell? ⟨b, o + i * 4 + 1, none⟩ = some (.int .i64 x.n) ∧ w.cell? ⟨b, o + i * 4 + 2, none⟩ = some (.string ⟨x.s.toArray⟩)
      ∧ w.cell? ⟨b, o + i * 4 + 3, none⟩ = some (.slice B x.is.len m) ∧ In w (.slice B x.is.len m) x.is := by
  obtain ⟨A', c', e, -, b, o, h1, h2⟩ := h
  injection e with e1 e2 e3
  subst e1 e2 e3
  have hl : 0 < d.len := by
    cases d with
    | nil => simp [RM.Dl.at_] at hx
    | cons => simp [RM.Dl.len]
  obtain ⟨g0, g1, g2, g3, B, m, g4, g5⟩ := h2.at_ hx
  exact ⟨b, o, B, m, h1 hl, g0, g1, g2, g3, g4, g5⟩
theorem Bd.at_ : ∀ {d : RM.Dl} {i : Nat} {x : RM.Dm}, Bd d → d.at_ i = some x →
    (-9223372036854775808 ≤ x.k ∧ x.k ≤ 9223372036854775807) ∧ (-9223372036854775808 ≤ x.n ∧ x.n ≤ 9223372036854775807) ∧ Bd x.is
  | .nil, _, _, _, hx => by simp [RM.Dl.at_] at hx
  | .cons k n s is r, 0, x, ⟨h1, h2, h4, h5⟩, hx => by
    simp only [RM.Dl.at_, Option.some.injEq] at hx
    subst hx
    exact ⟨h1, h2, h4⟩
  | .cons k n s is r, i + 1, x, ⟨h1, h2, h4, h5⟩, hx => Bd.at_ h5 (show r.at_ i = some x from hx)
theorem own_len {n sz : Nat} {e : TypeId} {xs : List Value} (h : w.ownsRow 0 e sz v n xs) : n ≤ 9223372036854775807 := by
  rcases h.2 with ⟨_, hn⟩ | ⟨g, cap, cur, _, _, _, hc, hm, _⟩
  · omega
  · unfold maxLen at hm; omega
/-- one's own data can be read -/
theorem InAt.of_dat {S : Nat → Prop} : ∀ {d : RM.Dl} {cs : List Value} {b o : Nat}, DatAt w S d cs → b < w.heap.size → (∀ j, j < cs.length → w.cell? ⟨b, o + j, none⟩ = cs[j]?) → InAt w d b o
  | .nil, _, _, _, _, _, _ => trivial
  | .cons k n s is r, cs, b, o, ⟨v, c1, c2, h1, h2, h3, h4, h5⟩, hb, hc => by
    subst h1
    obtain ⟨A, c, rfl, hr⟩ := own_read h2
    have hl : c1.length = is.len * 4 := h2.1
    refine ⟨hb, by have := hc 0 (by simp); simpa using this, by have := hc 1 (by simp); simpa using this, by have := hc 2 (by simp); simpa using this, ⟨A, c, by have := hc 3 (by simp); simpa using this, own_len h2, ?_⟩, InAt.of_dat h5 hb ?_⟩
    · by_cases h0 : 0 < is.len
      · obtain ⟨g, hg, _, hlt, _⟩ := hr 0 (by omega)
        refine ⟨g, 0, fun _ => hg, InAt.of_dat h4 hlt fun j hj => ?_⟩
        obtain ⟨g', hg', _, _, h'⟩ := hr j (by omega)
        rw [hg] at hg'
        cases hg'
        rw [Nat.zero_add]
        exact h'
      · have : is = .nil := by
          cases is with
          | nil => rfl
          | cons => simp [RM.Dl.len] at h0
        subst this
        exact ⟨0, 0, fun h => absurd h (by simp [RM.Dl.len]), trivial⟩
    · intro j hj
      have := hc (4 + j) (by simp; omega)
      rw [show o + 4 + j = o + (4 + j) by omega, this, List.getElem?_append_right (by simp)]
      simp
theorem Dat.in_ {S : Nat → Prop} {d : RM.Dl} (h : Dat w S v d) : In w v d := by
  obtain ⟨cs, h1, h2, h3⟩ := h
  have hlen := own_len h1
  obtain ⟨A, c, rfl, hr⟩ := own_read h1
  have hl : cs.length = d.len * 4 := h1.1
  by_cases h0 : 0 < d.len
  · obtain ⟨g, hg, _, hlt, _⟩ := hr 0 (by omega)
    refine ⟨A, c, rfl, hlen, g, 0, fun _ => hg, InAt.of_dat h3 hlt fun j hj => ?_⟩
    obtain ⟨g', hg', _, _, h'⟩ := hr j (by omega)
    rw [hg] at hg'
    cases hg'
    rw [Nat.zero_add]
    exact h'
  · have : d = .nil := by
      cases d with
      | nil => rfl
      | cons => simp [RM.Dl.len] at h0
    subst this
    exact ⟨A, c, rfl, hlen, 0, 0, fun h => absurd h (by simp [RM.Dl.len]), trivial⟩
end

/-! ### what came in -/
section
variable {H : Type} {enc : TypeId × Value → H} {W : World}
theorem fieldsDatum : ∃ fs : Array Field, Tryz.prog.underlying 25 = some (.struct fs)
    ∧ (fs[0]?).map (fun f => (f.type, f.offset)) = some (3, 0) ∧ (fs[1]?).map (fun f => (f.type, f.offset)) = some (3, 1) ∧ (fs[2]?).map (fun f => (f.type, f.offset)) = some (9, 2) ∧ (fs[3]?).map (fun f => (f.type, f.offset)) = some (23, 3) :=
  ⟨_, Tryz.underlying25, by kernel_rfl, by kernel_rfl, by kernel_rfl, by kernel_rfl⟩
theorem oneInt : Tryz.prog.cellsOf 3 = 1 := by kernel_rfl
theorem oneString : Tryz.prog.cellsOf 9 = 1 := by kernel_rfl
theorem oneData : Tryz.prog.cellsOf 23 = 1 := by kernel_rfl
theorem fourDatum : Tryz.prog.cellsOf 25 = 4 := by kernel_rfl
theorem bounds64 {n : Int} (h : (Lit.int .i64 n).wf = true) : -9223372036854775808 ≤ n ∧ n ≤ 9223372036854775807 := by
  simp [Lit.wf, show IntKind.i64.min = -9223372036854775808 by decide +kernel, show IntKind.i64.max = 9223372036854775807 by decide +kernel] at h
  exact h
set_option maxRecDepth 100000 in
/-- one datum's four cells -/
theorem datum_cells {fuel : Nat} {cs : List Value} {x : DataW H × List MemPlace} (h : DataW.trod enc Tryz.prog W 0 (fun _ => true) true fuel 25 cs = some x) :
    ∃ (k n : Int) (s : ByteArray) (u : Value) (m : Nat) (y : DataW H × List MemPlace), fuel = m + 1 ∧ cs = [.int .i64 k, .int .i64 n, .string s, u] ∧ (-9223372036854775808 ≤ k ∧ k ≤ 9223372036854775807) ∧ (-9223372036854775808 ≤ n ∧ n ≤ 9223372036854775807)
      ∧ DataW.trod enc Tryz.prog W 0 (fun _ => true) true m 23 [u] = some y := by
  obtain ⟨fs, hu, f0, f1, f2, f3⟩ := fieldsDatum
  obtain ⟨xs, m, hm, -, hl, hxl, hx⟩ := DataW.trod_struct hu h
  rw [fourDatum] at hl
  simp only [Option.map_eq_some_iff, Prod.mk.injEq] at f0 f1 f2 f3
  obtain ⟨q0, e0, t0, o0⟩ := f0
  obtain ⟨q1, e1, t1, o1⟩ := f1
  obtain ⟨q2, e2, t2, o2⟩ := f2
  obtain ⟨q3, e3, t3, o3⟩ := f3
  have hsz : 4 ≤ fs.size := by
    have := (Array.getElem?_eq_some_iff.1 e3).1; omega
  have g := fun i (hi : i < 4) => List.getElem?_eq_getElem (l := xs) (i := i) (by omega)
  have h0 := (hx 0 q0 e0).trans (g 0 (by omega))
  have h1 := (hx 1 q1 e1).trans (g 1 (by omega))
  have h2 := (hx 2 q2 e2).trans (g 2 (by omega))
  have h3 := (hx 3 q3 e3).trans (g 3 (by omega))
  obtain ⟨c0, c1, c2, c3, rfl⟩ : ∃ c0 c1 c2 c3, cs = [c0, c1, c2, c3] := by
    match cs, hl with
    | [c0, c1, c2, c3], _ => exact ⟨_, _, _, _, rfl⟩
  rw [t0, o0, oneInt] at h0
  rw [t1, o1, oneInt] at h1
  rw [t2, o2, oneString] at h2
  rw [t3, o3, oneData] at h3
  simp only [List.drop, List.take_succ_cons, List.take_zero] at h0 h1 h2 h3
  obtain ⟨k, ek, -, wk⟩ := DataW.trod_int Tryz.underlying3 h0
  obtain ⟨n, en, -, wn⟩ := DataW.trod_int Tryz.underlying3 h1
  obtain ⟨s, es, -, _⟩ := DataW.trod_string Tryz.underlying9 h2
  simp only [List.cons.injEq, and_true] at ek en es
  subst ek en es
  exact ⟨k, n, s, c3, m, _, hm, rfl, bounds64 wk, bounds64 wn, h3⟩
theorem data_row {b off len : Nat} (D : Nat → RM.Dm) (hb : 0 < len → b < W.heap.size)
    (hD : ∀ i, i < len → (W.cell? ⟨b, off + i * 4, none⟩ = some (.int .i64 (D i).k) ∧ W.cell? ⟨b, off + i * 4 + 1, none⟩ = some (.int .i64 (D i).n) ∧ W.cell? ⟨b, off + i * 4 + 2, none⟩ = some (.string ⟨(D i).s.toArray⟩)
      ∧ ∃ u, W.cell? ⟨b, off + i * 4 + 3, none⟩ = some u ∧ In W u (D i).is)
      ∧ (-9223372036854775808 ≤ (D i).k ∧ (D i).k ≤ 9223372036854775807) ∧ (-9223372036854775808 ≤ (D i).n ∧ (D i).n ≤ 9223372036854775807) ∧ Bd (D i).is) :
    ∀ m, m ≤ len → ∃ d : RM.Dl, d.len = m ∧ InAt W d b (off + (len - m) * 4) ∧ Bd d
  | 0, _ => ⟨.nil, rfl, trivial, trivial⟩
  | m + 1, hm => by
    obtain ⟨d, h1, h2, h3⟩ := data_row D hb hD m (by omega)
    obtain ⟨⟨c0, c1, c2, u, c3, hu⟩, b1, b2, b4⟩ := hD (len - (m + 1)) (by omega)
    obtain ⟨A, c, rfl, hl, b', o', hA, hI⟩ := hu
    refine ⟨.cons (D (len - (m + 1))).k (D (len - (m + 1))).n (D (len - (m + 1))).s (D (len - (m + 1))).is d, by rw [RM.Dl.len, h1], ⟨hb (by omega), c0, c1, c2, ⟨A, c, c3, hl, b', o', hA, hI⟩, ?_⟩, b1, b2, b4, h3⟩
    rw [show off + (len - (m + 1)) * 4 + 4 = off + (len - m) * 4 by omega]
    exact h2
/-- data that came in -/
theorem data_cells : ∀ (fuel : Nat) {cs : List Value} {x : DataW H × List MemPlace}, DataW.trod enc Tryz.prog W 0 (fun _ => true) true fuel 23 cs = some x →
    ∃ v d, cs = [v] ∧ In W v d ∧ Bd d := by
  intro fuel
  induction fuel using Nat.strongRecOn with
  | _ fuel ih =>
    intro cs x h
    rcases DataW.trod_slice Tryz.underlying23 h with ⟨rfl, -⟩ | ⟨a, len, cap, elems, rest, n, hn, rfl, -, -, hl, hm, hlen, hel, -, -⟩
    · exact ⟨_, .nil, rfl, ⟨none, 0, rfl, by simp [RM.Dl.len], 0, 0, fun h => absurd h (by simp [RM.Dl.len]), trivial⟩, trivial⟩
    · have each : ∀ i, i < len → ∃ x : RM.Dm, (W.cell? (a.add (i * 4)) = some (.int .i64 x.k) ∧ W.cell? (a.add (i * 4 + 1)) = some (.int .i64 x.n) ∧ W.cell? (a.add (i * 4 + 2)) = some (.string ⟨x.s.toArray⟩)
          ∧ ∃ u, W.cell? (a.add (i * 4 + 3)) = some u ∧ In W u x.is)
          ∧ (-9223372036854775808 ≤ x.k ∧ x.k ≤ 9223372036854775807) ∧ (-9223372036854775808 ≤ x.n ∧ x.n ≤ 9223372036854775807) ∧ Bd x.is := by
        intro i hi
        have key := hel i hi
        rw [List.getElem?_eq_getElem (by omega)] at key
        obtain ⟨cs', h1, h2⟩ := Option.bind_eq_some_iff.1 key
        rw [fourDatum] at h1
        obtain ⟨k, n', s, u, m, y, hm', rfl, bk, bn, hu⟩ := datum_cells h2
        obtain ⟨v, d, e, hI, hB⟩ := ih m (by omega) hu
        simp only [List.cons.injEq, and_true] at e
        subst e
        obtain ⟨_, _, hat⟩ := World.cells?_some h1
        have c0 := hat 0 (by omega)
        have c1 := hat 1 (by omega)
        have c2 := hat 2 (by omega)
        have c3 := hat 3 (by omega)
        rw [Go.Deep.add_add] at c0 c1 c2 c3
        exact ⟨⟨k, n', s.data.toList, d⟩, ⟨by simpa using c0, by simpa using c1, by simpa using c2, u, by simpa using c3, hI⟩, bk, bn, hB⟩
      have each' : ∀ i, ∃ x : RM.Dm, i < len → (W.cell? (a.add (i * 4)) = some (.int .i64 x.k) ∧ W.cell? (a.add (i * 4 + 1)) = some (.int .i64 x.n) ∧ W.cell? (a.add (i * 4 + 2)) = some (.string ⟨x.s.toArray⟩)
          ∧ ∃ u, W.cell? (a.add (i * 4 + 3)) = some u ∧ In W u x.is)
          ∧ (-9223372036854775808 ≤ x.k ∧ x.k ≤ 9223372036854775807) ∧ (-9223372036854775808 ≤ x.n ∧ x.n ≤ 9223372036854775807) ∧ Bd x.is := fun i => by
        by_cases hi : i < len
        · obtain ⟨x, hx⟩ := each i hi; exact ⟨x, fun _ => hx⟩
        · exact ⟨⟨0, 0, [], .nil⟩, fun h => absurd h hi⟩
      obtain ⟨D, hD⟩ := Classical.axiomOfChoice each'
      obtain ⟨b, off, spot⟩ := a
      by_cases h0 : 0 < len
      · have hspot : spot = none := by simpa [Addr.add] using World.cell?_spot (hD 0 h0).1.1
        subst hspot
        have hlt : b < W.heap.size := by
          have := World.block_lt_of_cell? W _ (hD 0 h0).1.1
          rwa [add_plain] at this
        obtain ⟨d, h1, h2, h3⟩ := data_row (W := W) (b := b) (off := off) D (fun _ => hlt) (fun i hi => by
          obtain ⟨⟨c0, c1, c2, u, c3, hu⟩, hr⟩ := hD i hi
          rw [add_plain] at c0 c1 c2 c3
          exact ⟨⟨c0, c1, c2, u, c3, hu⟩, hr⟩) len (Nat.le_refl _)
        rw [Nat.sub_self, Nat.zero_mul, Nat.add_zero] at h2
        exact ⟨_, d, rfl, ⟨some ⟨b, off, none⟩, cap, by rw [h1], by rw [h1]; unfold maxLen at hm; omega, b, off, fun _ => rfl, h2⟩, h3⟩
      · obtain rfl : len = 0 := by omega
        exact ⟨_, .nil, rfl, ⟨some ⟨b, off, spot⟩, cap, rfl, by simp [RM.Dl.len], 0, 0, fun h => absurd h (by simp [RM.Dl.len]), trivial⟩, trivial⟩
set_option maxRecDepth 100000 in
theorem data_open {base : Nat} {v : Value} {d : DataW H} {ps : List MemPlace} (hv : Value.okWide Tryz.prog W .any base 23 v) (h : DataW.Trod enc Tryz.prog W 0 (fun _ => true) true 23 v d ps) :
    ∃ A c x, v = .slice A (RM.Dl.len x) c ∧ In W (.slice A x.len c) x ∧ Bd x := by
  obtain ⟨a, n, c, rfl⟩ := okWide_slice Tryz.underlying23 hv
  obtain ⟨fuel, hf⟩ := h
  obtain ⟨u, x, e, hI, hB⟩ := data_cells fuel hf
  simp [Value.cells] at e
  subst e
  obtain ⟨A', c', e⟩ := hI.read
  rw [e] at hI
  exact ⟨A', c', x, e, hI, hB⟩
set_option maxRecDepth 100000 in
theorem datum_open {base : Nat} {v : Value} {d : DataW H} {ps : List MemPlace} (hv : Value.okWide Tryz.prog W .any base 25 v) (h : DataW.Trod enc Tryz.prog W 0 (fun _ => true) true 25 v d ps) :
    ∃ (x : RM.Dm) (A : Option Addr) (c : Nat), v = dtv x (.slice A x.is.len c) ∧ In W (.slice A x.is.len c) x.is ∧ (-9223372036854775808 ≤ x.k ∧ x.k ≤ 9223372036854775807) ∧ (-9223372036854775808 ≤ x.n ∧ x.n ≤ 9223372036854775807) ∧ Bd x.is := by
  obtain ⟨cs, rfl, hs⟩ := okWide_struct (Tryz.underlying25) hv
  obtain ⟨fuel, hf⟩ := h
  obtain ⟨k, n, s, u, m, y, -, e, bk, bn, hu⟩ := datum_cells hf
  obtain ⟨v, d, e', hI, hB⟩ := data_cells m hu
  simp only [List.cons.injEq, and_true] at e'
  subst e'
  obtain ⟨A, c, rfl⟩ := hI.read
  refine ⟨⟨k, n, s.data.toList, d⟩, A, c, ?_, hI, bk, bn, hB⟩
  unfold dtv
  congr 1
  obtain ⟨l⟩ := cs
  simp [Value.cells] at e
  subst e
  simp
end
end Go.Proofs.YtpiekdcbjkgipaaGreat
