/- The plain mathematics of layer 9: how deep data are, how many parts they have, which are right, their texts. No dump is read here. -/
import Derived.Test.YthfelkcomhflnaaDoorQ7
import Derived.Lib.ItoaLen
namespace Go.Proofs.YthfelkcomhflnaaDoor.SM
open Go.RowKit RM

/-- how many stand within one another -/
def hi : Dl → Nat
  | .nil => 0
  | .cons _ _ _ is r => max (hi is + 1) (hi r)
/-- how many there are, with all within them -/
def sz : Dl → Nat
  | .nil => 0
  | .cons _ _ _ is r => sz is + 1 + sz r
/-- the data from a place on -/
def dr : Dl → Nat → Dl
  | d, 0 => d
  | .nil, _ + 1 => .nil
  | .cons _ _ _ _ r, i + 1 => dr r i
/-- the last one's kind -/
def lastk : Dl → Int
  | .nil => 0
  | .cons k _ _ _ r => if r.len = 0 then k else lastk r
theorem dr_at : ∀ (d : Dl) (i : Nat) (x : Dm), d.at_ i = some x → dr d i = .cons x.k x.n x.s x.is (dr d (i + 1))
  | .nil, i, x, h => by simp [Dl.at_] at h
  | .cons k n s is r, 0, x, h => by
    simp only [Dl.at_, Option.some.injEq] at h
    subst h
    cases r <;> rfl
  | .cons k n s is r, i + 1, x, h => by
    show dr r i = .cons x.k x.n x.s x.is (dr r (i + 1))
    exact dr_at r i x h
theorem dr_end : ∀ (d : Dl) (i : Nat), d.len ≤ i → dr d i = .nil
  | .nil, 0, _ => rfl
  | .nil, i + 1, _ => rfl
  | .cons k n s is r, 0, h => by simp [Dl.len] at h
  | .cons k n s is r, i + 1, h => dr_end r i (by simp only [Dl.len] at h; omega)
theorem dr_len : ∀ (d : Dl) (i : Nat), (dr d i).len = d.len - i
  | d, 0 => by simp [dr]
  | .nil, i + 1 => by simp [dr, Dl.len]
  | .cons k n s is r, i + 1 => by rw [dr, dr_len r i, Dl.len]; omega
theorem dr_zero (d : Dl) : dr d 0 = d := by cases d <;> rfl
theorem lastk_at : ∀ (d : Dl) (x : Dm), d.at_ (d.len - 1) = some x → lastk d = x.k
  | .nil, x, h => by simp [Dl.at_] at h
  | .cons k n s is r, x, h => by
    unfold lastk
    by_cases hr : r.len = 0
    · rw [if_pos hr]
      rw [show (Dl.cons k n s is r).len - 1 = 0 by simp [Dl.len, hr]] at h
      simp only [Dl.at_, Option.some.injEq] at h
      subst h; rfl
    · rw [if_neg hr]
      apply lastk_at r x
      rw [show (Dl.cons k n s is r).len - 1 = (r.len - 1) + 1 by simp only [Dl.len]; omega] at h
      exact h

/-- are a datum's fields as its kind asks for? -/
def kd (k n : Int) (s : List UInt8) (is : Dl) : Bool :=
  if k = 1 then decide (is.len = 0) && decide (s = []) && decide (-1152921504606846976 ≤ n ∧ n ≤ 1152921504606846975)
  else if k = 2 then decide (is.len = 0) && decide (s = []) && decide (n = 0 ∨ n = 1)
  else if k = 3 then decide (is.len = 0) && decide (s = []) && decide (0 ≤ n ∧ n ≤ 255)
  else if k = 4 then decide (is.len = 0) && decide (n = 0) && decide (s.length ≤ 500)
  else if k = 5 then decide (is.len = 0) && decide (n = 0) && LM.sym s
  else if k = 6 ∨ k = 8 then decide (n = 0) && decide (s = [])
  else if k = 7 then decide (n = 0) && decide (s = []) && decide (2 ≤ is.len) && decide (lastk is ≠ 6 ∧ lastk is ≠ 7)
  else false
def rgt : Dl → Bool
  | .nil => true
  | .cons k n s is r => kd k n s is && rgt is && rgt r
theorem rgt_none {d : Dl} (h : d.len = 0) : rgt d = true := by
  cases d with
  | nil => rfl
  | cons => simp [Dl.len] at h
theorem rgt_at : ∀ (d : Dl) (i : Nat) (x : Dm), d.at_ i = some x → rgt d = true → kd x.k x.n x.s x.is = true ∧ rgt x.is = true
  | .nil, i, x, h, _ => by simp [Dl.at_] at h
  | .cons k n s is r, 0, x, h, hr => by
    simp only [Dl.at_, Option.some.injEq] at h
    subst h
    simp only [rgt, Bool.and_eq_true] at hr
    exact hr.1
  | .cons k n s is r, i + 1, x, h, hr => by
    simp only [rgt, Bool.and_eq_true] at hr
    exact rgt_at r i x h hr.2
/-- a datum is right: few parts, not too deep, each as it should be -/
def okd (x : Dm) : Bool := decide (sz x.is + 1 ≤ 4000) && decide (hi x.is + 1 ≤ 64) && (kd x.k x.n x.s x.is && rgt x.is)

/-! ### texts -/
def chr (c : Int) : List UInt8 :=
  if c < 0 ∨ 255 < c then []
  else if c = 32 then [35, 92, 115, 112, 97, 99, 101]
  else if c = 10 then [35, 92, 110, 101, 119, 108, 105, 110, 101]
  else if c = 9 then [35, 92, 116, 97, 98]
  else if c = 0 then [35, 92, 110, 117, 108]
  else [35, 92, UInt8.ofNat c.toNat]
def es (c : UInt8) : List UInt8 := if c = 10 then [92, 110] else if c = 9 then [92, 116] else if c = 92 ∨ c = 34 then [92, c] else [c]
def esl : List UInt8 → List UInt8
  | [] => []
  | c :: r => es c ++ esl r
theorem esl_snoc : ∀ (l : List UInt8) (c : UInt8), esl (l ++ [c]) = esl l ++ es c
  | [], c => by simp [esl]
  | d :: r, c => by rw [List.cons_append, esl, esl, esl_snoc r c, List.append_assoc]
theorem es_len (c : UInt8) : 1 ≤ (es c).length ∧ (es c).length ≤ 2 := by
  unfold es
  split
  · simp
  · split
    · simp
    · split <;> simp
theorem esl_len : ∀ l : List UInt8, (esl l).length ≤ 2 * l.length
  | [] => by simp [esl]
  | c :: r => by have := esl_len r; have := (es_len c).2; simp [esl]; omega
def quo (s : List UInt8) : List UInt8 := 34 :: (esl s ++ [34])
/-- a datum's text, of the text of its items -/
def one (p : Bool) (k n : Int) (s inner : List UInt8) : List UInt8 :=
  if k = 1 then Lib.itoa n
  else if k = 2 then (if n = 0 then [35, 102] else [35, 116])
  else if k = 3 then (if p then [UInt8.ofNat n.toNat] else chr n)
  else if k = 4 then (if p then s else quo s)
  else if k = 5 then s
  else (if k = 8 then [35, 40] else [40]) ++ (inner ++ [41])
/-- the texts of items, from one on: dot: a full stop stands ahead of the last; first: nothing stands ahead of these -/
def tl (p dot : Bool) : Bool → Dl → List UInt8
  | _, .nil => []
  | first, .cons k n s is r => (if first then [] else [32]) ++ ((if dot && decide (r.len = 0) then [46, 32] else []) ++ (one p k n s (tl p (decide (k = 7)) true is) ++ tl p dot false r))
def txt (p : Bool) (x : Dm) : List UInt8 := one p x.k x.n x.s (tl p (decide (x.k = 7)) true x.is)
theorem chr_len (c : Int) : (chr c).length ≤ 9 := by
  unfold chr
  split
  · simp
  · split
    · simp
    · split
      · simp
      · split
        · simp
        · split <;> simp
theorem one_len {p : Bool} {k n : Int} {s inner : List UInt8} {is : Dl} (h : kd k n s is = true) (hs : 4 ≤ k → k ≤ 5 → s.length ≤ 500) : (one p k n s inner).length ≤ 1002 + inner.length := by
  unfold one
  split
  · rename_i h1
    subst h1
    have hb : -1152921504606846976 ≤ n ∧ n ≤ 1152921504606846975 := by simp [kd] at h; exact h.2
    have := Lib.itoa_length_le n (by omega) (by omega)
    omega
  · split
    · split <;> simp <;> omega
    · split
      · split
        · simp; omega
        · have := chr_len n; omega
      · split
        · rename_i h4
          have := hs (by omega) (by omega)
          split
          · omega
          · have := esl_len s; simp [quo]; omega
        · split
          · rename_i h5
            have := hs (by omega) (by omega)
            omega
          · split <;> simp <;> omega
theorem sym_short {s : List UInt8} (h : LM.sym s = true) : s.length ≤ 60 := by
  unfold LM.sym at h
  simp only [Bool.and_eq_true, decide_eq_true_eq] at h
  omega
theorem kd_short {k n : Int} {s : List UInt8} {is : Dl} (h : kd k n s is = true) (h4 : 4 ≤ k) (h5 : k ≤ 5) : s.length ≤ 500 := by
  rcases (show k = 4 ∨ k = 5 by omega) with rfl | rfl
  · simp [kd] at h; exact h.2
  · simp [kd] at h; have := sym_short h.2; omega
theorem tl_len (p : Bool) : ∀ (d : Dl) (dot first : Bool), rgt d = true → (tl p dot first d).length ≤ 1010 * sz d
  | .nil, dot, first, _ => by simp [tl]
  | .cons k n s is r, dot, first, h => by
    simp only [rgt, Bool.and_eq_true] at h
    have h1 := tl_len p r dot false h.2
    have h2 := tl_len p is (decide (k = 7)) true h.1.2
    have h3 := one_len (p := p) (inner := tl p (decide (k = 7)) true is) h.1.1 (kd_short h.1.1)
    have h4 : (if first then ([] : List UInt8) else [32]).length ≤ 1 := by split <;> simp
    have h5 : (if dot && decide (r.len = 0) then ([46, 32] : List UInt8) else []).length ≤ 2 := by split <;> simp
    simp only [tl, List.length_append, sz]
    omega
theorem txt_len (p : Bool) (x : Dm) (h : kd x.k x.n x.s x.is = true) (hr : rgt x.is = true) : (txt p x).length ≤ 1010 * (sz x.is + 1) := by
  have h2 := tl_len p x.is (decide (x.k = 7)) true hr
  have h3 := one_len (p := p) (inner := tl p (decide (x.k = 7)) true x.is) h (kd_short h)
  unfold txt
  omega
end Go.Proofs.YthfelkcomhflnaaDoor.SM

/- The plain mathematics of layer 10: terms, their parts, which are right, how their locals are numbered. No dump is read here. -/
namespace Go.Proofs.YthfelkcomhflnaaDoor.TM
open Go.RowKit RM

/-- some terms, one behind the other: each one's kind, number, name, locals, datum and kids -/
inductive Tl where
  | nil : Tl
  | cons : Int → Int → List UInt8 → List Int → Dm → Tl → Tl → Tl
/-- one of them -/
structure Tm where
  k : Int
  n : Int
  s : List UInt8
  ps : List Int
  d : Dm
  ks : Tl
namespace Tl
def len : Tl → Nat
  | .nil => 0
  | .cons _ _ _ _ _ _ r => r.len + 1
def one (t : Tm) : Tl := .cons t.k t.n t.s t.ps t.d t.ks .nil
def app : Tl → Tl → Tl
  | .nil, e => e
  | .cons k n s ps d ks r, e => .cons k n s ps d ks (r.app e)
def snoc (l : Tl) (t : Tm) : Tl := l.app (.one t)
def at_ : Tl → Nat → Option Tm
  | .nil, _ => none
  | .cons k n s ps d ks _, 0 => some ⟨k, n, s, ps, d, ks⟩
  | .cons _ _ _ _ _ _ r, i + 1 => r.at_ i
theorem at_some : ∀ (d : Tl) (i : Nat), i < d.len → ∃ x, d.at_ i = some x
  | .nil, i, h => by simp [len] at h
  | .cons k n s ps d ks r, 0, h => ⟨_, rfl⟩
  | .cons k n s ps d ks r, i + 1, h => at_some r i (by simp only [len] at h; omega)
theorem at_lt : ∀ {d : Tl} {i : Nat} {x : Tm}, d.at_ i = some x → i < d.len
  | .nil, i, _, h => by simp [at_] at h
  | .cons k n s ps d ks r, 0, _, h => by simp [len]
  | .cons k n s ps d ks r, i + 1, x, h => by
    have := at_lt (show r.at_ i = some x from h)
    simp only [len]; omega
theorem app_nil : ∀ l : Tl, l.app .nil = l
  | .nil => rfl
  | .cons k n s ps d ks r => by rw [app, app_nil r]
theorem app_app : ∀ a b c : Tl, (a.app b).app c = a.app (b.app c)
  | .nil, b, c => rfl
  | .cons k n s ps d ks r, b, c => by rw [app, app, app, app_app r]
theorem len_app : ∀ a b : Tl, (a.app b).len = a.len + b.len
  | .nil, b => by simp [app, len]
  | .cons k n s ps d ks r, b => by rw [app, len, len, len_app r]; omega
theorem len_one (t : Tm) : (one t).len = 1 := rfl
theorem len_snoc (l : Tl) (t : Tm) : (l.snoc t).len = l.len + 1 := by rw [snoc, len_app]; rfl
/-- what holds of all terms of a row that is made of such -/
theorem all_of (P : Tm → Prop) (hP : ∀ k n s ps d ks, (∀ i x, at_ ks i = some x → P x) → P ⟨k, n, s, ps, d, ks⟩) : ∀ (d : Tl) (i : Nat) (x : Tm), d.at_ i = some x → P x
  | .nil, i, x, h => by simp [at_] at h
  | .cons k n s ps d ks r, 0, x, h => by
    simp only [at_, Option.some.injEq] at h
    subst h
    exact hP k n s ps d ks (all_of P hP ks)
  | .cons k n s ps d ks r, i + 1, x, h => all_of P hP r i x h
theorem all_one (P : Tm → Prop) (hP : ∀ k n s ps d ks, (∀ i x, at_ ks i = some x → P x) → P ⟨k, n, s, ps, d, ks⟩) (x : Tm) : P x := all_of P hP (.one x) 0 x (by cases x; rfl)
/-- those from a place on -/
def dr : Tl → Nat → Tl
  | d, 0 => d
  | .nil, _ + 1 => .nil
  | .cons _ _ _ _ _ _ r, i + 1 => dr r i
theorem dr_zero (d : Tl) : dr d 0 = d := by cases d <;> rfl
theorem dr_at : ∀ (d : Tl) (i : Nat) (x : Tm), d.at_ i = some x → dr d i = .cons x.k x.n x.s x.ps x.d x.ks (dr d (i + 1))
  | .nil, i, x, h => by simp [at_] at h
  | .cons k n s ps d ks r, 0, x, h => by
    simp only [at_, Option.some.injEq] at h
    subst h
    cases r <;> rfl
  | .cons k n s ps d ks r, i + 1, x, h => by
    show dr r i = .cons x.k x.n x.s x.ps x.d x.ks (dr r (i + 1))
    exact dr_at r i x h
theorem dr_end : ∀ (d : Tl) (i : Nat), d.len ≤ i → dr d i = .nil
  | .nil, 0, _ => rfl
  | .nil, i + 1, _ => rfl
  | .cons k n s ps d ks r, 0, h => by simp [len] at h
  | .cons k n s ps d ks r, i + 1, h => dr_end r i (by simp only [len] at h; omega)
theorem dr_len : ∀ (d : Tl) (i : Nat), (dr d i).len = d.len - i
  | d, 0 => by simp [dr]
  | .nil, i + 1 => by simp [dr, len]
  | .cons k n s ps d ks r, i + 1 => by rw [dr, dr_len r i, len]; omega
/-- the first ones -/
def tk : Tl → Nat → Tl
  | _, 0 => .nil
  | .nil, _ + 1 => .nil
  | .cons k n s ps d ks r, i + 1 => .cons k n s ps d ks (tk r i)
theorem tk_zero (d : Tl) : tk d 0 = .nil := by cases d <;> rfl
theorem tk_all : ∀ d : Tl, tk d d.len = d
  | .nil => rfl
  | .cons k n s ps d ks r => by rw [len, tk, tk_all r]
theorem tk_len : ∀ (d : Tl) (i : Nat), i ≤ d.len → (tk d i).len = i
  | .nil, 0, _ => rfl
  | .nil, i + 1, h => by simp [len] at h
  | .cons k n s ps d ks r, 0, _ => rfl
  | .cons k n s ps d ks r, i + 1, h => by rw [tk, len, tk_len r i (by simp only [len] at h; omega)]
theorem tk_snoc : ∀ (d : Tl) (i : Nat) (x : Tm), d.at_ i = some x → tk d (i + 1) = (tk d i).snoc x
  | .nil, i, x, h => by simp [at_] at h
  | .cons k n s ps d ks r, 0, x, h => by
    simp only [at_, Option.some.injEq] at h
    subst h
    cases r <;> rfl
  | .cons k n s ps d ks r, i + 1, x, h => by
    show Tl.cons k n s ps d ks (tk r (i + 1)) = _
    rw [tk_snoc r i x h]; rfl
theorem tk_dr : ∀ (d : Tl) (i : Nat), (tk d i).app (dr d i) = d
  | d, 0 => by rw [tk_zero, dr_zero]; rfl
  | .nil, i + 1 => rfl
  | .cons k n s ps d ks r, i + 1 => by rw [tk, dr, app, tk_dr r i]
end Tl

/-- how many stand within one another -/
def hi : Tl → Nat
  | .nil => 0
  | .cons _ _ _ _ _ ks r => max (hi ks + 1) (hi r)
/-- how many there are, with all within them -/
def sz : Tl → Nat
  | .nil => 0
  | .cons _ _ _ _ _ ks r => sz ks + 1 + sz r
theorem hi_len : ∀ (d : Tl), 0 < d.len → 1 ≤ hi d
  | .nil, h => by simp [Tl.len] at h
  | .cons k n s ps d ks r, _ => by unfold hi; omega
theorem hi_at {d : Tl} {i : Nat} {x : Tm} (h : d.at_ i = some x) : hi (d.dr i) = max (hi x.ks + 1) (hi (d.dr (i + 1))) := by rw [Tl.dr_at d i x h]; rfl
theorem sz_at {d : Tl} {i : Nat} {x : Tm} (h : d.at_ i = some x) : sz (d.dr i) = sz x.ks + 1 + sz (d.dr (i + 1)) := by rw [Tl.dr_at d i x h]; rfl
theorem hi_dr : ∀ (d : Tl) (i : Nat), hi (d.dr i) ≤ hi d
  | d, 0 => by rw [Tl.dr_zero]; exact Nat.le_refl _
  | .nil, i + 1 => Nat.le_refl _
  | .cons k n s ps d ks r, i + 1 => by
    have := hi_dr r i
    show hi (r.dr i) ≤ max (hi ks + 1) (hi r)
    omega
theorem sz_dr : ∀ (d : Tl) (i : Nat), sz (d.dr i) ≤ sz d
  | d, 0 => by rw [Tl.dr_zero]; exact Nat.le_refl _
  | .nil, i + 1 => Nat.le_refl _
  | .cons k n s ps d ks r, i + 1 => by
    have := sz_dr r i
    show sz (r.dr i) ≤ sz ks + 1 + sz r
    omega
theorem sz_in {d : Tl} {i : Nat} {x : Tm} (h : d.at_ i = some x) : sz x.ks + 1 ≤ sz d := by
  have := sz_dr d i
  rw [sz_at h] at this
  omega
theorem hi_in {d : Tl} {i : Nat} {x : Tm} (h : d.at_ i = some x) : hi x.ks + 1 ≤ hi d := by
  have := hi_dr d i
  rw [hi_at h] at this
  omega
theorem len_sz : ∀ d : Tl, d.len ≤ sz d
  | .nil => Nat.le_refl _
  | .cons k n s ps d ks r => by have := len_sz r; simp only [Tl.len, sz]; omega

/-- all Params, from the front -/
def prs : Tl → List Int
  | .nil => []
  | .cons _ _ _ ps _ ks r => ps ++ (prs ks ++ prs r)
theorem prs_app : ∀ a b : Tl, prs (a.app b) = prs a ++ prs b
  | .nil, b => rfl
  | .cons k n s ps d ks r, b => by rw [Tl.app, prs, prs, prs_app r b]; simp
theorem prs_snoc (a : Tl) (x : Tm) : prs (a.snoc x) = prs a ++ (x.ps ++ prs x.ks) := by rw [Tl.snoc, prs_app]; simp [Tl.one, prs]
/-- are these locals that weren't met, all above 0, each once? -/
def frs : List Int → List Int → Bool
  | _, [] => true
  | met, p :: r => decide (1 ≤ p) && !met.contains p && frs (met ++ [p]) r
theorem frs_app : ∀ (met a b : List Int), frs met (a ++ b) = (frs met a && frs (met ++ a) b)
  | met, [], b => by simp [frs]
  | met, p :: a, b => by
    rw [List.cons_append, frs, frs, frs_app (met ++ [p]) a b, List.append_assoc]
    simp [Bool.and_assoc]

def nod (d : Dm) : Bool := decide (d.k = 0) && decide (d.n = 0) && decide (d.s = []) && decide (d.is.len = 0)
/-- may a datum be quoted? -/
def quo (d : Dm) : Bool := if d.k = 0 then (decide (d.n = 0) || decide (d.n = 1)) && decide (d.s = []) && decide (d.is.len = 0) else SM.okd d
/-- are a term's fields as its kind asks for, where these locals are bound? -/
def fit (bd : List Int) (t : Tm) : Bool :=
  if t.k = 1 then decide (t.ks.len = 0) && decide (t.s = []) && decide (t.ps = []) && decide (t.n = 0) && quo t.d
  else if t.k = 2 then decide (t.ks.len = 0) && decide (t.s = []) && decide (t.ps = []) && bd.contains t.n && nod t.d
  else if t.k = 3 then decide (t.ks.len = 0) && decide (t.ps = []) && decide (t.n = 0) && LM.sym t.s && nod t.d
  else if t.k = 4 then decide (t.ks.len = 1) && decide (t.s = []) && decide (t.ps = []) && bd.contains t.n && nod t.d
  else if t.k = 5 ∨ t.k = 6 then decide (t.ks.len = 1) && decide (t.ps = []) && decide (t.n = 0) && LM.sym t.s && nod t.d
  else if t.k = 7 then (decide (t.ks.len = 2) || decide (t.ks.len = 3)) && decide (t.s = []) && decide (t.ps = []) && decide (t.n = 0) && nod t.d
  else if t.k = 8 then decide (t.ks.len = 1) && decide (t.s = []) && decide (t.ps.length ≤ 24) && (decide (t.n = 0) || (decide (t.n = 1) && !decide (t.ps = []))) && nod t.d
  else if t.k = 9 then decide (1 ≤ t.ks.len) && decide (t.s = []) && decide (t.ps = []) && decide (t.n = 0) && nod t.d
  else if t.k = 10 then decide (1 ≤ t.ks.len) && decide (t.ks.len ≤ 29) && decide (t.s = []) && decide (t.ps = []) && decide (t.n = 0) && nod t.d
  else false
/-- are all of a row right, where these locals are bound? (whatever their Params are) -/
def rtl : List Int → Tl → Bool
  | _, .nil => true
  | bd, .cons k n s ps d ks r => fit bd ⟨k, n, s, ps, d, ks⟩ && rtl (bd ++ ps) ks && rtl bd r
theorem rtl_at {bd : List Int} {d : Tl} {i : Nat} {x : Tm} (h : d.at_ i = some x) : rtl bd (d.dr i) = (fit bd x && rtl (bd ++ x.ps) x.ks && rtl bd (d.dr (i + 1))) := by rw [Tl.dr_at d i x h]; rfl
theorem rtl_end (bd : List Int) {d : Tl} {i : Nat} (h : d.len ≤ i) : rtl bd (d.dr i) = true := by rw [Tl.dr_end d i h]; rfl
theorem prs_at {d : Tl} {i : Nat} {x : Tm} (h : d.at_ i = some x) : prs (d.dr i) = x.ps ++ (prs x.ks ++ prs (d.dr (i + 1))) := by rw [Tl.dr_at d i x h]; rfl
/-- is a term right where some locals were met, and some of them are bound? -/
def ok1 (bd : List Int) (t : Tm) : Bool := fit bd t && rtl (bd ++ t.ps) t.ks
def okt (t : Tm) : Bool := decide (sz t.ks + 1 ≤ 4000) && decide (hi t.ks + 1 ≤ 200) && frs [] (t.ps ++ prs t.ks) && ok1 [] t

/-- a local's place among some, from 1 on -/
def pl (l : List Int) (n : Int) : Int := if l.contains n then (l.idxOf n : Int) + 1 else 0
/-- the same terms, with their locals numbered -/
def nmt (l : List Int) : Tl → Tl
  | .nil => .nil
  | .cons k n s ps d ks r => .cons k (if k = 2 ∨ k = 4 then pl l n else n) s (ps.map (pl l)) d (nmt l ks) (nmt l r)
def nm1 (l : List Int) (t : Tm) : Tm := ⟨t.k, if t.k = 2 ∨ t.k = 4 then pl l t.n else t.n, t.s, t.ps.map (pl l), t.d, nmt l t.ks⟩
def alpha (t : Tm) : Tm := nm1 (t.ps ++ prs t.ks) t
theorem nmt_len (l : List Int) : ∀ d : Tl, (nmt l d).len = d.len
  | .nil => rfl
  | .cons k n s ps d ks r => by rw [nmt, Tl.len, Tl.len, nmt_len l r]
theorem nmt_at (l : List Int) : ∀ {d : Tl} {i : Nat} {x : Tm}, d.at_ i = some x → (nmt l d).at_ i = some (nm1 l x)
  | .nil, i, x, h => by simp [Tl.at_] at h
  | .cons k n s ps d ks r, 0, x, h => by
    simp only [Tl.at_, Option.some.injEq] at h
    subst h; rfl
  | .cons k n s ps d ks r, i + 1, x, h => by
    have h' : r.at_ i = some x := h
    exact nmt_at l (d := r) (i := i) h'
theorem nmt_snoc (l : List Int) : ∀ (d : Tl) (x : Tm), nmt l (d.snoc x) = (nmt l d).snoc (nm1 l x)
  | .nil, x => rfl
  | .cons k n s ps d ks r, x => by
    show Tl.cons _ _ _ _ _ _ (nmt l (r.snoc x)) = _
    rw [nmt_snoc l r x]; rfl
end Go.Proofs.YthfelkcomhflnaaDoor.TM
