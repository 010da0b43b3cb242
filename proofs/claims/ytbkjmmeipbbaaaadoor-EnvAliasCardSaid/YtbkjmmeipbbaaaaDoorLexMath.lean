/- The plain mathematics of layer 7: what stands where in a text. No dump is read here. -/
import Derived.Test.YtbkjmmeipbbaaaaDoorFixDigits
namespace Go.Proofs.YtbkjmmeipbbaaaaDoor.LM
open Go.RowKit

def blk (x : Int) : Bool := decide (x = 32 ∨ x = 9 ∨ x = 10 ∨ x = 13)
def dlm (x : Int) : Bool := decide (x = 32 ∨ x = 9 ∨ x = 10 ∨ x = 13 ∨ x = 40 ∨ x = 41 ∨ x = 34 ∨ x = 59 ∨ x = 39)
def nmb (x : Int) : Bool := decide (¬ (x = 32 ∨ x = 9 ∨ x = 10 ∨ x = 13 ∨ x = 40 ∨ x = 41 ∨ x = 34 ∨ x = 59 ∨ x = 39) ∧ x ≠ 44 ∧ x ≠ 96 ∧ x ≠ 35 ∧ 33 ≤ x ∧ x ≤ 126)
/-- what a byte is behind a stroke -/
def esc (c : UInt8) : Option UInt8 := if c = 110 then some 10 else if c = 116 then some 9 else if c = 92 ∨ c = 34 then some c else none

/-- within a remark, behind the byte x? -/
def nxn (n : Bool) (x : Int) : Bool := decide (x ≠ 10) && (n || decide (x = 59))
/-- how many blanks stand ahead -/
def skp : Bool → List UInt8 → Nat
  | _, [] => 0
  | n, c :: r => if !nxn n c.toNat && !blk c.toNat then 0 else skp (nxn n c.toNat) r + 1
/-- how long the word is -/
def wln : List UInt8 → Nat
  | [] => 0
  | c :: r => if dlm c.toNat then 0 else wln r + 1
/-- line and column behind some bytes -/
def mv : List UInt8 → Int → Int → Int × Int
  | [], l, k => (l, k)
  | c :: r, l, k => if (c.toNat : Int) = 10 then mv r (l + 1) 1 else mv r l (k + 1)

/-- a token, or an error's kind -/
structure Tk where
  e : Int
  k : Int
  n : Int
  s : List UInt8
  len : Nat
def tok (k n : Int) (s : List UInt8) (len : Nat) : Tk := ⟨0, k, n, s, len⟩
def bad (e : Int) : Tk := ⟨e, 0, 0, [], 0⟩

def sym (l : List UInt8) : Bool := decide (1 ≤ l.length ∧ l.length ≤ 60 ∧ l ≠ [46]) && (l.all (fun c => nmb c.toNat) && !FM.okd (FM.body l))
def wrd (w : List UInt8) : Tk :=
  if w = [46] then tok 8 0 [] 1 else if w = [35, 102] then tok 10 0 [] 2 else if w = [35, 116] then tok 10 1 [] 2
  else if FM.okd (FM.body w) then (if (FM.parse w).2 = 0 then tok 9 (FM.parse w).1 [] w.length else bad 11)
  else if sym w then tok 13 0 w w.length else bad 6
def sp1 : List UInt8 := [115, 112, 97, 99, 101]
def sp2 : List UInt8 := [110, 101, 119, 108, 105, 110, 101]
def sp3 : List UInt8 := [116, 97, 98]
def sp4 : List UInt8 := [110, 117, 108]
/-- the character that is called w; -1: none -/
def cho (w : List UInt8) : Int :=
  if w = sp1 then 32 else if w = sp2 then 10 else if w = sp3 then 9 else if w = sp4 then 0 else
  match w with
  | [c] => if (c.toNat : Int) ≤ 32 then -1 else c.toNat
  | _ => -1
def chr : List UInt8 → Tk
  | [] => bad 6
  | c :: q => if cho (c :: q.take (wln q)) = -1 then bad 6 else tok 11 (cho (c :: q.take (wln q))) [] (3 + wln q)
/-- the bytes of a string, behind its mark: an error's kind, the bytes, how many were written -/
def qt : List UInt8 → List UInt8 → Nat → Int × List UInt8 × Nat
  | [], _, _ => (5, [], 0)
  | c :: r, t, n => if c = 34 then (0, t, n + 1) else if c = 92 then
      match r with
      | [] => (5, [], 0)
      | d :: r' => match esc d with
        | none => (6, [], 0)
        | some x => qt r' (t ++ [x]) (n + 2)
    else qt r (t ++ [c]) (n + 1)
def ofq (q : Int × List UInt8 × Nat) : Tk := if q.1 ≠ 0 then bad q.1 else if 500 < q.2.1.length then bad 14 else tok 12 0 q.2.1 q.2.2
/-- the first byte -/
def hd : List UInt8 → Int
  | [] => -1
  | c :: _ => c.toNat
def scn : List UInt8 → Tk
  | [] => tok 14 0 [] 0
  | c :: r => if (c.toNat : Int) = 44 then (if hd r = 64 then tok 7 0 [] 2 else tok 6 0 [] 1)
    else if (c.toNat : Int) = 35 ∧ hd r = 40 then tok 3 0 [] 2
    else if (c.toNat : Int) = 35 ∧ hd r = 92 then chr (r.drop 1)
    else if (c.toNat : Int) = 40 then tok 1 0 [] 1
    else if (c.toNat : Int) = 41 then tok 2 0 [] 1
    else if (c.toNat : Int) = 39 then tok 4 0 [] 1
    else if (c.toNat : Int) = 96 then tok 5 0 [] 1
    else if (c.toNat : Int) = 34 then ofq (qt r [] 1)
    else wrd ((c :: r).take (wln (c :: r)))
/-- the next token, behind blanks: what it is, its place, and how many bytes there are up to its end -/
structure Nx where
  t : Tk
  line : Int
  col : Int
  len : Nat
def nx (l : List UInt8) (line col : Int) : Nx :=
  ⟨scn (l.drop (skp false l)), (mv (l.take (skp false l)) line col).1, (mv (l.take (skp false l)) line col).2, skp false l + (scn (l.drop (skp false l))).len⟩

/-- a token with its place, and where the text goes on -/
structure Tv where
  k : Int
  n : Int
  s : List UInt8
  line : Int
  col : Int
  next : Nat
def tvo (x : Nx) (at_ : Nat) : Tv := ⟨x.t.k, x.t.n, x.t.s, x.line, x.col, at_ + x.len⟩
/-- all tokens, or the first error with its place -/
def alls : Nat → List UInt8 → Nat → Int → Int → List Tv × (Int × Int × Int)
  | 0, _, _, _, _ => ([], (0, 0, 0))
  | f + 1, l, at_, line, col =>
    if (nx l line col).t.e ≠ 0 then ([], ((nx l line col).t.e, (nx l line col).line, (nx l line col).col))
    else if (nx l line col).t.k = 14 then ([], (0, 0, 0))
    else
      let R := alls f (l.drop (nx l line col).len) (at_ + (nx l line col).len) (mv (l.take (nx l line col).len) line col).1 (mv (l.take (nx l line col).len) line col).2
      if R.2.1 ≠ 0 then ([], R.2) else (tvo (nx l line col) at_ :: R.1, R.2)

/-! ### small facts -/
theorem skp_le (n : Bool) (l : List UInt8) : skp n l ≤ l.length := by
  induction l generalizing n with
  | nil => simp [skp]
  | cons c r ih => unfold skp; split; omega; have := ih (nxn n c.toNat); simp; omega
theorem wln_le (l : List UInt8) : wln l ≤ l.length := by
  induction l with
  | nil => simp [wln]
  | cons c r ih => unfold wln; split; omega; simp; omega
theorem mv_append (a b : List UInt8) (l k : Int) : mv (a ++ b) l k = mv b (mv a l k).1 (mv a l k).2 := by
  induction a generalizing l k with
  | nil => rfl
  | cons c r ih => simp only [List.cons_append, mv]; split <;> exact ih _ _
/-- places rise by no more than the bytes -/
theorem mv_bd (a : List UInt8) (l k : Int) (hk : 1 ≤ k) : l ≤ (mv a l k).1 ∧ (mv a l k).1 ≤ l + a.length ∧ 1 ≤ (mv a l k).2 ∧ (mv a l k).2 ≤ k + a.length := by
  induction a generalizing l k with
  | nil => simp [mv, hk]
  | cons c r ih =>
    simp only [mv, List.length_cons]
    split
    · have := ih (l + 1) 1 (by omega); omega
    · have := ih l (k + 1) (by omega); omega
/-- a byte later is a place later -/
theorem mv_rise (a : List UInt8) (l k : Int) (hk : 1 ≤ k) (ha : a ≠ []) : l < (mv a l k).1 ∨ (l = (mv a l k).1 ∧ k < (mv a l k).2) := by
  cases a with
  | nil => exact absurd rfl ha
  | cons c r =>
    simp only [mv]
    split
    · have := mv_bd r (l + 1) 1 (by omega); omega
    · have h1 := mv_bd r l (k + 1) (by omega)
      clear ha
      induction r generalizing l k with
      | nil => simp [mv]; omega
      | cons d q ih =>
        simp only [mv]
        split
        · have := mv_bd q (l + 1) 1 (by omega); omega
        · have := ih l (k + 1) (by omega) (mv_bd q l (k + 1 + 1) (by omega)); omega
end Go.Proofs.YtbkjmmeipbbaaaaDoor.LM
