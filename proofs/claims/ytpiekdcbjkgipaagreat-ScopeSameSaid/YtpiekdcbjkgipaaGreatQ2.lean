/- The plain mathematics of layer 7: what stands where in a text. No dump is read here. -/
import Derived.Test.YtpiekdcbjkgipaaGreatQ1
import Derived.Maps.AppendAt
import Derived.Deep.AppendLies
import Derived.Laws.OwnMore
import Derived.Laws.BytesString
import Derived.Lib.UnsafeStr
import Derived.WalkKit
import Derived.WalkSpells
import Derived.RegionTactic
import Derived.OwnWalk
import Derived.Test.YtpiekdcbjkgipaaGreatRows
namespace Go.Proofs.YtpiekdcbjkgipaaGreat.LM
open Go.RowKit

def blk (x : Int) : Bool := decide (x = 32 ∨ x = 9 ∨ x = 10 ∨ x = 13)
def dlm (x : Int) : Bool := decide (x = 32 ∨ x = 9 ∨ x = 10 ∨ x = 13 ∨ x = 40 ∨ x = 41 ∨ x = 34 ∨ x = 59 ∨ x = 39)
def nmb (x : Int) : Bool := decide (¬ (x = 32 ∨ x = 9 ∨ x = 10 ∨ x = 13 ∨ x = 40 ∨ x = 41 ∨ x = 34 ∨ x = 59 ∨ x = 39) ∧ x ≠ 44 ∧ x ≠ 96 ∧ x ≠ 35 ∧ 33 ≤ x ∧ x ≤ 126)
/-- what a byte is behind a stroke -/
def esc (c : UInt8) : Option UInt8 := if c = 110 then some 10 else if c = 116 then some 9 else if c = 92 ∨ c = 34 then some c else none

/-- within a remark, behind the byte x? -/
def nxn (n : Bool) (x : Int) : Bool := decide (x ≠ 10) && (n || decide (x = 59))
/-- how many blanks stand ahead -/
def skp : Bool → List UInt8 → Nat
  | _, [] => 0
  | n, c :: r => if !nxn n c.toNat && !blk c.toNat then 0 else skp (nxn n c.toNat) r + 1
/-- how long the word is -/
def wln : List UInt8 → Nat
  | [] => 0
  | c :: r => if dlm c.toNat then 0 else wln r + 1
/-- line and column behind some bytes -/
def mv : List UInt8 → Int → Int → Int × Int
  | [], l, k => (l, k)
  | c :: r, l, k => if (c.toNat : Int) = 10 then mv r (l + 1) 1 else mv r l (k + 1)

/-- a token, or an error's kind -/
structure Tk where
  e : Int
  k : Int
  n : Int
  s : List UInt8
  len : Nat
def tok (k n : Int) (s : List UInt8) (len : Nat) : Tk := ⟨0, k, n, s, len⟩
def bad (e : Int) : Tk := ⟨e, 0, 0, [], 0⟩

def sym (l : List UInt8) : Bool := decide (1 ≤ l.length ∧ l.length ≤ 60 ∧ l ≠ [46]) && (l.all (fun c => nmb c.toNat) && !FM.okd (FM.body l))
def wrd (w : List UInt8) : Tk :=
  if w = [46] then tok 8 0 [] 1 else if w = [35, 102] then tok 10 0 [] 2 else if w = [35, 116] then tok 10 1 [] 2
  else if FM.okd (FM.body w) then (if (FM.parse w).2 = 0 then tok 9 (FM.parse w).1 [] w.length else bad 11)
  else if sym w then tok 13 0 w w.length else bad 6
def sp1 : List UInt8 := [115, 112, 97, 99, 101]
def sp2 : List UInt8 := [110, 101, 119, 108, 105, 110, 101]
def sp3 : List UInt8 := [116, 97, 98]
def sp4 : List UInt8 := [110, 117, 108]
/-- the character that is called w; -1: none -/
def cho (w : List UInt8) : Int :=
  if w = sp1 then 32 else if w = sp2 then 10 else if w = sp3 then 9 else if w = sp4 then 0 else
  match w with
  | [c] => if (c.toNat : Int) ≤ 32 then -1 else c.toNat
  | _ => -1
def chr : List UInt8 → Tk
  | [] => bad 6
  | c :: q => if cho (c :: q.take (wln q)) = -1 then bad 6 else tok 11 (cho (c :: q.take (wln q))) [] (3 + wln q)
/-- the bytes of a string, behind its mark: an error's kind, the bytes, how many were written -/
def qt : List UInt8 → List UInt8 → Nat → Int × List UInt8 × Nat
  | [], _, _ => (5, [], 0)
  | c :: r, t, n => if c = 34 then (0, t, n + 1) else if c = 92 then
      match r with
      | [] => (5, [], 0)
      | d :: r' => match esc d with
        | none => (6, [], 0)
        | some x => qt r' (t ++ [x]) (n + 2)
    else qt r (t ++ [c]) (n + 1)
def ofq (q : Int × List UInt8 × Nat) : Tk := if q.1 ≠ 0 then bad q.1 else if 500 < q.2.1.length then bad 14 else tok 12 0 q.2.1 q.2.2
/-- the first byte -/
def hd : List UInt8 → Int
  | [] => -1
  | c :: _ => c.toNat
def scn : List UInt8 → Tk
  | [] => tok 14 0 [] 0
  | c :: r => if (c.toNat : Int) = 44 then (if hd r = 64 then tok 7 0 [] 2 else tok 6 0 [] 1)
    else if (c.toNat : Int) = 35 ∧ hd r = 40 then tok 3 0 [] 2
    else if (c.toNat : Int) = 35 ∧ hd r = 92 then chr (r.drop 1)
    else if (c.toNat : Int) = 40 then tok 1 0 [] 1
    else if (c.toNat : Int) = 41 then tok 2 0 [] 1
    else if (c.toNat : Int) = 39 then tok 4 0 [] 1
    else if (c.toNat : Int) = 96 then tok 5 0 [] 1
    else if (c.toNat : Int) = 34 then ofq (qt r [] 1)
    else wrd ((c :: r).take (wln (c :: r)))
/-- the next token, behind blanks: what it is, its place, and how many bytes there are up to its end -/
structure Nx where
  t : Tk
  line : Int
  col : Int
  len : Nat
def nx (l : List UInt8) (line col : Int) : Nx :=
  ⟨scn (l.drop (skp false l)), (mv (l.take (skp false l)) line col).1, (mv (l.take (skp false l)) line col).2, skp false l + (scn (l.drop (skp false l))).len⟩

/-- a token with its place, and where the text goes on -/
structure Tv where
  k : Int
  n : Int
  s : List UInt8
  line : Int
  col : Int
  next : Nat
def tvo (x : Nx) (at_ : Nat) : Tv := ⟨x.t.k, x.t.n, x.t.s, x.line, x.col, at_ + x.len⟩
/-- all tokens, or the first error with its place -/
def alls : Nat → List UInt8 → Nat → Int → Int → List Tv × (Int × Int × Int)
  | 0, _, _, _, _ => ([], (0, 0, 0))
  | f + 1, l, at_, line, col =>
    if (nx l line col).t.e ≠ 0 then ([], ((nx l line col).t.e, (nx l line col).line, (nx l line col).col))
    else if (nx l line col).t.k = 14 then ([], (0, 0, 0))
    else
      let R := alls f (l.drop (nx l line col).len) (at_ + (nx l line col).len) (mv (l.take (nx l line col).len) line col).1 (mv (l.take (nx l line col).len) line col).2
      if R.2.1 ≠ 0 then ([], R.2) else (tvo (nx l line col) at_ :: R.1, R.2)

/-! ### small facts -/
theorem skp_le (n : Bool) (l : List UInt8) : skp n l ≤ l.length := by
  induction l generalizing n with
  | nil => simp [skp]
  | cons c r ih => unfold skp; split; omega; have := ih (nxn n c.toNat); simp; omega
theorem wln_le (l : List UInt8) : wln l ≤ l.length := by
  induction l with
  | nil => simp [wln]
  | cons c r ih => unfold wln; split; omega; simp; omega
theorem mv_append (a b : List UInt8) (l k : Int) : mv (a ++ b) l k = mv b (mv a l k).1 (mv a l k).2 := by
  induction a generalizing l k with
  | nil => rfl
  | cons c r ih => simp only [List.cons_append, mv]; split <;> exact ih _ _
/-- places rise by no more than the bytes -/
theorem mv_bd (a : List UInt8) (l k : Int) (hk : 1 ≤ k) : l ≤ (mv a l k).1 ∧ (mv a l k).1 ≤ l + a.length ∧ 1 ≤ (mv a l k).2 ∧ (mv a l k).2 ≤ k + a.length := by
  induction a generalizing l k with
  | nil => simp [mv, hk]
  | cons c r ih =>
    simp only [mv, List.length_cons]
    split
    · have := ih (l + 1) 1 (by omega); omega
    · have := ih l (k + 1) (by omega); omega
/-- a byte later is a place later -/
theorem mv_rise (a : List UInt8) (l k : Int) (hk : 1 ≤ k) (ha : a ≠ []) : l < (mv a l k).1 ∨ (l = (mv a l k).1 ∧ k < (mv a l k).2) := by
  cases a with
  | nil => exact absurd rfl ha
  | cons c r =>
    simp only [mv]
    split
    · have := mv_bd r (l + 1) 1 (by omega); omega
    · have h1 := mv_bd r l (k + 1) (by omega)
      clear ha
      induction r generalizing l k with
      | nil => simp [mv]; omega
      | cons d q ih =>
        simp only [mv]
        split
        · have := mv_bd q (l + 1) 1 (by omega); omega
        · have := ih l (k + 1) (by omega) (mv_bd q l (k + 1 + 1) (by omega)); omega
end Go.Proofs.YtpiekdcbjkgipaaGreat.LM

/- Slices that the call itself has made: bytes; tokens. -/
namespace Go.Proofs.YtpiekdcbjkgipaaGreat
open Go.RowKit

/-! ### bytes -/
theorem Tryz.infoByte : (Tryz.prog.info? 5).map (fun i => (i.zero, i.size, i.bytes)) = some (some (.int .u8 0), 1, 1) := by kernel_rfl
/-- v is a slice of just these bytes, nil or in a block of its own from B on -/
def OwnB (w : World) (B : Nat) (v : Value) (l : List UInt8) : Prop := w.ownsRow B 5 1 v l.length (Lib.byteCells l)
theorem OwnB.none_ (w : World) (B : Nat) : OwnB w B (.slice none 0 0) [] := own_none w B _ 1
theorem OwnB.read {w : World} {B : Nat} {v : Value} {l : List UInt8} (h : OwnB w B v l) : ∃ A c, v = .slice A l.length c := by
  obtain ⟨A, c, e, _⟩ := own_read h; exact ⟨A, c, e⟩
theorem byte_push (l : List UInt8) (c : UInt8) : Lib.byteCells l ++ [Value.int .u8 (c.toNat : Int)] = Lib.byteCells (l ++ [c]) := by simp [Lib.byteCells]
theorem fold_bytes : ∀ (l : List UInt8) (r : ByteArray), ((l.map (fun c => (c.toNat : Int))).foldl (fun (r : ByteArray) n => r.push (UInt8.ofNat n.toNat)) r).data.toList = r.data.toList ++ l
  | [], r => by simp
  | x :: l, r => by
    rw [List.map_cons, List.foldl_cons, fold_bytes l]
    simp [ByteArray.push]
theorem bytes_ext {a b : ByteArray} (h : a.data.toList = b.data.toList) : a = b := by
  cases a; cases b; congr; exact Array.toList_inj.1 h
/-! ### tokens -/
def tcs (t : LM.Tv) : List Value := [.int .i64 t.k, .int .i64 t.n, .string ⟨t.s.toArray⟩, .int .i64 t.line, .int .i64 t.col, .int .i64 (t.next : Nat)]
theorem flat_at : ∀ (l : List LM.Tv) (i j : Nat) (t : LM.Tv), l[i]? = some t → j < 6 → (l.flatMap tcs)[i * 6 + j]? = (tcs t)[j]?
  | [], i, j, t, h, _ => by simp at h
  | x :: l, 0, j, t, h, hj => by
    simp at h; subst h
    rw [List.flatMap_cons, List.getElem?_append_left (by simp [tcs]; omega)]; simp
  | x :: l, i + 1, j, t, h, hj => by
    have hl : (tcs x).length = 6 := rfl
    rw [List.flatMap_cons, List.getElem?_append_right (by omega), hl, show (i + 1) * 6 + j - 6 = i * 6 + j by omega]
    exact flat_at l i j t (by simpa using h) hj
end Go.Proofs.YtpiekdcbjkgipaaGreat

/- More of the plain mathematics of layer 7: how long tokens are. No dump is read here. -/
namespace Go.Proofs.YtpiekdcbjkgipaaGreat.LM
open Go.RowKit

theorem hd_some {r : List UInt8} {x : Int} (h : hd r = x) (hx : 0 ≤ x) : ∃ c q, r = c :: q ∧ (c.toNat : Int) = x := by
  cases r with
  | nil => simp [hd] at h; omega
  | cons c q => exact ⟨c, q, rfl, h⟩
theorem qt_len : ∀ (N : Nat) (l t : List UInt8) (n : Nat), l.length ≤ N → (qt l t n).2.2 ≤ n + l.length
  | _, [], t, n, _ => by simp [qt]
  | 0, c :: r, t, n, h => by simp at h
  | N + 1, c :: r, t, n, h => by
    have hl : r.length ≤ N := by simpa using h
    rw [qt.eq_def]
    simp only
    split
    · simp
    · split
      · cases r with
        | nil => simp
        | cons d r' =>
          simp only
          cases esc d with
          | none => simp
          | some x =>
            have := qt_len N r' (t ++ [x]) (n + 2) (by simp at hl; omega)
            simp only [List.length_cons] at this ⊢; omega
      · have := qt_len N r (t ++ [c]) (n + 1) hl
        simp only [List.length_cons] at this ⊢; omega
/-- a string that ends took as many bytes as its mark, and one more at least -/
theorem qt_pos : ∀ (N : Nat) (l t : List UInt8) (n : Nat), l.length ≤ N → (qt l t n).1 = 0 → n + 1 ≤ (qt l t n).2.2
  | _, [], t, n, _ => by simp [qt]
  | 0, c :: r, t, n, h => by simp at h
  | N + 1, c :: r, t, n, h => by
    have hl : r.length ≤ N := by simpa using h
    rw [qt.eq_def]
    simp only
    split
    · simp
    · split
      · cases r with
        | nil => simp
        | cons d r' =>
          simp only
          cases esc d with
          | none => simp
          | some x =>
            intro h0
            have h3 := qt_pos N r' (t ++ [x]) (n + 2) (by simp at hl; omega) h0
            exact Nat.le_trans (by omega) h3
      · intro h0
        have := qt_pos N r (t ++ [c]) (n + 1) hl h0
        omega
theorem wrd_tok (w : List UInt8) : (wrd w).len ≤ w.length ∧ ((wrd w).e = 0 → (wrd w).len = w.length ∧ (wrd w).k ≠ 14) := by
  unfold wrd
  split
  · rename_i h; subst h; simp [tok]
  · split
    · rename_i h; subst h; simp [tok]
    · split
      · rename_i h; subst h; simp [tok]
      · split
        · split
          · simp [tok]
          · simp [bad]
        · split
          · simp [tok]
          · simp [bad]
theorem ofq_len (q : Int × List UInt8 × Nat) : (ofq q).len ≤ q.2.2 ∧ ((ofq q).e = 0 → q.1 = 0 ∧ (ofq q).len = q.2.2 ∧ (ofq q).k = 12) := by
  unfold ofq
  split
  · rename_i h; simp [bad]; intro h2; exact absurd h2 h
  · split
    · simp [bad]
    · rename_i h _; simp [tok]; simpa using h
theorem chr_eq (c : UInt8) (q : List UInt8) : chr (c :: q) = if cho (c :: q.take (wln q)) = -1 then bad 6 else tok 11 (cho (c :: q.take (wln q))) [] (3 + wln q) := rfl
theorem scn_eq (c : UInt8) (r : List UInt8) : scn (c :: r) = if (c.toNat : Int) = 44 then (if hd r = 64 then tok 7 0 [] 2 else tok 6 0 [] 1)
    else if (c.toNat : Int) = 35 ∧ hd r = 40 then tok 3 0 [] 2
    else if (c.toNat : Int) = 35 ∧ hd r = 92 then chr (r.drop 1)
    else if (c.toNat : Int) = 40 then tok 1 0 [] 1
    else if (c.toNat : Int) = 41 then tok 2 0 [] 1
    else if (c.toNat : Int) = 39 then tok 4 0 [] 1
    else if (c.toNat : Int) = 96 then tok 5 0 [] 1
    else if (c.toNat : Int) = 34 then ofq (qt r [] 1)
    else wrd ((c :: r).take (wln (c :: r))) := rfl
theorem chr_len (q : List UInt8) : (chr q).len ≤ 2 + q.length ∧ ((chr q).e = 0 → 3 ≤ (chr q).len ∧ (chr q).k = 11) := by
  cases q with
  | nil => simp [chr, bad]
  | cons c q =>
    have := wln_le q
    rw [chr_eq]
    by_cases h : cho (c :: q.take (wln q)) = -1
    · rw [if_pos h]; simp [bad]
    · rw [if_neg h]; simp [tok]; omega
theorem scn_len (l : List UInt8) : (scn l).len ≤ l.length := by
  cases l with
  | nil => simp [scn, tok]
  | cons c r =>
    rw [scn_eq]
    by_cases h1 : (c.toNat : Int) = 44
    · rw [if_pos h1]
      by_cases h : hd r = 64
      · rw [if_pos h]
        obtain ⟨d, q, rfl, _⟩ := hd_some h (by omega)
        simp [tok]
      · rw [if_neg h]; simp [tok]
    rw [if_neg h1]
    by_cases h2 : (c.toNat : Int) = 35 ∧ hd r = 40
    · rw [if_pos h2]
      obtain ⟨d, q, rfl, _⟩ := hd_some h2.2 (by omega)
      simp [tok]
    rw [if_neg h2]
    by_cases h3 : (c.toNat : Int) = 35 ∧ hd r = 92
    · rw [if_pos h3]
      obtain ⟨d, q, rfl, _⟩ := hd_some h3.2 (by omega)
      have := (chr_len q).1
      simp only [List.drop_succ_cons, List.drop_zero, List.length_cons]; omega
    rw [if_neg h3]
    have e1 : ∀ k, (tok k 0 [] 1).len ≤ (c :: r).length := fun k => by simp [tok]
    by_cases h4 : (c.toNat : Int) = 40
    · rw [if_pos h4]; exact e1 _
    rw [if_neg h4]
    by_cases h5 : (c.toNat : Int) = 41
    · rw [if_pos h5]; exact e1 _
    rw [if_neg h5]
    by_cases h6 : (c.toNat : Int) = 39
    · rw [if_pos h6]; exact e1 _
    rw [if_neg h6]
    by_cases h7 : (c.toNat : Int) = 96
    · rw [if_pos h7]; exact e1 _
    rw [if_neg h7]
    by_cases h8 : (c.toNat : Int) = 34
    · rw [if_pos h8]
      have g1 := (ofq_len (qt r [] 1)).1
      have g2 := qt_len r.length r [] 1 (Nat.le_refl _)
      simp only [List.length_cons]; omega
    rw [if_neg h8]
    have g1 := (wrd_tok ((c :: r).take (wln (c :: r)))).1
    have g2 : ((c :: r).take (wln (c :: r))).length ≤ (c :: r).length := List.length_take_le' _ _
    omega
/-- a token that isn't the end has a byte at least -/
theorem scn_pos (c : UInt8) (r : List UInt8) (hb : dlm c.toNat = false ∨ (c.toNat : Int) = 40 ∨ (c.toNat : Int) = 41 ∨ (c.toNat : Int) = 34 ∨ (c.toNat : Int) = 39) (he : (scn (c :: r)).e = 0) : 1 ≤ (scn (c :: r)).len ∧ (scn (c :: r)).k ≠ 14 := by
  rw [scn_eq] at he ⊢
  by_cases h1 : (c.toNat : Int) = 44
  · rw [if_pos h1]
    by_cases h : hd r = 64
    · rw [if_pos h]; simp [tok]
    · rw [if_neg h]; simp [tok]
  rw [if_neg h1] at he ⊢
  by_cases h2 : (c.toNat : Int) = 35 ∧ hd r = 40
  · rw [if_pos h2]; simp [tok]
  rw [if_neg h2] at he ⊢
  by_cases h3 : (c.toNat : Int) = 35 ∧ hd r = 92
  · rw [if_pos h3] at he ⊢
    have := (chr_len (r.drop 1)).2 he
    rw [this.2]; exact ⟨by omega, by decide⟩
  rw [if_neg h3] at he ⊢
  by_cases h4 : (c.toNat : Int) = 40
  · rw [if_pos h4]; simp [tok]
  rw [if_neg h4] at he ⊢
  by_cases h5 : (c.toNat : Int) = 41
  · rw [if_pos h5]; simp [tok]
  rw [if_neg h5] at he ⊢
  by_cases h6 : (c.toNat : Int) = 39
  · rw [if_pos h6]; simp [tok]
  rw [if_neg h6] at he ⊢
  by_cases h7 : (c.toNat : Int) = 96
  · rw [if_pos h7]; simp [tok]
  rw [if_neg h7] at he ⊢
  by_cases h8 : (c.toNat : Int) = 34
  · rw [if_pos h8] at he ⊢
    have g1 := (ofq_len (qt r [] 1)).2 he
    have g2 := qt_pos r.length r [] 1 (Nat.le_refl _) g1.1
    rw [g1.2.1, g1.2.2]; exact ⟨by omega, by decide⟩
  rw [if_neg h8] at he ⊢
  have h9 := (wrd_tok ((c :: r).take (wln (c :: r)))).2 he
  have hd : dlm c.toNat = false := by
    rcases hb with h | h | h | h | h
    · exact h
    · exact absurd h h4
    · exact absurd h h5
    · exact absurd h h8
    · exact absurd h h6
  have hw : wln (c :: r) = wln r + 1 := by rw [wln, hd]; rfl
  refine ⟨?_, h9.2⟩
  rw [h9.1, hw, List.take_succ_cons]; simp
/-- behind blanks stands the end, or no blank -/
theorem skp_stands (n : Bool) (l : List UInt8) : l.drop (skp n l) = [] ∨ ∃ c r, l.drop (skp n l) = c :: r ∧ blk c.toNat = false ∧ (c.toNat : Int) ≠ 59 := by
  induction l generalizing n with
  | nil => left; rfl
  | cons c r ih =>
    unfold skp
    split
    · rename_i h
      right
      simp only [Bool.and_eq_true, Bool.not_eq_true'] at h
      refine ⟨c, r, rfl, h.2, fun h59 => ?_⟩
      have h1 := h.1
      unfold nxn at h1
      rw [h59] at h1
      simp at h1
    · rw [List.drop_succ_cons]; exact ih _
/-- the next token: it is the end just if nothing but blanks is left; else it has a byte at least -/
theorem nx_end (l : List UInt8) (a b : Int) (he : (nx l a b).t.e = 0) : ((nx l a b).t.k = 14 ∧ (nx l a b).len = l.length ∧ l.drop (skp false l) = []) ∨ ((nx l a b).t.k ≠ 14 ∧ 1 ≤ (nx l a b).t.len ∧ skp false l + 1 ≤ (nx l a b).len ∧ (nx l a b).len ≤ l.length) := by
  have hs := skp_le false l
  have hl := scn_len (l.drop (skp false l))
  rw [List.length_drop] at hl
  rcases skp_stands false l with h | ⟨c, r, h, h1, h2⟩
  · left
    unfold nx at he ⊢
    simp only at he ⊢
    have h0 := congrArg List.length h
    rw [List.length_drop, List.length_nil] at h0
    rw [h]
    refine ⟨rfl, ?_, rfl⟩
    show skp false l + 0 = l.length
    omega
  · right
    unfold nx at he ⊢
    simp only at he ⊢
    rw [h] at he hl ⊢
    have hp := scn_pos c r (by
      by_cases hd : dlm c.toNat = false
      · exact .inl hd
      · right
        have hd' : dlm c.toNat = true := by simpa using hd
        unfold dlm at hd'
        unfold blk at h1
        simp at hd' h1
        omega) he
    exact ⟨hp.2, hp.1, by omega, by omega⟩
end Go.Proofs.YtpiekdcbjkgipaaGreat.LM

/- More of the plain mathematics of layer 7: a token hangs on its own bytes, and on what stands right behind them. No dump is read here. -/
namespace Go.Proofs.YtpiekdcbjkgipaaGreat.LM
open Go.RowKit

theorem hd_nil {z : List UInt8} (h : hd z = -1) : z = [] := by
  cases z with
  | nil => rfl
  | cons c q => simp only [hd] at h; omega
theorem hd_cons (c : UInt8) (q : List UInt8) : hd (c :: q) = c.toNat := rfl
theorem hd_app {a : List UInt8} (z : List UInt8) (h : a ≠ []) : hd (a ++ z) = hd a := by
  cases a with
  | nil => exact absurd rfl h
  | cons c q => rfl
/-- nothing, or a byte that ends a word -/
def dl (z : List UInt8) : Prop := z = [] ∨ dlm (hd z) = true
/-- nothing, a blank, or a remark -/
def brk (z : List UInt8) : Prop := z = [] ∨ blk (hd z) = true ∨ hd z = 59
theorem brk_dl {z : List UInt8} (h : brk z) : dl z := by
  rcases h with h | h | h
  · exact .inl h
  · right; unfold blk at h; unfold dlm; simp only [decide_eq_true_eq] at h ⊢; omega
  · right; rw [h]; decide
theorem brk_ne {z : List UInt8} (h : brk z) : hd z ≠ 64 ∧ hd z ≠ 40 ∧ hd z ≠ 92 := by
  rcases h with h | h | h
  · subst h; decide
  · unfold blk at h; simp only [decide_eq_true_eq] at h; omega
  · omega
theorem wln_nil_of {z : List UInt8} (h : dl z) : wln z = 0 := by
  rcases h with h | h
  · subst h; rfl
  · cases z with
    | nil => rfl
    | cons c q => rw [wln, if_pos (by simpa [hd] using h)]
theorem wln_loc : ∀ (l z : List UInt8), dl z → wln (l.take (wln l) ++ z) = wln l
  | [], z, h => wln_nil_of h
  | c :: r, z, h => by
    by_cases hd : dlm c.toNat = true
    · have e : wln (c :: r) = 0 := by rw [wln, if_pos hd]
      rw [e]; exact wln_nil_of h
    · have e : wln (c :: r) = wln r + 1 := by rw [wln, if_neg hd]
      rw [e, List.take_succ_cons, List.cons_append, wln, if_neg hd, wln_loc r z h]
theorem wln_rest : ∀ (l : List UInt8), dl (l.drop (wln l))
  | [] => .inl rfl
  | c :: r => by
    by_cases hd : dlm c.toNat = true
    · have e : wln (c :: r) = 0 := by rw [wln, if_pos hd]
      rw [e]; exact .inr hd
    · have e : wln (c :: r) = wln r + 1 := by rw [wln, if_neg hd]
      rw [e, List.drop_succ_cons]; exact wln_rest r
theorem take_loc (l z : List UInt8) (n : Nat) (h : n ≤ l.length) : (l.take n ++ z).take n = l.take n := by
  rw [List.take_append_of_le_length (by rw [List.length_take]; omega), List.take_take, Nat.min_self]
theorem qt_loc : ∀ (N : Nat) (l t : List UInt8) (n : Nat) (z : List UInt8), l.length ≤ N → (qt l t n).1 = 0 → qt (l.take ((qt l t n).2.2 - n) ++ z) t n = qt l t n
  | _, [], t, n, z, _, h => by simp [qt] at h
  | 0, c :: r, t, n, z, h, _ => by simp at h
  | N + 1, c :: r, t, n, z, h, h0 => by
    have hl : r.length ≤ N := by simpa using h
    have hp := qt_pos _ (c :: r) t n (Nat.le_refl _) h0
    by_cases h1 : c = 34
    · have e : qt (c :: r) t n = (0, t, n + 1) := by rw [qt.eq_def]; simp only [if_pos h1]
      rw [e, show (0, t, n + 1).2.2 - n = 0 + 1 by simp, List.take_succ_cons, List.cons_append, qt.eq_def]
      simp only [if_pos h1]
    · by_cases h2 : c = 92
      · cases r with
        | nil =>
          have e : qt [c] t n = (5, [], 0) := by rw [qt.eq_def]; simp only [if_neg h1, if_pos h2]
          rw [e] at h0; simp at h0
        | cons d r' =>
          cases hx : esc d with
          | none =>
            have e : qt (c :: d :: r') t n = (6, [], 0) := by rw [qt.eq_def]; simp only [if_neg h1, if_pos h2, hx]
            rw [e] at h0; simp at h0
          | some x =>
            have e : ∀ q, qt (c :: d :: q) t n = qt q (t ++ [x]) (n + 2) := fun q => by rw [qt.eq_def]; simp only [if_neg h1, if_pos h2, hx]
            rw [e] at h0 hp ⊢
            have hq := qt_pos _ r' (t ++ [x]) (n + 2) (Nat.le_refl _) h0
            have ih := qt_loc N r' (t ++ [x]) (n + 2) z (by simp at hl; omega) h0
            rw [show (qt r' (t ++ [x]) (n + 2)).2.2 - n = (qt r' (t ++ [x]) (n + 2)).2.2 - (n + 2) + 1 + 1 by omega, List.take_succ_cons, List.take_succ_cons, List.cons_append, List.cons_append, e]
            exact ih
      · have e : ∀ q, qt (c :: q) t n = qt q (t ++ [c]) (n + 1) := fun q => by rw [qt.eq_def]; simp only [if_neg h1, if_neg h2]
        rw [e] at h0 hp ⊢
        have hq := qt_pos _ r (t ++ [c]) (n + 1) (Nat.le_refl _) h0
        have ih := qt_loc N r (t ++ [c]) (n + 1) z hl h0
        rw [show (qt r (t ++ [c]) (n + 1)).2.2 - n = (qt r (t ++ [c]) (n + 1)).2.2 - (n + 1) + 1 by omega, List.take_succ_cons, List.cons_append, e]
        exact ih
theorem wrd_nil : (wrd []).e = 6 := by decide

/-- what may stand behind a token's bytes: what stood there (by its first byte), or nothing, a blank, a remark -/
def beh (l z : List UInt8) (n : Nat) : Prop := brk z ∨ hd z = hd (l.drop n)
theorem beh_dl {l z : List UInt8} {n : Nat} (h : beh l z n) (hd : dl (l.drop n)) : dl z := by
  rcases h with h | h
  · exact brk_dl h
  · rcases hd with g | g
    · rw [g] at h; exact .inl (hd_nil h)
    · exact .inr (by rw [h]; exact g)
theorem scn_loc (l z : List UInt8) (hl : l ≠ []) (he : (scn l).e = 0) (hz : beh l z (scn l).len) : scn (l.take (scn l).len ++ z) = scn l := by
  cases l with
  | nil => exact absurd rfl hl
  | cons c r =>
    clear hl
    by_cases h1 : (c.toNat : Int) = 44
    · by_cases h : hd r = 64
      · have e : scn (c :: r) = tok 7 0 [] 2 := by rw [scn_eq, if_pos h1, if_pos h]
        obtain ⟨d, q, rfl, hd'⟩ := hd_some h (by omega)
        rw [e]
        show scn ([c, d] ++ z) = _
        rw [List.cons_append, scn_eq, if_pos h1, if_pos (by simpa [hd] using hd')]
      · have e : scn (c :: r) = tok 6 0 [] 1 := by rw [scn_eq, if_pos h1, if_neg h]
        rw [e] at hz ⊢
        show scn (c :: z) = _
        rw [scn_eq, if_pos h1, if_neg]
        rcases hz with g | g
        · exact (brk_ne g).1
        · rw [g]; exact h
    by_cases h2 : (c.toNat : Int) = 35 ∧ hd r = 40
    · have e : scn (c :: r) = tok 3 0 [] 2 := by rw [scn_eq, if_neg h1, if_pos h2]
      obtain ⟨d, q, rfl, hd'⟩ := hd_some h2.2 (by omega)
      rw [e]
      show scn (c :: d :: z) = _
      rw [scn_eq, if_neg h1, if_pos ⟨h2.1, by simpa [hd] using hd'⟩]
    by_cases h3 : (c.toNat : Int) = 35 ∧ hd r = 92
    · have e : ∀ q, hd q = 92 → scn (c :: q) = chr (q.drop 1) := fun q hq => by rw [scn_eq, if_neg h1, if_neg (by rw [hq]; omega), if_pos ⟨h3.1, hq⟩]
      obtain ⟨d, q, rfl, hd'⟩ := hd_some h3.2 (by omega)
      rw [e _ h3.2] at he hz ⊢
      rw [List.drop_succ_cons, List.drop_zero] at he hz ⊢
      cases q with
      | nil => simp [chr, bad] at he
      | cons x q =>
        by_cases hc : cho (x :: q.take (wln q)) = -1
        · rw [chr_eq, if_pos hc] at he; simp [bad] at he
        have ec : chr (x :: q) = tok 11 (cho (x :: q.take (wln q))) [] (3 + wln q) := by rw [chr_eq, if_neg hc]
        rw [ec] at hz ⊢
        have hz' : dl z := by
          refine beh_dl hz ?_
          show dl ((c :: d :: x :: q).drop (3 + wln q))
          rw [show 3 + wln q = wln q + 1 + 1 + 1 by omega]
          exact wln_rest q
        show scn ((c :: d :: x :: q).take (3 + wln q) ++ z) = _
        rw [show 3 + wln q = wln q + 1 + 1 + 1 by omega, List.take_succ_cons, List.take_succ_cons, List.take_succ_cons, List.cons_append, List.cons_append, List.cons_append, e (d :: x :: (q.take (wln q) ++ z)) hd', List.drop_succ_cons, List.drop_zero, chr_eq, wln_loc q z hz', take_loc q z _ (wln_le q), if_neg hc]
        rw [show 3 + wln q = wln q + 1 + 1 + 1 by omega]
    have e1 : ∀ k, (tok k 0 [] 1).len = 1 := fun k => rfl
    have go : ∀ k, (∀ q, scn (c :: q) = tok k 0 [] 1) → scn ((c :: r).take (scn (c :: r)).len ++ z) = scn (c :: r) := fun k h => by
      rw [h, e1]; exact h z
    have n35 : ∀ (q : List UInt8) (x : Int), ¬ (c.toNat : Int) = 35 → ¬ ((c.toNat : Int) = 35 ∧ hd q = x) := fun q x h g => h g.1
    by_cases h4 : (c.toNat : Int) = 40
    · exact go 1 fun q => by rw [scn_eq, if_neg h1, if_neg (n35 q 40 (by omega)), if_neg (n35 q 92 (by omega)), if_pos h4]
    by_cases h5 : (c.toNat : Int) = 41
    · exact go 2 fun q => by rw [scn_eq, if_neg h1, if_neg (n35 q 40 (by omega)), if_neg (n35 q 92 (by omega)), if_neg h4, if_pos h5]
    by_cases h6 : (c.toNat : Int) = 39
    · exact go 4 fun q => by rw [scn_eq, if_neg h1, if_neg (n35 q 40 (by omega)), if_neg (n35 q 92 (by omega)), if_neg h4, if_neg h5, if_pos h6]
    by_cases h7 : (c.toNat : Int) = 96
    · exact go 5 fun q => by rw [scn_eq, if_neg h1, if_neg (n35 q 40 (by omega)), if_neg (n35 q 92 (by omega)), if_neg h4, if_neg h5, if_neg h6, if_pos h7]
    by_cases h8 : (c.toNat : Int) = 34
    · have e : ∀ q, scn (c :: q) = ofq (qt q [] 1) := fun q => by rw [scn_eq, if_neg h1, if_neg (n35 q 40 (by omega)), if_neg (n35 q 92 (by omega)), if_neg h4, if_neg h5, if_neg h6, if_neg h7, if_pos h8]
      rw [e] at he
      have g1 := (ofq_len (qt r [] 1)).2 he
      have g2 := qt_pos r.length r [] 1 (Nat.le_refl _) g1.1
      rw [e, g1.2.1, show (qt r [] 1).2.2 = (qt r [] 1).2.2 - 1 + 1 by omega, List.take_succ_cons, List.cons_append, e, qt_loc r.length r [] 1 z (Nat.le_refl _) g1.1]
    · have e : ∀ q, hd q ≠ 40 ∨ ¬ (c.toNat : Int) = 35 → hd q ≠ 92 ∨ ¬ (c.toNat : Int) = 35 → scn (c :: q) = wrd ((c :: q).take (wln (c :: q))) := fun q g g' => by
        rw [scn_eq, if_neg h1, if_neg (by omega), if_neg (by omega), if_neg h4, if_neg h5, if_neg h6, if_neg h7, if_neg h8]
      have er := e r (by omega) (by omega)
      rw [er] at he hz
      have h9 := (wrd_tok ((c :: r).take (wln (c :: r)))).2 he
      have hd' : ¬ dlm c.toNat = true := fun h => by
        rw [show wln (c :: r) = 0 by rw [wln, if_pos h], List.take_zero, wrd_nil] at he
        omega
      have hw : ∀ q, wln (c :: q) = wln q + 1 := fun q => by rw [wln, if_neg hd']
      have hlen : (wrd ((c :: r).take (wln (c :: r)))).len = wln r + 1 := by
        rw [h9.1, List.length_take, hw]
        have := wln_le r
        simp only [List.length_cons]; omega
      rw [hlen] at hz
      have hz' : dl z := beh_dl hz (by rw [List.drop_succ_cons]; exact wln_rest r)
      have hn : ∀ x : Int, (x = 40 ∨ x = 92) → hd r ≠ x ∨ ¬ (c.toNat : Int) = 35 → hd (r.take (wln r) ++ z) ≠ x ∨ ¬ (c.toNat : Int) = 35 := fun x hx h => by
        by_cases h0 : wln r = 0
        · rw [h0, List.take_zero, List.nil_append]
          rcases hz with g | g
          · have := brk_ne g; left; omega
          · rw [g, List.drop_succ_cons, h0, List.drop_zero]; exact h
        · rw [hd_app z (by intro hh; have hx := congrArg List.length hh; rw [List.length_take, List.length_nil] at hx; have := wln_le r; omega)]
          cases r with
          | nil => exact absurd rfl h0
          | cons d q =>
            have : wln (d :: q) = wln q + 1 := by
              by_cases g : dlm d.toNat = true
              · exact absurd (by rw [wln, if_pos g]) h0
              · rw [wln, if_neg g]
            rw [this, List.take_succ_cons]
            exact h
      rw [er, hlen, List.take_succ_cons, List.cons_append, e _ (hn 40 (.inl rfl) (by omega)) (hn 92 (.inr rfl) (by omega)), hw, hw, wln_loc r z hz', List.take_succ_cons, List.take_succ_cons, take_loc r z _ (wln_le r)]

/-! ### blanks -/
theorem skp_loc : ∀ (n : Bool) (l : List UInt8) (m : Nat) (z : List UInt8), skp n l < m → m ≤ l.length → skp n (l.take m ++ z) = skp n l
  | n, [], m, z, h, hm => by simp at hm; omega
  | n, c :: r, m, z, h, hm => by
    obtain ⟨m', rfl⟩ : ∃ m', m = m' + 1 := ⟨m - 1, by omega⟩
    rw [List.take_succ_cons, List.cons_append]
    unfold skp at h ⊢
    split
    · rfl
    · rename_i hc
      rw [if_neg hc] at h
      rw [skp_loc _ r m' z (by omega) (by simpa using hm)]
theorem skp_cons (n : Bool) (c : UInt8) (r : List UInt8) : skp n (c :: r) = if !nxn n c.toNat && !blk c.toNat then 0 else skp (nxn n c.toNat) r + 1 := rfl
theorem skp_all : ∀ (n : Bool) (l z : List UInt8), skp n l = l.length → skp n (l ++ 10 :: z) = l.length + 1 + skp false z
  | n, [], z, _ => by
    have h1 : nxn n ((10 : UInt8).toNat : Int) = false := by cases n <;> decide
    have h2 : blk ((10 : UInt8).toNat : Int) = true := by decide
    rw [List.nil_append, skp, h1, h2, if_neg (by decide)]
    simp; omega
  | n, c :: r, z, h => by
    rw [List.cons_append]
    rw [skp_cons] at h ⊢
    split
    · rename_i hc; rw [if_pos hc] at h; simp at h
    · rename_i hc
      rw [if_neg hc] at h
      rw [skp_all _ r z (by simpa using h)]
      simp only [List.length_cons]; omega
/-- blanks behind which blanks go on -/
def whole (b : List UInt8) : Prop := ∀ z, skp false (b ++ z) = b.length + skp false z
theorem nx_loc (l z : List UInt8) (m : Nat) (i j : Int) (he : (nx l i j).t.e = 0) (hk : (nx l i j).t.k ≠ 14) (hm : (nx l i j).len ≤ m) (hml : m ≤ l.length) (hz : brk z) : nx (l.take m ++ z) i j = nx l i j := by
  rcases nx_end l i j he with h | ⟨-, h1, h2, h3⟩
  · exact absurd h.1 hk
  have hs : skp false (l.take m ++ z) = skp false l := skp_loc false l m z (by omega) hml
  have hd1 : (l.take m ++ z).drop (skp false l) = (l.drop (skp false l)).take (m - skp false l) ++ z := by
    rw [List.drop_append_of_le_length (by rw [List.length_take]; omega), List.drop_take]
  have hd2 : (l.take m ++ z).take (skp false l) = l.take (skp false l) := by
    rw [List.take_append_of_le_length (by rw [List.length_take]; omega), List.take_take, Nat.min_eq_left (by omega)]
  have hlen : (nx l i j).len = skp false l + (scn (l.drop (skp false l))).len := rfl
  have ht : (nx l i j).t = scn (l.drop (skp false l)) := rfl
  rw [ht] at he h1
  rw [hlen] at hm h2 h3
  have hne : l.drop (skp false l) ≠ [] := fun h => by rw [h] at h1; simp [scn, tok] at h1
  have key : scn ((l.drop (skp false l)).take (m - skp false l) ++ z) = scn (l.drop (skp false l)) := by
    generalize l.drop (skp false l) = l' at *
    have hll := scn_len l'
    have e : l'.take (m - skp false l) ++ z = l'.take (scn l').len ++ ((l'.drop (scn l').len).take (m - skp false l - (scn l').len) ++ z) := by
      rw [← List.append_assoc, ← List.take_add, show (scn l').len + (m - skp false l - (scn l').len) = m - skp false l by omega]
    rw [e]
    refine scn_loc l' _ hne he ?_
    by_cases h0 : (l'.drop (scn l').len).take (m - skp false l - (scn l').len) = []
    · rw [h0]; exact .inl hz
    · right
      rw [hd_app z h0]
      generalize l'.drop (scn l').len = q at *
      cases q with
      | nil => simp at h0
      | cons d q =>
        obtain ⟨k, hk'⟩ : ∃ k, m - skp false l - (scn l').len = k + 1 := by
          cases hx : m - skp false l - (scn l').len with
          | zero => rw [hx] at h0; simp at h0
          | succ k => exact ⟨k, rfl⟩
        rw [hk', List.take_succ_cons]; rfl
  unfold nx
  rw [hs, hd1, hd2, key]
/-- a token and its bytes don't hang on where it stands -/
theorem nx_any (l : List UInt8) (i j i' j' : Int) : (nx l i j).t = (nx l i' j').t ∧ (nx l i j).len = (nx l i' j').len := ⟨rfl, rfl⟩
/-- behind blanks that are whole stands the same token -/
theorem nx_blanks (b l : List UInt8) (i j : Int) (hb : whole b) : (nx (b ++ l) i j).t = (nx l i j).t ∧ (nx (b ++ l) i j).len = b.length + (nx l i j).len := by
  have h := hb l
  have hd1 : (b ++ l).drop (b.length + skp false l) = l.drop (skp false l) := by
    rw [List.drop_append]; simp
  unfold nx
  simp only
  rw [h, hd1]
  exact ⟨rfl, by omega⟩
theorem nx_all (l z : List UInt8) (i j : Int) (h : skp false l = l.length) : (nx (l ++ 10 :: z) i j).t = (nx z i j).t ∧ (nx (l ++ 10 :: z) i j).len = l.length + 1 + (nx z i j).len := by
  have h' := skp_all false l z h
  have hd1 : (l ++ 10 :: z).drop (l.length + 1 + skp false z) = z.drop (skp false z) := by
    rw [show l ++ 10 :: z = (l ++ [10]) ++ z by simp, List.drop_append]
    simp
  unfold nx
  simp only
  rw [h', hd1]
  exact ⟨rfl, by omega⟩
end Go.Proofs.YtpiekdcbjkgipaaGreat.LM
