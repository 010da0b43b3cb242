/- The plain mathematics of layer 7: what stands where in a text. No dump is read here. -/
import Derived.Test.YthfelkcomhflnaaDoorQ1
import Derived.Test.YthfelkcomhflnaaDoorQ3
import Derived.Maps.AppendAt
import Derived.Deep.AppendLies
import Derived.Laws.OwnMore
import Derived.Laws.BytesString
import Derived.Lib.UnsafeStr
import Derived.WalkKit
import Derived.WalkSpells
import Derived.RegionTactic
import Derived.OwnWalk
import Derived.Test.YthfelkcomhflnaaDoorRows
namespace Go.Proofs.YthfelkcomhflnaaDoor.LM
open Go.RowKit

def blk (x : Int) : Bool := decide (x = 32 ∨ x = 9 ∨ x = 10 ∨ x = 13)
def dlm (x : Int) : Bool := decide (x = 32 ∨ x = 9 ∨ x = 10 ∨ x = 13 ∨ x = 40 ∨ x = 41 ∨ x = 34 ∨ x = 59 ∨ x = 39)
def nmb (x : Int) : Bool := decide (¬ (x = 32 ∨ x = 9 ∨ x = 10 ∨ x = 13 ∨ x = 40 ∨ x = 41 ∨ x = 34 ∨ x = 59 ∨ x = 39) ∧ x ≠ 44 ∧ x ≠ 96 ∧ x ≠ 35 ∧ 33 ≤ x ∧ x ≤ 126)
/-- what a byte is behind a stroke -/
def esc (c : UInt8) : Option UInt8 := if c = 110 then some 10 else if c = 116 then some 9 else if c = 92 ∨ c = 34 then some c else none

/-- within a remark, behind the byte x? -/
def nxn (n : Bool) (x : Int) : Bool := decide (x ≠ 10) && (n || decide (x = 59))
/-- how many blanks stand ahead -/
def skp : Bool → List UInt8 → Nat
  | _, [] => 0
  | n, c :: r => if !nxn n c.toNat && !blk c.toNat then 0 else skp (nxn n c.toNat) r + 1
/-- how long the word is -/
def wln : List UInt8 → Nat
  | [] => 0
  | c :: r => if dlm c.toNat then 0 else wln r + 1
/-- line and column behind some bytes -/
def mv : List UInt8 → Int → Int → Int × Int
  | [], l, k => (l, k)
  | c :: r, l, k => if (c.toNat : Int) = 10 then mv r (l + 1) 1 else mv r l (k + 1)

/-- a token, or an error's kind -/
structure Tk where
  e : Int
  k : Int
  n : Int
  s : List UInt8
  len : Nat
def tok (k n : Int) (s : List UInt8) (len : Nat) : Tk := ⟨0, k, n, s, len⟩
def bad (e : Int) : Tk := ⟨e, 0, 0, [], 0⟩

def sym (l : List UInt8) : Bool := decide (1 ≤ l.length ∧ l.length ≤ 60 ∧ l ≠ [46]) && (l.all (fun c => nmb c.toNat) && !FM.okd (FM.body l))
def wrd (w : List UInt8) : Tk :=
  if w = [46] then tok 8 0 [] 1 else if w = [35, 102] then tok 10 0 [] 2 else if w = [35, 116] then tok 10 1 [] 2
  else if FM.okd (FM.body w) then (if (FM.parse w).2 = 0 then tok 9 (FM.parse w).1 [] w.length else bad 11)
  else if sym w then tok 13 0 w w.length else bad 6
def sp1 : List UInt8 := [115, 112, 97, 99, 101]
def sp2 : List UInt8 := [110, 101, 119, 108, 105, 110, 101]
def sp3 : List UInt8 := [116, 97, 98]
def sp4 : List UInt8 := [110, 117, 108]
/-- the character that is called w; -1: none -/
def cho (w : List UInt8) : Int :=
  if w = sp1 then 32 else if w = sp2 then 10 else if w = sp3 then 9 else if w = sp4 then 0 else
  match w with
  | [c] => if (c.toNat : Int) ≤ 32 then -1 else c.toNat
  | _ => -1
def chr : List UInt8 → Tk
  | [] => bad 6
  | c :: q => if cho (c :: q.take (wln q)) = -1 then bad 6 else tok 11 (cho (c :: q.take (wln q))) [] (3 + wln q)
/-- the bytes of a string, behind its mark: an error's kind, the bytes, how many were written -/
def qt : List UInt8 → List UInt8 → Nat → Int × List UInt8 × Nat
  | [], _, _ => (5, [], 0)
  | c :: r, t, n => if c = 34 then (0, t, n + 1) else if c = 92 then
      match r with
      | [] => (5, [], 0)
      | d :: r' => match esc d with
        | none => (6, [], 0)
        | some x => qt r' (t ++ [x]) (n + 2)
    else qt r (t ++ [c]) (n + 1)
def ofq (q : Int × List UInt8 × Nat) : Tk := if q.1 ≠ 0 then bad q.1 else if 500 < q.2.1.length then bad 14 else tok 12 0 q.2.1 q.2.2
/-- the first byte -/
def hd : List UInt8 → Int
  | [] => -1
  | c :: _ => c.toNat
def scn : List UInt8 → Tk
  | [] => tok 14 0 [] 0
  | c :: r => if (c.toNat : Int) = 44 then (if hd r = 64 then tok 7 0 [] 2 else tok 6 0 [] 1)
    else if (c.toNat : Int) = 35 ∧ hd r = 40 then tok 3 0 [] 2
    else if (c.toNat : Int) = 35 ∧ hd r = 92 then chr (r.drop 1)
    else if (c.toNat : Int) = 40 then tok 1 0 [] 1
    else if (c.toNat : Int) = 41 then tok 2 0 [] 1
    else if (c.toNat : Int) = 39 then tok 4 0 [] 1
    else if (c.toNat : Int) = 96 then tok 5 0 [] 1
    else if (c.toNat : Int) = 34 then ofq (qt r [] 1)
    else wrd ((c :: r).take (wln (c :: r)))
/-- the next token, behind blanks: what it is, its place, and how many bytes there are up to its end -/
structure Nx where
  t : Tk
  line : Int
  col : Int
  len : Nat
def nx (l : List UInt8) (line col : Int) : Nx :=
  ⟨scn (l.drop (skp false l)), (mv (l.take (skp false l)) line col).1, (mv (l.take (skp false l)) line col).2, skp false l + (scn (l.drop (skp false l))).len⟩

/-- a token with its place, and where the text goes on -/
structure Tv where
  k : Int
  n : Int
  s : List UInt8
  line : Int
  col : Int
  next : Nat
def tvo (x : Nx) (at_ : Nat) : Tv := ⟨x.t.k, x.t.n, x.t.s, x.line, x.col, at_ + x.len⟩
/-- all tokens, or the first error with its place -/
def alls : Nat → List UInt8 → Nat → Int → Int → List Tv × (Int × Int × Int)
  | 0, _, _, _, _ => ([], (0, 0, 0))
  | f + 1, l, at_, line, col =>
    if (nx l line col).t.e ≠ 0 then ([], ((nx l line col).t.e, (nx l line col).line, (nx l line col).col))
    else if (nx l line col).t.k = 14 then ([], (0, 0, 0))
    else
      let R := alls f (l.drop (nx l line col).len) (at_ + (nx l line col).len) (mv (l.take (nx l line col).len) line col).1 (mv (l.take (nx l line col).len) line col).2
      if R.2.1 ≠ 0 then ([], R.2) else (tvo (nx l line col) at_ :: R.1, R.2)

/-! ### small facts -/
theorem skp_le (n : Bool) (l : List UInt8) : skp n l ≤ l.length := by
  induction l generalizing n with
  | nil => simp [skp]
  | cons c r ih => unfold skp; split; omega; have := ih (nxn n c.toNat); simp; omega
theorem wln_le (l : List UInt8) : wln l ≤ l.length := by
  induction l with
  | nil => simp [wln]
  | cons c r ih => unfold wln; split; omega; simp; omega
theorem mv_append (a b : List UInt8) (l k : Int) : mv (a ++ b) l k = mv b (mv a l k).1 (mv a l k).2 := by
  induction a generalizing l k with
  | nil => rfl
  | cons c r ih => simp only [List.cons_append, mv]; split <;> exact ih _ _
/-- places rise by no more than the bytes -/
theorem mv_bd (a : List UInt8) (l k : Int) (hk : 1 ≤ k) : l ≤ (mv a l k).1 ∧ (mv a l k).1 ≤ l + a.length ∧ 1 ≤ (mv a l k).2 ∧ (mv a l k).2 ≤ k + a.length := by
  induction a generalizing l k with
  | nil => simp [mv, hk]
  | cons c r ih =>
    simp only [mv, List.length_cons]
    split
    · have := ih (l + 1) 1 (by omega); omega
    · have := ih l (k + 1) (by omega); omega
/-- a byte later is a place later -/
theorem mv_rise (a : List UInt8) (l k : Int) (hk : 1 ≤ k) (ha : a ≠ []) : l < (mv a l k).1 ∨ (l = (mv a l k).1 ∧ k < (mv a l k).2) := by
  cases a with
  | nil => exact absurd rfl ha
  | cons c r =>
    simp only [mv]
    split
    · have := mv_bd r (l + 1) 1 (by omega); omega
    · have h1 := mv_bd r l (k + 1) (by omega)
      clear ha
      induction r generalizing l k with
      | nil => simp [mv]; omega
      | cons d q ih =>
        simp only [mv]
        split
        · have := mv_bd q (l + 1) 1 (by omega); omega
        · have := ih l (k + 1) (by omega) (mv_bd q l (k + 1 + 1) (by omega)); omega
end Go.Proofs.YthfelkcomhflnaaDoor.LM

/- Slices that the call itself has made: bytes; tokens. -/
namespace Go.Proofs.YthfelkcomhflnaaDoor
open Go.RowKit

/-! ### bytes -/
theorem Tryd.infoByte : (Tryd.prog.info? 5).map (fun i => (i.zero, i.size, i.bytes)) = some (some (.int .u8 0), 1, 1) := by kernel_rfl
/-- v is a slice of just these bytes, nil or in a block of its own from B on -/
def OwnB (w : World) (B : Nat) (v : Value) (l : List UInt8) : Prop := w.ownsRow B 5 1 v l.length (Lib.byteCells l)
theorem OwnB.none_ (w : World) (B : Nat) : OwnB w B (.slice none 0 0) [] := own_none w B _ 1
theorem OwnB.read {w : World} {B : Nat} {v : Value} {l : List UInt8} (h : OwnB w B v l) : ∃ A c, v = .slice A l.length c := by
  obtain ⟨A, c, e, _⟩ := own_read h; exact ⟨A, c, e⟩
theorem byte_push (l : List UInt8) (c : UInt8) : Lib.byteCells l ++ [Value.int .u8 (c.toNat : Int)] = Lib.byteCells (l ++ [c]) := by simp [Lib.byteCells]
theorem fold_bytes : ∀ (l : List UInt8) (r : ByteArray), ((l.map (fun c => (c.toNat : Int))).foldl (fun (r : ByteArray) n => r.push (UInt8.ofNat n.toNat)) r).data.toList = r.data.toList ++ l
  | [], r => by simp
  | x :: l, r => by
    rw [List.map_cons, List.foldl_cons, fold_bytes l]
    simp [ByteArray.push]
theorem bytes_ext {a b : ByteArray} (h : a.data.toList = b.data.toList) : a = b := by
  cases a; cases b; congr; exact Array.toList_inj.1 h
theorem OwnB.conv {w : World} {B : Nat} {v : Value} {l : List UInt8} (h : OwnB w B v l) :
    (convert 60 9 v).run Tryd.prog w = .ok (.string ⟨l.toArray⟩) w := by
  obtain ⟨A, c, rfl, hr⟩ := own_read h
  rw [run_convert_bytes_string _ _ _ 5 _ _ _ Tryd.underlying60 Tryd.underlying5 Tryd.underlying9]
  cases A with
  | none =>
    have hl : l.length = 0 := by
      rcases Nat.eq_zero_or_pos l.length with h0 | h0
      · exact h0
      · obtain ⟨g, hg, _⟩ := hr 0 (by omega); cases hg
    have : l = [] := List.eq_nil_of_length_eq_zero hl
    subst this
    simp [Conv.bytesToString]
    rfl
  | some a =>
    have := run_bytesToString (P := Tryd.prog) w a l.length c (l.map (fun c => (c.toNat : Int))) (by
      have h2 := run_loadCells_list (P := Tryd.prog) (w := w) a (Lib.byteCells l) (fun j v hj => by
        have hjl : j < l.length := by have := (List.getElem?_eq_some_iff.1 hj).1; simpa [Lib.byteCells] using this
        obtain ⟨g, hg, _, _, hc⟩ := hr j (by omega)
        cases hg
        have hadd : (⟨g, 0, none⟩ : Addr).add j = ⟨g, j, none⟩ := by unfold Addr.add; split <;> simp_all
        rw [hadd, hc, hj])
      rw [Lib.byteCells_length] at h2
      rw [h2]
      simp [Lib.byteCells])
    rw [this]
    congr 2
    apply bytes_ext
    rw [fold_bytes]
    rfl

/-! ### tokens -/
def tcs (t : LM.Tv) : List Value := [.int .i64 t.k, .int .i64 t.n, .string ⟨t.s.toArray⟩, .int .i64 t.line, .int .i64 t.col, .int .i64 (t.next : Nat)]
theorem flat_at : ∀ (l : List LM.Tv) (i j : Nat) (t : LM.Tv), l[i]? = some t → j < 6 → (l.flatMap tcs)[i * 6 + j]? = (tcs t)[j]?
  | [], i, j, t, h, _ => by simp at h
  | x :: l, 0, j, t, h, hj => by
    simp at h; subst h
    rw [List.flatMap_cons, List.getElem?_append_left (by simp [tcs]; omega)]; simp
  | x :: l, i + 1, j, t, h, hj => by
    have hl : (tcs x).length = 6 := rfl
    rw [List.flatMap_cons, List.getElem?_append_right (by omega), hl, show (i + 1) * 6 + j - 6 = i * 6 + j by omega]
    exact flat_at l i j t (by simpa using h) hj
end Go.Proofs.YthfelkcomhflnaaDoor

/- More of the plain mathematics of layer 7: how long tokens are. No dump is read here. -/
namespace Go.Proofs.YthfelkcomhflnaaDoor.LM
open Go.RowKit

theorem hd_some {r : List UInt8} {x : Int} (h : hd r = x) (hx : 0 ≤ x) : ∃ c q, r = c :: q ∧ (c.toNat : Int) = x := by
  cases r with
  | nil => simp [hd] at h; omega
  | cons c q => exact ⟨c, q, rfl, h⟩
theorem qt_len : ∀ (N : Nat) (l t : List UInt8) (n : Nat), l.length ≤ N → (qt l t n).2.2 ≤ n + l.length
  | _, [], t, n, _ => by simp [qt]
  | 0, c :: r, t, n, h => by simp at h
  | N + 1, c :: r, t, n, h => by
    have hl : r.length ≤ N := by simpa using h
    rw [qt.eq_def]
    simp only
    split
    · simp
    · split
      · cases r with
        | nil => simp
        | cons d r' =>
          simp only
          cases esc d with
          | none => simp
          | some x =>
            have := qt_len N r' (t ++ [x]) (n + 2) (by simp at hl; omega)
            simp only [List.length_cons] at this ⊢; omega
      · have := qt_len N r (t ++ [c]) (n + 1) hl
        simp only [List.length_cons] at this ⊢; omega
/-- a string that ends took as many bytes as its mark, and one more at least -/
theorem qt_pos : ∀ (N : Nat) (l t : List UInt8) (n : Nat), l.length ≤ N → (qt l t n).1 = 0 → n + 1 ≤ (qt l t n).2.2
  | _, [], t, n, _ => by simp [qt]
  | 0, c :: r, t, n, h => by simp at h
  | N + 1, c :: r, t, n, h => by
    have hl : r.length ≤ N := by simpa using h
    rw [qt.eq_def]
    simp only
    split
    · simp
    · split
      · cases r with
        | nil => simp
        | cons d r' =>
          simp only
          cases esc d with
          | none => simp
          | some x =>
            intro h0
            have h3 := qt_pos N r' (t ++ [x]) (n + 2) (by simp at hl; omega) h0
            exact Nat.le_trans (by omega) h3
      · intro h0
        have := qt_pos N r (t ++ [c]) (n + 1) hl h0
        omega
theorem wrd_tok (w : List UInt8) : (wrd w).len ≤ w.length ∧ ((wrd w).e = 0 → (wrd w).len = w.length ∧ (wrd w).k ≠ 14) := by
  unfold wrd
  split
  · rename_i h; subst h; simp [tok]
  · split
    · rename_i h; subst h; simp [tok]
    · split
      · rename_i h; subst h; simp [tok]
      · split
        · split
          · simp [tok]
          · simp [bad]
        · split
          · simp [tok]
          · simp [bad]
theorem ofq_len (q : Int × List UInt8 × Nat) : (ofq q).len ≤ q.2.2 ∧ ((ofq q).e = 0 → q.1 = 0 ∧ (ofq q).len = q.2.2 ∧ (ofq q).k = 12) := by
  unfold ofq
  split
  · rename_i h; simp [bad]; intro h2; exact absurd h2 h
  · split
    · simp [bad]
    · rename_i h _; simp [tok]; simpa using h
theorem chr_eq (c : UInt8) (q : List UInt8) : chr (c :: q) = if cho (c :: q.take (wln q)) = -1 then bad 6 else tok 11 (cho (c :: q.take (wln q))) [] (3 + wln q) := rfl
theorem scn_eq (c : UInt8) (r : List UInt8) : scn (c :: r) = if (c.toNat : Int) = 44 then (if hd r = 64 then tok 7 0 [] 2 else tok 6 0 [] 1)
    else if (c.toNat : Int) = 35 ∧ hd r = 40 then tok 3 0 [] 2
    else if (c.toNat : Int) = 35 ∧ hd r = 92 then chr (r.drop 1)
    else if (c.toNat : Int) = 40 then tok 1 0 [] 1
    else if (c.toNat : Int) = 41 then tok 2 0 [] 1
    else if (c.toNat : Int) = 39 then tok 4 0 [] 1
    else if (c.toNat : Int) = 96 then tok 5 0 [] 1
    else if (c.toNat : Int) = 34 then ofq (qt r [] 1)
    else wrd ((c :: r).take (wln (c :: r))) := rfl
theorem chr_len (q : List UInt8) : (chr q).len ≤ 2 + q.length ∧ ((chr q).e = 0 → 3 ≤ (chr q).len ∧ (chr q).k = 11) := by
  cases q with
  | nil => simp [chr, bad]
  | cons c q =>
    have := wln_le q
    rw [chr_eq]
    by_cases h : cho (c :: q.take (wln q)) = -1
    · rw [if_pos h]; simp [bad]
    · rw [if_neg h]; simp [tok]; omega
theorem scn_len (l : List UInt8) : (scn l).len ≤ l.length := by
  cases l with
  | nil => simp [scn, tok]
  | cons c r =>
    rw [scn_eq]
    by_cases h1 : (c.toNat : Int) = 44
    · rw [if_pos h1]
      by_cases h : hd r = 64
      · rw [if_pos h]
        obtain ⟨d, q, rfl, _⟩ := hd_some h (by omega)
        simp [tok]
      · rw [if_neg h]; simp [tok]
    rw [if_neg h1]
    by_cases h2 : (c.toNat : Int) = 35 ∧ hd r = 40
    · rw [if_pos h2]
      obtain ⟨d, q, rfl, _⟩ := hd_some h2.2 (by omega)
      simp [tok]
    rw [if_neg h2]
    by_cases h3 : (c.toNat : Int) = 35 ∧ hd r = 92
    · rw [if_pos h3]
      obtain ⟨d, q, rfl, _⟩ := hd_some h3.2 (by omega)
      have := (chr_len q).1
      simp only [List.drop_succ_cons, List.drop_zero, List.length_cons]; omega
    rw [if_neg h3]
    have e1 : ∀ k, (tok k 0 [] 1).len ≤ (c :: r).length := fun k => by simp [tok]
    by_cases h4 : (c.toNat : Int) = 40
    · rw [if_pos h4]; exact e1 _
    rw [if_neg h4]
    by_cases h5 : (c.toNat : Int) = 41
    · rw [if_pos h5]; exact e1 _
    rw [if_neg h5]
    by_cases h6 : (c.toNat : Int) = 39
    · rw [if_pos h6]; exact e1 _
    rw [if_neg h6]
    by_cases h7 : (c.toNat : Int) = 96
    · rw [if_pos h7]; exact e1 _
    rw [if_neg h7]
    by_cases h8 : (c.toNat : Int) = 34
    · rw [if_pos h8]
      have g1 := (ofq_len (qt r [] 1)).1
      have g2 := qt_len r.length r [] 1 (Nat.le_refl _)
      simp only [List.length_cons]; omega
    rw [if_neg h8]
    have g1 := (wrd_tok ((c :: r).take (wln (c :: r)))).1
    have g2 : ((c :: r).take (wln (c :: r))).length ≤ (c :: r).length := List.length_take_le' _ _
    omega
/-- a token that isn't the end has a byte at least -/
theorem scn_pos (c : UInt8) (r : List UInt8) (hb : dlm c.toNat = false ∨ (c.toNat : Int) = 40 ∨ (c.toNat : Int) = 41 ∨ (c.toNat : Int) = 34 ∨ (c.toNat : Int) = 39) (he : (scn (c :: r)).e = 0) : 1 ≤ (scn (c :: r)).len ∧ (scn (c :: r)).k ≠ 14 := by
  rw [scn_eq] at he ⊢
  by_cases h1 : (c.toNat : Int) = 44
  · rw [if_pos h1]
    by_cases h : hd r = 64
    · rw [if_pos h]; simp [tok]
    · rw [if_neg h]; simp [tok]
  rw [if_neg h1] at he ⊢
  by_cases h2 : (c.toNat : Int) = 35 ∧ hd r = 40
  · rw [if_pos h2]; simp [tok]
  rw [if_neg h2] at he ⊢
  by_cases h3 : (c.toNat : Int) = 35 ∧ hd r = 92
  · rw [if_pos h3] at he ⊢
    have := (chr_len (r.drop 1)).2 he
    rw [this.2]; exact ⟨by omega, by decide⟩
  rw [if_neg h3] at he ⊢
  by_cases h4 : (c.toNat : Int) = 40
  · rw [if_pos h4]; simp [tok]
  rw [if_neg h4] at he ⊢
  by_cases h5 : (c.toNat : Int) = 41
  · rw [if_pos h5]; simp [tok]
  rw [if_neg h5] at he ⊢
  by_cases h6 : (c.toNat : Int) = 39
  · rw [if_pos h6]; simp [tok]
  rw [if_neg h6] at he ⊢
  by_cases h7 : (c.toNat : Int) = 96
  · rw [if_pos h7]; simp [tok]
  rw [if_neg h7] at he ⊢
  by_cases h8 : (c.toNat : Int) = 34
  · rw [if_pos h8] at he ⊢
    have g1 := (ofq_len (qt r [] 1)).2 he
    have g2 := qt_pos r.length r [] 1 (Nat.le_refl _) g1.1
    rw [g1.2.1, g1.2.2]; exact ⟨by omega, by decide⟩
  rw [if_neg h8] at he ⊢
  have h9 := (wrd_tok ((c :: r).take (wln (c :: r)))).2 he
  have hd : dlm c.toNat = false := by
    rcases hb with h | h | h | h | h
    · exact h
    · exact absurd h h4
    · exact absurd h h5
    · exact absurd h h8
    · exact absurd h h6
  have hw : wln (c :: r) = wln r + 1 := by rw [wln, hd]; rfl
  refine ⟨?_, h9.2⟩
  rw [h9.1, hw, List.take_succ_cons]; simp
/-- behind blanks stands the end, or no blank -/
theorem skp_stands (n : Bool) (l : List UInt8) : l.drop (skp n l) = [] ∨ ∃ c r, l.drop (skp n l) = c :: r ∧ blk c.toNat = false ∧ (c.toNat : Int) ≠ 59 := by
  induction l generalizing n with
  | nil => left; rfl
  | cons c r ih =>
    unfold skp
    split
    · rename_i h
      right
      simp only [Bool.and_eq_true, Bool.not_eq_true'] at h
      refine ⟨c, r, rfl, h.2, fun h59 => ?_⟩
      have h1 := h.1
      unfold nxn at h1
      rw [h59] at h1
      simp at h1
    · rw [List.drop_succ_cons]; exact ih _
/-- the next token: it is the end just if nothing but blanks is left; else it has a byte at least -/
theorem nx_end (l : List UInt8) (a b : Int) (he : (nx l a b).t.e = 0) : ((nx l a b).t.k = 14 ∧ (nx l a b).len = l.length ∧ l.drop (skp false l) = []) ∨ ((nx l a b).t.k ≠ 14 ∧ 1 ≤ (nx l a b).t.len ∧ skp false l + 1 ≤ (nx l a b).len ∧ (nx l a b).len ≤ l.length) := by
  have hs := skp_le false l
  have hl := scn_len (l.drop (skp false l))
  rw [List.length_drop] at hl
  rcases skp_stands false l with h | ⟨c, r, h, h1, h2⟩
  · left
    unfold nx at he ⊢
    simp only at he ⊢
    have h0 := congrArg List.length h
    rw [List.length_drop, List.length_nil] at h0
    rw [h]
    refine ⟨rfl, ?_, rfl⟩
    show skp false l + 0 = l.length
    omega
  · right
    unfold nx at he ⊢
    simp only at he ⊢
    rw [h] at he hl ⊢
    have hp := scn_pos c r (by
      by_cases hd : dlm c.toNat = false
      · exact .inl hd
      · right
        have hd' : dlm c.toNat = true := by simpa using hd
        unfold dlm at hd'
        unfold blk at h1
        simp at hd' h1
        omega) he
    exact ⟨hp.2, hp.1, by omega, by omega⟩
end Go.Proofs.YthfelkcomhflnaaDoor.LM
