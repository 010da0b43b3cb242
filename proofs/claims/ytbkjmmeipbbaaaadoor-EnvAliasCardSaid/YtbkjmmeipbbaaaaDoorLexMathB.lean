/- More of the plain mathematics of layer 7: how long tokens are. No dump is read here. -/
import Derived.Test.YtbkjmmeipbbaaaaDoorLexMath
namespace Go.Proofs.YtbkjmmeipbbaaaaDoor.LM
open Go.RowKit

theorem hd_some {r : List UInt8} {x : Int} (h : hd r = x) (hx : 0 ≤ x) : ∃ c q, r = c :: q ∧ (c.toNat : Int) = x := by
  cases r with
  | nil => simp [hd] at h; omega
  | cons c q => exact ⟨c, q, rfl, h⟩
theorem qt_len : ∀ (N : Nat) (l t : List UInt8) (n : Nat), l.length ≤ N → (qt l t n).2.2 ≤ n + l.length
  | _, [], t, n, _ => by simp [qt]
  | 0, c :: r, t, n, h => by simp at h
  | N + 1, c :: r, t, n, h => by
    have hl : r.length ≤ N := by simpa using h
    rw [qt.eq_def]
    simp only
    split
    · simp
    · split
      · cases r with
        | nil => simp
        | cons d r' =>
          simp only
          cases esc d with
          | none => simp
          | some x =>
            have := qt_len N r' (t ++ [x]) (n + 2) (by simp at hl; omega)
            simp only [List.length_cons] at this ⊢; omega
      · have := qt_len N r (t ++ [c]) (n + 1) hl
        simp only [List.length_cons] at this ⊢; omega
/-- a string that ends took as many bytes as its mark, and one more at least -/
theorem qt_pos : ∀ (N : Nat) (l t : List UInt8) (n : Nat), l.length ≤ N → (qt l t n).1 = 0 → n + 1 ≤ (qt l t n).2.2
  | _, [], t, n, _ => by simp [qt]
  | 0, c :: r, t, n, h => by simp at h
  | N + 1, c :: r, t, n, h => by
    have hl : r.length ≤ N := by simpa using h
    rw [qt.eq_def]
    simp only
    split
    · simp
    · split
      · cases r with
        | nil => simp
        | cons d r' =>
          simp only
          cases esc d with
          | none => simp
          | some x =>
            intro h0
            have h3 := qt_pos N r' (t ++ [x]) (n + 2) (by simp at hl; omega) h0
            exact Nat.le_trans (by omega) h3
      · intro h0
        have := qt_pos N r (t ++ [c]) (n + 1) hl h0
        omega
theorem wrd_tok (w : List UInt8) : (wrd w).len ≤ w.length ∧ ((wrd w).e = 0 → (wrd w).len = w.length ∧ (wrd w).k ≠ 14) := by
  unfold wrd
  split
  · rename_i h; subst h; simp [tok]
  · split
    · rename_i h; subst h; simp [tok]
    · split
      · rename_i h; subst h; simp [tok]
      · split
        · split
          · simp [tok]
          · simp [bad]
        · split
          · simp [tok]
          · simp [bad]
theorem ofq_len (q : Int × List UInt8 × Nat) : (ofq q).len ≤ q.2.2 ∧ ((ofq q).e = 0 → q.1 = 0 ∧ (ofq q).len = q.2.2 ∧ (ofq q).k = 12) := by
  unfold ofq
  split
  · rename_i h; simp [bad]; intro h2; exact absurd h2 h
  · split
    · simp [bad]
    · rename_i h _; simp [tok]; simpa using h
theorem chr_eq (c : UInt8) (q : List UInt8) : chr (c :: q) = if cho (c :: q.take (wln q)) = -1 then bad 6 else tok 11 (cho (c :: q.take (wln q))) [] (3 + wln q) := rfl
theorem scn_eq (c : UInt8) (r : List UInt8) : scn (c :: r) = if (c.toNat : Int) = 44 then (if hd r = 64 then tok 7 0 [] 2 else tok 6 0 [] 1)
    else if (c.toNat : Int) = 35 ∧ hd r = 40 then tok 3 0 [] 2
    else if (c.toNat : Int) = 35 ∧ hd r = 92 then chr (r.drop 1)
    else if (c.toNat : Int) = 40 then tok 1 0 [] 1
    else if (c.toNat : Int) = 41 then tok 2 0 [] 1
    else if (c.toNat : Int) = 39 then tok 4 0 [] 1
    else if (c.toNat : Int) = 96 then tok 5 0 [] 1
    else if (c.toNat : Int) = 34 then ofq (qt r [] 1)
    else wrd ((c :: r).take (wln (c :: r))) := rfl
theorem chr_len (q : List UInt8) : (chr q).len ≤ 2 + q.length ∧ ((chr q).e = 0 → 3 ≤ (chr q).len ∧ (chr q).k = 11) := by
  cases q with
  | nil => simp [chr, bad]
  | cons c q =>
    have := wln_le q
    rw [chr_eq]
    by_cases h : cho (c :: q.take (wln q)) = -1
    · rw [if_pos h]; simp [bad]
    · rw [if_neg h]; simp [tok]; omega
theorem scn_len (l : List UInt8) : (scn l).len ≤ l.length := by
  cases l with
  | nil => simp [scn, tok]
  | cons c r =>
    rw [scn_eq]
    by_cases h1 : (c.toNat : Int) = 44
    · rw [if_pos h1]
      by_cases h : hd r = 64
      · rw [if_pos h]
        obtain ⟨d, q, rfl, _⟩ := hd_some h (by omega)
        simp [tok]
      · rw [if_neg h]; simp [tok]
    rw [if_neg h1]
    by_cases h2 : (c.toNat : Int) = 35 ∧ hd r = 40
    · rw [if_pos h2]
      obtain ⟨d, q, rfl, _⟩ := hd_some h2.2 (by omega)
      simp [tok]
    rw [if_neg h2]
    by_cases h3 : (c.toNat : Int) = 35 ∧ hd r = 92
    · rw [if_pos h3]
      obtain ⟨d, q, rfl, _⟩ := hd_some h3.2 (by omega)
      have := (chr_len q).1
      simp only [List.drop_succ_cons, List.drop_zero, List.length_cons]; omega
    rw [if_neg h3]
    have e1 : ∀ k, (tok k 0 [] 1).len ≤ (c :: r).length := fun k => by simp [tok]
    by_cases h4 : (c.toNat : Int) = 40
    · rw [if_pos h4]; exact e1 _
    rw [if_neg h4]
    by_cases h5 : (c.toNat : Int) = 41
    · rw [if_pos h5]; exact e1 _
    rw [if_neg h5]
    by_cases h6 : (c.toNat : Int) = 39
    · rw [if_pos h6]; exact e1 _
    rw [if_neg h6]
    by_cases h7 : (c.toNat : Int) = 96
    · rw [if_pos h7]; exact e1 _
    rw [if_neg h7]
    by_cases h8 : (c.toNat : Int) = 34
    · rw [if_pos h8]
      have g1 := (ofq_len (qt r [] 1)).1
      have g2 := qt_len r.length r [] 1 (Nat.le_refl _)
      simp only [List.length_cons]; omega
    rw [if_neg h8]
    have g1 := (wrd_tok ((c :: r).take (wln (c :: r)))).1
    have g2 : ((c :: r).take (wln (c :: r))).length ≤ (c :: r).length := List.length_take_le' _ _
    omega
/-- a token that isn't the end has a byte at least -/
theorem scn_pos (c : UInt8) (r : List UInt8) (hb : dlm c.toNat = false ∨ (c.toNat : Int) = 40 ∨ (c.toNat : Int) = 41 ∨ (c.toNat : Int) = 34 ∨ (c.toNat : Int) = 39) (he : (scn (c :: r)).e = 0) : 1 ≤ (scn (c :: r)).len ∧ (scn (c :: r)).k ≠ 14 := by
  rw [scn_eq] at he ⊢
  by_cases h1 : (c.toNat : Int) = 44
  · rw [if_pos h1]
    by_cases h : hd r = 64
    · rw [if_pos h]; simp [tok]
    · rw [if_neg h]; simp [tok]
  rw [if_neg h1] at he ⊢
  by_cases h2 : (c.toNat : Int) = 35 ∧ hd r = 40
  · rw [if_pos h2]; simp [tok]
  rw [if_neg h2] at he ⊢
  by_cases h3 : (c.toNat : Int) = 35 ∧ hd r = 92
  · rw [if_pos h3] at he ⊢
    have := (chr_len (r.drop 1)).2 he
    rw [this.2]; exact ⟨by omega, by decide⟩
  rw [if_neg h3] at he ⊢
  by_cases h4 : (c.toNat : Int) = 40
  · rw [if_pos h4]; simp [tok]
  rw [if_neg h4] at he ⊢
  by_cases h5 : (c.toNat : Int) = 41
  · rw [if_pos h5]; simp [tok]
  rw [if_neg h5] at he ⊢
  by_cases h6 : (c.toNat : Int) = 39
  · rw [if_pos h6]; simp [tok]
  rw [if_neg h6] at he ⊢
  by_cases h7 : (c.toNat : Int) = 96
  · rw [if_pos h7]; simp [tok]
  rw [if_neg h7] at he ⊢
  by_cases h8 : (c.toNat : Int) = 34
  · rw [if_pos h8] at he ⊢
    have g1 := (ofq_len (qt r [] 1)).2 he
    have g2 := qt_pos r.length r [] 1 (Nat.le_refl _) g1.1
    rw [g1.2.1, g1.2.2]; exact ⟨by omega, by decide⟩
  rw [if_neg h8] at he ⊢
  have h9 := (wrd_tok ((c :: r).take (wln (c :: r)))).2 he
  have hd : dlm c.toNat = false := by
    rcases hb with h | h | h | h | h
    · exact h
    · exact absurd h h4
    · exact absurd h h5
    · exact absurd h h8
    · exact absurd h h6
  have hw : wln (c :: r) = wln r + 1 := by rw [wln, hd]; rfl
  refine ⟨?_, h9.2⟩
  rw [h9.1, hw, List.take_succ_cons]; simp
/-- behind blanks stands the end, or no blank -/
theorem skp_stands (n : Bool) (l : List UInt8) : l.drop (skp n l) = [] ∨ ∃ c r, l.drop (skp n l) = c :: r ∧ blk c.toNat = false ∧ (c.toNat : Int) ≠ 59 := by
  induction l generalizing n with
  | nil => left; rfl
  | cons c r ih =>
    unfold skp
    split
    · rename_i h
      right
      simp only [Bool.and_eq_true, Bool.not_eq_true'] at h
      refine ⟨c, r, rfl, h.2, fun h59 => ?_⟩
      have h1 := h.1
      unfold nxn at h1
      rw [h59] at h1
      simp at h1
    · rw [List.drop_succ_cons]; exact ih _
/-- the next token: it is the end just if nothing but blanks is left; else it has a byte at least -/
theorem nx_end (l : List UInt8) (a b : Int) (he : (nx l a b).t.e = 0) : ((nx l a b).t.k = 14 ∧ (nx l a b).len = l.length ∧ l.drop (skp false l) = []) ∨ ((nx l a b).t.k ≠ 14 ∧ 1 ≤ (nx l a b).t.len ∧ skp false l + 1 ≤ (nx l a b).len ∧ (nx l a b).len ≤ l.length) := by
  have hs := skp_le false l
  have hl := scn_len (l.drop (skp false l))
  rw [List.length_drop] at hl
  rcases skp_stands false l with h | ⟨c, r, h, h1, h2⟩
  · left
    unfold nx at he ⊢
    simp only at he ⊢
    have h0 := congrArg List.length h
    rw [List.length_drop, List.length_nil] at h0
    rw [h]
    refine ⟨rfl, ?_, rfl⟩
    show skp false l + 0 = l.length
    omega
  · right
    unfold nx at he ⊢
    simp only at he ⊢
    rw [h] at he hl ⊢
    have hp := scn_pos c r (by
      by_cases hd : dlm c.toNat = false
      · exact .inl hd
      · right
        have hd' : dlm c.toNat = true := by simpa using hd
        unfold dlm at hd'
        unfold blk at h1
        simp at hd' h1
        omega) he
    exact ⟨hp.2, hp.1, by omega, by omega⟩
end Go.Proofs.YtbkjmmeipbbaaaaDoor.LM
