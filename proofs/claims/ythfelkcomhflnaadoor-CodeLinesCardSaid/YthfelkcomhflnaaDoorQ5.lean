/- More of the plain mathematics of layer 7: a token hangs on its own bytes, and on what stands right behind them. No dump is read here. -/
import Derived.Test.YthfelkcomhflnaaDoorQ4
namespace Go.Proofs.YthfelkcomhflnaaDoor.LM
open Go.RowKit

theorem hd_nil {z : List UInt8} (h : hd z = -1) : z = [] := by
  cases z with
  | nil => rfl
  | cons c q => simp only [hd] at h; omega
theorem hd_cons (c : UInt8) (q : List UInt8) : hd (c :: q) = c.toNat := rfl
theorem hd_app {a : List UInt8} (z : List UInt8) (h : a ≠ []) : hd (a ++ z) = hd a := by
  cases a with
  | nil => exact absurd rfl h
  | cons c q => rfl
/-- nothing, or a byte that ends a word -/
def dl (z : List UInt8) : Prop := z = [] ∨ dlm (hd z) = true
/-- nothing, a blank, or a remark -/
def brk (z : List UInt8) : Prop := z = [] ∨ blk (hd z) = true ∨ hd z = 59
theorem brk_dl {z : List UInt8} (h : brk z) : dl z := by
  rcases h with h | h | h
  · exact .inl h
  · right; unfold blk at h; unfold dlm; simp only [decide_eq_true_eq] at h ⊢; omega
  · right; rw [h]; decide
theorem brk_ne {z : List UInt8} (h : brk z) : hd z ≠ 64 ∧ hd z ≠ 40 ∧ hd z ≠ 92 := by
  rcases h with h | h | h
  · subst h; decide
  · unfold blk at h; simp only [decide_eq_true_eq] at h; omega
  · omega
theorem wln_nil_of {z : List UInt8} (h : dl z) : wln z = 0 := by
  rcases h with h | h
  · subst h; rfl
  · cases z with
    | nil => rfl
    | cons c q => rw [wln, if_pos (by simpa [hd] using h)]
theorem wln_loc : ∀ (l z : List UInt8), dl z → wln (l.take (wln l) ++ z) = wln l
  | [], z, h => wln_nil_of h
  | c :: r, z, h => by
    by_cases hd : dlm c.toNat = true
    · have e : wln (c :: r) = 0 := by rw [wln, if_pos hd]
      rw [e]; exact wln_nil_of h
    · have e : wln (c :: r) = wln r + 1 := by rw [wln, if_neg hd]
      rw [e, List.take_succ_cons, List.cons_append, wln, if_neg hd, wln_loc r z h]
theorem wln_rest : ∀ (l : List UInt8), dl (l.drop (wln l))
  | [] => .inl rfl
  | c :: r => by
    by_cases hd : dlm c.toNat = true
    · have e : wln (c :: r) = 0 := by rw [wln, if_pos hd]
      rw [e]; exact .inr hd
    · have e : wln (c :: r) = wln r + 1 := by rw [wln, if_neg hd]
      rw [e, List.drop_succ_cons]; exact wln_rest r
theorem take_loc (l z : List UInt8) (n : Nat) (h : n ≤ l.length) : (l.take n ++ z).take n = l.take n := by
  rw [List.take_append_of_le_length (by rw [List.length_take]; omega), List.take_take, Nat.min_self]
theorem qt_loc : ∀ (N : Nat) (l t : List UInt8) (n : Nat) (z : List UInt8), l.length ≤ N → (qt l t n).1 = 0 → qt (l.take ((qt l t n).2.2 - n) ++ z) t n = qt l t n
  | _, [], t, n, z, _, h => by simp [qt] at h
  | 0, c :: r, t, n, z, h, _ => by simp at h
  | N + 1, c :: r, t, n, z, h, h0 => by
    have hl : r.length ≤ N := by simpa using h
    have hp := qt_pos _ (c :: r) t n (Nat.le_refl _) h0
    by_cases h1 : c = 34
    · have e : qt (c :: r) t n = (0, t, n + 1) := by rw [qt.eq_def]; simp only [if_pos h1]
      rw [e, show (0, t, n + 1).2.2 - n = 0 + 1 by simp, List.take_succ_cons, List.cons_append, qt.eq_def]
      simp only [if_pos h1]
    · by_cases h2 : c = 92
      · cases r with
        | nil =>
          have e : qt [c] t n = (5, [], 0) := by rw [qt.eq_def]; simp only [if_neg h1, if_pos h2]
          rw [e] at h0; simp at h0
        | cons d r' =>
          cases hx : esc d with
          | none =>
            have e : qt (c :: d :: r') t n = (6, [], 0) := by rw [qt.eq_def]; simp only [if_neg h1, if_pos h2, hx]
            rw [e] at h0; simp at h0
          | some x =>
            have e : ∀ q, qt (c :: d :: q) t n = qt q (t ++ [x]) (n + 2) := fun q => by rw [qt.eq_def]; simp only [if_neg h1, if_pos h2, hx]
            rw [e] at h0 hp ⊢
            have hq := qt_pos _ r' (t ++ [x]) (n + 2) (Nat.le_refl _) h0
            have ih := qt_loc N r' (t ++ [x]) (n + 2) z (by simp at hl; omega) h0
            rw [show (qt r' (t ++ [x]) (n + 2)).2.2 - n = (qt r' (t ++ [x]) (n + 2)).2.2 - (n + 2) + 1 + 1 by omega, List.take_succ_cons, List.take_succ_cons, List.cons_append, List.cons_append, e]
            exact ih
      · have e : ∀ q, qt (c :: q) t n = qt q (t ++ [c]) (n + 1) := fun q => by rw [qt.eq_def]; simp only [if_neg h1, if_neg h2]
        rw [e] at h0 hp ⊢
        have hq := qt_pos _ r (t ++ [c]) (n + 1) (Nat.le_refl _) h0
        have ih := qt_loc N r (t ++ [c]) (n + 1) z hl h0
        rw [show (qt r (t ++ [c]) (n + 1)).2.2 - n = (qt r (t ++ [c]) (n + 1)).2.2 - (n + 1) + 1 by omega, List.take_succ_cons, List.cons_append, e]
        exact ih
theorem wrd_nil : (wrd []).e = 6 := by decide

/-- what may stand behind a token's bytes: what stood there (by its first byte), or nothing, a blank, a remark -/
def beh (l z : List UInt8) (n : Nat) : Prop := brk z ∨ hd z = hd (l.drop n)
theorem beh_dl {l z : List UInt8} {n : Nat} (h : beh l z n) (hd : dl (l.drop n)) : dl z := by
  rcases h with h | h
  · exact brk_dl h
  · rcases hd with g | g
    · rw [g] at h; exact .inl (hd_nil h)
    · exact .inr (by rw [h]; exact g)
theorem scn_loc (l z : List UInt8) (hl : l ≠ []) (he : (scn l).e = 0) (hz : beh l z (scn l).len) : scn (l.take (scn l).len ++ z) = scn l := by
  cases l with
  | nil => exact absurd rfl hl
  | cons c r =>
    clear hl
    by_cases h1 : (c.toNat : Int) = 44
    · by_cases h : hd r = 64
      · have e : scn (c :: r) = tok 7 0 [] 2 := by rw [scn_eq, if_pos h1, if_pos h]
        obtain ⟨d, q, rfl, hd'⟩ := hd_some h (by omega)
        rw [e]
        show scn ([c, d] ++ z) = _
        rw [List.cons_append, scn_eq, if_pos h1, if_pos (by simpa [hd] using hd')]
      · have e : scn (c :: r) = tok 6 0 [] 1 := by rw [scn_eq, if_pos h1, if_neg h]
        rw [e] at hz ⊢
        show scn (c :: z) = _
        rw [scn_eq, if_pos h1, if_neg]
        rcases hz with g | g
        · exact (brk_ne g).1
        · rw [g]; exact h
    by_cases h2 : (c.toNat : Int) = 35 ∧ hd r = 40
    · have e : scn (c :: r) = tok 3 0 [] 2 := by rw [scn_eq, if_neg h1, if_pos h2]
      obtain ⟨d, q, rfl, hd'⟩ := hd_some h2.2 (by omega)
      rw [e]
      show scn (c :: d :: z) = _
      rw [scn_eq, if_neg h1, if_pos ⟨h2.1, by simpa [hd] using hd'⟩]
    by_cases h3 : (c.toNat : Int) = 35 ∧ hd r = 92
    · have e : ∀ q, hd q = 92 → scn (c :: q) = chr (q.drop 1) := fun q hq => by rw [scn_eq, if_neg h1, if_neg (by rw [hq]; omega), if_pos ⟨h3.1, hq⟩]
      obtain ⟨d, q, rfl, hd'⟩ := hd_some h3.2 (by omega)
      rw [e _ h3.2] at he hz ⊢
      rw [List.drop_succ_cons, List.drop_zero] at he hz ⊢
      cases q with
      | nil => simp [chr, bad] at he
      | cons x q =>
        by_cases hc : cho (x :: q.take (wln q)) = -1
        · rw [chr_eq, if_pos hc] at he; simp [bad] at he
        have ec : chr (x :: q) = tok 11 (cho (x :: q.take (wln q))) [] (3 + wln q) := by rw [chr_eq, if_neg hc]
        rw [ec] at hz ⊢
        have hz' : dl z := by
          refine beh_dl hz ?_
          show dl ((c :: d :: x :: q).drop (3 + wln q))
          rw [show 3 + wln q = wln q + 1 + 1 + 1 by omega]
          exact wln_rest q
        show scn ((c :: d :: x :: q).take (3 + wln q) ++ z) = _
        rw [show 3 + wln q = wln q + 1 + 1 + 1 by omega, List.take_succ_cons, List.take_succ_cons, List.take_succ_cons, List.cons_append, List.cons_append, List.cons_append, e (d :: x :: (q.take (wln q) ++ z)) hd', List.drop_succ_cons, List.drop_zero, chr_eq, wln_loc q z hz', take_loc q z _ (wln_le q), if_neg hc]
        rw [show 3 + wln q = wln q + 1 + 1 + 1 by omega]
    have e1 : ∀ k, (tok k 0 [] 1).len = 1 := fun k => rfl
    have go : ∀ k, (∀ q, scn (c :: q) = tok k 0 [] 1) → scn ((c :: r).take (scn (c :: r)).len ++ z) = scn (c :: r) := fun k h => by
      rw [h, e1]; exact h z
    have n35 : ∀ (q : List UInt8) (x : Int), ¬ (c.toNat : Int) = 35 → ¬ ((c.toNat : Int) = 35 ∧ hd q = x) := fun q x h g => h g.1
    by_cases h4 : (c.toNat : Int) = 40
    · exact go 1 fun q => by rw [scn_eq, if_neg h1, if_neg (n35 q 40 (by omega)), if_neg (n35 q 92 (by omega)), if_pos h4]
    by_cases h5 : (c.toNat : Int) = 41
    · exact go 2 fun q => by rw [scn_eq, if_neg h1, if_neg (n35 q 40 (by omega)), if_neg (n35 q 92 (by omega)), if_neg h4, if_pos h5]
    by_cases h6 : (c.toNat : Int) = 39
    · exact go 4 fun q => by rw [scn_eq, if_neg h1, if_neg (n35 q 40 (by omega)), if_neg (n35 q 92 (by omega)), if_neg h4, if_neg h5, if_pos h6]
    by_cases h7 : (c.toNat : Int) = 96
    · exact go 5 fun q => by rw [scn_eq, if_neg h1, if_neg (n35 q 40 (by omega)), if_neg (n35 q 92 (by omega)), if_neg h4, if_neg h5, if_neg h6, if_pos h7]
    by_cases h8 : (c.toNat : Int) = 34
    · have e : ∀ q, scn (c :: q) = ofq (qt q [] 1) := fun q => by rw [scn_eq, if_neg h1, if_neg (n35 q 40 (by omega)), if_neg (n35 q 92 (by omega)), if_neg h4, if_neg h5, if_neg h6, if_neg h7, if_pos h8]
      rw [e] at he
      have g1 := (ofq_len (qt r [] 1)).2 he
      have g2 := qt_pos r.length r [] 1 (Nat.le_refl _) g1.1
      rw [e, g1.2.1, show (qt r [] 1).2.2 = (qt r [] 1).2.2 - 1 + 1 by omega, List.take_succ_cons, List.cons_append, e, qt_loc r.length r [] 1 z (Nat.le_refl _) g1.1]
    · have e : ∀ q, hd q ≠ 40 ∨ ¬ (c.toNat : Int) = 35 → hd q ≠ 92 ∨ ¬ (c.toNat : Int) = 35 → scn (c :: q) = wrd ((c :: q).take (wln (c :: q))) := fun q g g' => by
        rw [scn_eq, if_neg h1, if_neg (by omega), if_neg (by omega), if_neg h4, if_neg h5, if_neg h6, if_neg h7, if_neg h8]
      have er := e r (by omega) (by omega)
      rw [er] at he hz
      have h9 := (wrd_tok ((c :: r).take (wln (c :: r)))).2 he
      have hd' : ¬ dlm c.toNat = true := fun h => by
        rw [show wln (c :: r) = 0 by rw [wln, if_pos h], List.take_zero, wrd_nil] at he
        omega
      have hw : ∀ q, wln (c :: q) = wln q + 1 := fun q => by rw [wln, if_neg hd']
      have hlen : (wrd ((c :: r).take (wln (c :: r)))).len = wln r + 1 := by
        rw [h9.1, List.length_take, hw]
        have := wln_le r
        simp only [List.length_cons]; omega
      rw [hlen] at hz
      have hz' : dl z := beh_dl hz (by rw [List.drop_succ_cons]; exact wln_rest r)
      have hn : ∀ x : Int, (x = 40 ∨ x = 92) → hd r ≠ x ∨ ¬ (c.toNat : Int) = 35 → hd (r.take (wln r) ++ z) ≠ x ∨ ¬ (c.toNat : Int) = 35 := fun x hx h => by
        by_cases h0 : wln r = 0
        · rw [h0, List.take_zero, List.nil_append]
          rcases hz with g | g
          · have := brk_ne g; left; omega
          · rw [g, List.drop_succ_cons, h0, List.drop_zero]; exact h
        · rw [hd_app z (by intro hh; have hx := congrArg List.length hh; rw [List.length_take, List.length_nil] at hx; have := wln_le r; omega)]
          cases r with
          | nil => exact absurd rfl h0
          | cons d q =>
            have : wln (d :: q) = wln q + 1 := by
              by_cases g : dlm d.toNat = true
              · exact absurd (by rw [wln, if_pos g]) h0
              · rw [wln, if_neg g]
            rw [this, List.take_succ_cons]
            exact h
      rw [er, hlen, List.take_succ_cons, List.cons_append, e _ (hn 40 (.inl rfl) (by omega)) (hn 92 (.inr rfl) (by omega)), hw, hw, wln_loc r z hz', List.take_succ_cons, List.take_succ_cons, take_loc r z _ (wln_le r)]

/-! ### blanks -/
theorem skp_loc : ∀ (n : Bool) (l : List UInt8) (m : Nat) (z : List UInt8), skp n l < m → m ≤ l.length → skp n (l.take m ++ z) = skp n l
  | n, [], m, z, h, hm => by simp at hm; omega
  | n, c :: r, m, z, h, hm => by
    obtain ⟨m', rfl⟩ : ∃ m', m = m' + 1 := ⟨m - 1, by omega⟩
    rw [List.take_succ_cons, List.cons_append]
    unfold skp at h ⊢
    split
    · rfl
    · rename_i hc
      rw [if_neg hc] at h
      rw [skp_loc _ r m' z (by omega) (by simpa using hm)]
theorem skp_cons (n : Bool) (c : UInt8) (r : List UInt8) : skp n (c :: r) = if !nxn n c.toNat && !blk c.toNat then 0 else skp (nxn n c.toNat) r + 1 := rfl
theorem skp_all : ∀ (n : Bool) (l z : List UInt8), skp n l = l.length → skp n (l ++ 10 :: z) = l.length + 1 + skp false z
  | n, [], z, _ => by
    have h1 : nxn n ((10 : UInt8).toNat : Int) = false := by cases n <;> decide
    have h2 : blk ((10 : UInt8).toNat : Int) = true := by decide
    rw [List.nil_append, skp, h1, h2, if_neg (by decide)]
    simp; omega
  | n, c :: r, z, h => by
    rw [List.cons_append]
    rw [skp_cons] at h ⊢
    split
    · rename_i hc; rw [if_pos hc] at h; simp at h
    · rename_i hc
      rw [if_neg hc] at h
      rw [skp_all _ r z (by simpa using h)]
      simp only [List.length_cons]; omega
/-- blanks behind which blanks go on -/
def whole (b : List UInt8) : Prop := ∀ z, skp false (b ++ z) = b.length + skp false z
theorem nx_loc (l z : List UInt8) (m : Nat) (i j : Int) (he : (nx l i j).t.e = 0) (hk : (nx l i j).t.k ≠ 14) (hm : (nx l i j).len ≤ m) (hml : m ≤ l.length) (hz : brk z) : nx (l.take m ++ z) i j = nx l i j := by
  rcases nx_end l i j he with h | ⟨-, h1, h2, h3⟩
  · exact absurd h.1 hk
  have hs : skp false (l.take m ++ z) = skp false l := skp_loc false l m z (by omega) hml
  have hd1 : (l.take m ++ z).drop (skp false l) = (l.drop (skp false l)).take (m - skp false l) ++ z := by
    rw [List.drop_append_of_le_length (by rw [List.length_take]; omega), List.drop_take]
  have hd2 : (l.take m ++ z).take (skp false l) = l.take (skp false l) := by
    rw [List.take_append_of_le_length (by rw [List.length_take]; omega), List.take_take, Nat.min_eq_left (by omega)]
  have hlen : (nx l i j).len = skp false l + (scn (l.drop (skp false l))).len := rfl
  have ht : (nx l i j).t = scn (l.drop (skp false l)) := rfl
  rw [ht] at he h1
  rw [hlen] at hm h2 h3
  have hne : l.drop (skp false l) ≠ [] := fun h => by rw [h] at h1; simp [scn, tok] at h1
  have key : scn ((l.drop (skp false l)).take (m - skp false l) ++ z) = scn (l.drop (skp false l)) := by
    generalize l.drop (skp false l) = l' at *
    have hll := scn_len l'
    have e : l'.take (m - skp false l) ++ z = l'.take (scn l').len ++ ((l'.drop (scn l').len).take (m - skp false l - (scn l').len) ++ z) := by
      rw [← List.append_assoc, ← List.take_add, show (scn l').len + (m - skp false l - (scn l').len) = m - skp false l by omega]
    rw [e]
    refine scn_loc l' _ hne he ?_
    by_cases h0 : (l'.drop (scn l').len).take (m - skp false l - (scn l').len) = []
    · rw [h0]; exact .inl hz
    · right
      rw [hd_app z h0]
      generalize l'.drop (scn l').len = q at *
      cases q with
      | nil => simp at h0
      | cons d q =>
        obtain ⟨k, hk'⟩ : ∃ k, m - skp false l - (scn l').len = k + 1 := by
          cases hx : m - skp false l - (scn l').len with
          | zero => rw [hx] at h0; simp at h0
          | succ k => exact ⟨k, rfl⟩
        rw [hk', List.take_succ_cons]; rfl
  unfold nx
  rw [hs, hd1, hd2, key]
/-- a token and its bytes don't hang on where it stands -/
theorem nx_any (l : List UInt8) (i j i' j' : Int) : (nx l i j).t = (nx l i' j').t ∧ (nx l i j).len = (nx l i' j').len := ⟨rfl, rfl⟩
/-- behind blanks that are whole stands the same token -/
theorem nx_blanks (b l : List UInt8) (i j : Int) (hb : whole b) : (nx (b ++ l) i j).t = (nx l i j).t ∧ (nx (b ++ l) i j).len = b.length + (nx l i j).len := by
  have h := hb l
  have hd1 : (b ++ l).drop (b.length + skp false l) = l.drop (skp false l) := by
    rw [List.drop_append]; simp
  unfold nx
  simp only
  rw [h, hd1]
  exact ⟨rfl, by omega⟩
theorem nx_all (l z : List UInt8) (i j : Int) (h : skp false l = l.length) : (nx (l ++ 10 :: z) i j).t = (nx z i j).t ∧ (nx (l ++ 10 :: z) i j).len = l.length + 1 + (nx z i j).len := by
  have h' := skp_all false l z h
  have hd1 : (l ++ 10 :: z).drop (l.length + 1 + skp false z) = z.drop (skp false z) := by
    rw [show l ++ 10 :: z = (l ++ [10]) ++ z by simp, List.drop_append]
    simp
  unfold nx
  simp only
  rw [h', hd1]
  exact ⟨rfl, by omega⟩
end Go.Proofs.YthfelkcomhflnaaDoor.LM
