/- More of the plain mathematics of layer 7: blanks and remarks put ahead of, between and behind tokens. No dump is read here. -/
import Derived.Test.YtfabafolbelhdaaDoorLexMathD
namespace Go.Proofs.YtfabafolbelhdaaDoor.LM
open Go.RowKit

/-- the four blanks of the law -/
def bks (x : Int) : List UInt8 := if x = 0 then [32] else if x = 1 then [10] else if x = 2 then [9, 32, 13] else [59, 32, 97, 32, 114, 101, 109, 97, 114, 107, 32, 40, 10]
theorem bks_whole (x : Int) : whole (bks x) := by
  intro z
  unfold bks
  split
  · simp [skp, nxn, blk]; omega
  split
  · simp [skp, nxn, blk]; omega
  split
  · simp [skp, nxn, blk]; omega
  · simp [skp, nxn, blk]; omega
theorem bks_len (x : Int) : 1 ≤ (bks x).length ∧ (bks x).length ≤ 13 := by
  unfold bks
  split
  · simp
  split
  · simp
  split
  · simp
  · simp
theorem bks_brk (x : Int) (z : List UInt8) : brk (bks x ++ z) := by
  unfold bks
  split
  · exact .inr (.inl (by show blk 32 = true; decide))
  split
  · exact .inr (.inl (by show blk 10 = true; decide))
  split
  · exact .inr (.inl (by show blk 9 = true; decide))
  · exact .inr (.inr rfl)
/-- the text with blanks put between -/
def bl (b : Nat → List UInt8) : Nat → List Tv → List UInt8 → Nat → List UInt8
  | _, [], l, _ => b 0 ++ l
  | k, t :: ts, l, a => b k ++ (l.take (t.next - a) ++ bl b (k + 1) ts (l.drop (t.next - a)) t.next)
theorem bl_brk {b : Nat → List UInt8} (hb : ∀ i z, brk (b i ++ z)) (k : Nat) (ts : List Tv) (l : List UInt8) (a : Nat) : brk (bl b k ts l a) := by
  cases ts with
  | nil => exact hb 0 l
  | cons t ts => exact hb k _
theorem bl_len {b : Nat → List UInt8} (hb : ∀ i, (b i).length ≤ 13) : ∀ (ts : List Tv) (k : Nat) (l : List UInt8) (a : Nat), (bl b k ts l a).length ≤ l.length + 13 * (ts.length + 1)
  | [], k, l, a => by
    have := hb 0
    unfold bl
    rw [List.length_append]; simp; omega
  | t :: ts, k, l, a => by
    have h1 := hb k
    have h2 := bl_len hb ts (k + 1) (l.drop (t.next - a)) t.next
    have h3 : (l.take (t.next - a)).length + (l.drop (t.next - a)).length = l.length := by rw [← List.length_append, List.take_append_drop]
    unfold bl
    rw [List.length_append, List.length_append]
    simp only [List.length_cons]
    omega
/-- what the first token of a row of tokens says -/
theorem alls_cons {f : Nat} {l : List UInt8} {a : Nat} {i j : Int} {t : Tv} {ts : List Tv} (h : alls f l a i j = (t :: ts, (0, 0, 0))) :
    ∃ g, f = g + 1 ∧ (nx l i j).t.e = 0 ∧ (nx l i j).t.k ≠ 14 ∧ t = tvo (nx l i j) a ∧ alls g (l.drop (nx l i j).len) (a + (nx l i j).len) (mv (l.take (nx l i j).len) i j).1 (mv (l.take (nx l i j).len) i j).2 = (ts, (0, 0, 0)) := by
  cases f with
  | zero => unfold alls at h; cases h
  | succ g =>
    unfold alls at h
    split at h
    · cases h
    · rename_i he
      split at h
      · cases h
      · rename_i hk
        simp only at h
        split at h
        · cases h
        · injection h with h1 h2
          injection h1 with h3 h4
          exact ⟨g, rfl, by simpa using he, hk, h3.symm, Prod.ext h4 h2⟩
theorem alls_nil {f : Nat} {l : List UInt8} {a : Nat} {i j : Int} (hf : 0 < f) (h : alls f l a i j = ([], (0, 0, 0))) : skp false l = l.length := by
  obtain ⟨g, rfl⟩ : ∃ g, f = g + 1 := ⟨f - 1, by omega⟩
  unfold alls at h
  split at h
  · rename_i he
    injection h with h1 h2
    injection h2 with h3 h4
    exact absurd h3 he
  · rename_i he
    split at h
    · rename_i hk
      rcases nx_end l i j (by simpa using he) with h1 | h1
      · have h0 := congrArg List.length h1.2.2
        rw [List.length_drop, List.length_nil] at h0
        have := skp_le false l
        omega
      · exact absurd hk h1.1
    · simp only at h
      split at h
      · rename_i hr
        injection h with h1 h2
        rw [h2] at hr
        exact absurd rfl hr
      · injection h with h1 h2
        cases h1
theorem bl_ok {b : Nat → List UInt8} (hw : ∀ i, whole (b i)) (hbr : ∀ i z, brk (b i ++ z)) : ∀ (ts : List Tv) (f : Nat) (l : List UInt8) (a : Nat) (i j : Int), l.length < f → alls f l a i j = (ts, (0, 0, 0)) →
    ∀ (k f' a' : Nat) (i' j' : Int), (bl b k ts l a).length < f' → ∃ us, alls f' (bl b k ts l a) a' i' j' = (us, (0, 0, 0)) ∧ us.length = ts.length ∧ ∀ (m : Nat) (t u : Tv), ts[m]? = some t → us[m]? = some u → t.k = u.k ∧ t.n = u.n ∧ t.s = u.s
  | [], f, l, a, i, j, hf, h => by
    intro k f' a' i' j' hf'
    have hs := alls_nil (by omega) h
    have hs2 : skp false (b 0 ++ l) = (b 0 ++ l).length := by rw [hw 0 l, hs, List.length_append]
    obtain ⟨g, rfl⟩ : ∃ g, f' = g + 1 := ⟨f' - 1, by omega⟩
    refine ⟨[], ?_, rfl, fun m t u hm => by simp at hm⟩
    have hx : (nx (b 0 ++ l) i' j').t = tok 14 0 [] 0 := by
      unfold nx
      simp only
      rw [hs2, List.drop_length]; rfl
    show alls (g + 1) (b 0 ++ l) a' i' j' = _
    unfold alls
    rw [hx, if_neg (by decide), if_pos (by decide)]
  | t :: ts, f, l, a, i, j, hf, h => by
    intro k f' a' i' j' hf'
    obtain ⟨g, rfl, he, hk, ht, hR⟩ := alls_cons h
    have hne := nx_end l i j he
    obtain ⟨h1, h2, h3⟩ : 1 ≤ (nx l i j).t.len ∧ skp false l + 1 ≤ (nx l i j).len ∧ (nx l i j).len ≤ l.length := by
      rcases hne with h | h
      · exact absurd h.1 hk
      · exact h.2
    have hnext : t.next - a = (nx l i j).len := by rw [ht]; show a + (nx l i j).len - a = _; omega
    obtain ⟨Z, hZ⟩ : ∃ Z, bl b (k + 1) ts (l.drop (t.next - a)) t.next = Z := ⟨_, rfl⟩
    have hbl : bl b k (t :: ts) l a = b k ++ (l.take (nx l i j).len ++ Z) := by
      rw [← hZ, ← hnext]; rfl
    have hzb : brk Z := by rw [← hZ]; exact bl_brk hbr _ _ _ _
    have hloc := nx_loc l Z (nx l i j).len i j he hk (Nat.le_refl _) h3 hzb
    have hbk := nx_blanks (b k) (l.take (nx l i j).len ++ Z) i' j' (hw k)
    rw [(nx_any (l.take (nx l i j).len ++ Z) i' j' i j).1, (nx_any (l.take (nx l i j).len ++ Z) i' j' i j).2, hloc] at hbk
    obtain ⟨g', rfl⟩ : ∃ g', f' = g' + 1 := ⟨f' - 1, by omega⟩
    have hdrop : (b k ++ (l.take (nx l i j).len ++ Z)).drop (nx (b k ++ (l.take (nx l i j).len ++ Z)) i' j').len = Z := by
      rw [hbk.2, List.drop_append, List.drop_of_length_le (by omega), List.nil_append, show (b k).length + (nx l i j).len - (b k).length = (nx l i j).len by omega, List.drop_append, List.drop_of_length_le (by rw [List.length_take]; omega), List.length_take, Nat.min_eq_left h3]
      simp
    have hlZ : Z.length < g' := by
      rw [hbl, List.length_append, List.length_append, List.length_take] at hf'
      omega
    rw [hbl]
    rw [← hnext] at hR
    have hta : t.next = a + (t.next - a) := by rw [hnext, ht]; rfl
    rw [← hta] at hR
    rw [← hZ] at hlZ
    obtain ⟨us, e1, e2, e3⟩ := bl_ok hw hbr ts g (l.drop (t.next - a)) t.next _ _ (by rw [List.length_drop, hnext]; omega) hR (k + 1) g' (a' + (nx (b k ++ (l.take (nx l i j).len ++ Z)) i' j').len)
      (mv ((b k ++ (l.take (nx l i j).len ++ Z)).take (nx (b k ++ (l.take (nx l i j).len ++ Z)) i' j').len) i' j').1 (mv ((b k ++ (l.take (nx l i j).len ++ Z)).take (nx (b k ++ (l.take (nx l i j).len ++ Z)) i' j').len) i' j').2 hlZ
    rw [hZ] at e1
    refine ⟨tvo (nx (b k ++ (l.take (nx l i j).len ++ Z)) i' j') a' :: us, ?_, by simp [e2], ?_⟩
    · conv => lhs; unfold alls
      rw [hdrop]
      rw [if_neg (by rw [hbk.1]; simp [he]), if_neg (by rw [hbk.1]; exact hk)]
      simp only
      rw [e1, if_neg (by simp)]
    · intro m x u hx hu
      cases m with
      | zero =>
        simp only [List.getElem?_cons_zero, Option.some.injEq] at hx hu
        subst hx; subst hu
        rw [ht]
        show (nx l i j).t.k = (nx _ i' j').t.k ∧ (nx l i j).t.n = (nx _ i' j').t.n ∧ (nx l i j).t.s = (nx _ i' j').t.s
        rw [hbk.1]
        exact ⟨rfl, rfl, rfl⟩
      | succ m => exact e3 m x u (by simpa using hx) (by simpa using hu)
/-- how many tokens there can be -/
theorem alls_few : ∀ (ts : List Tv) (f : Nat) (l : List UInt8) (a : Nat) (i j : Int), alls f l a i j = (ts, (0, 0, 0)) → ts.length ≤ l.length
  | [], _, _, _, _, _, _ => by simp
  | t :: ts, f, l, a, i, j, h => by
    obtain ⟨g, rfl, he, hk, ht, hR⟩ := alls_cons h
    have ih := alls_few ts g _ _ _ _ hR
    rw [List.length_drop] at ih
    rcases nx_end l i j he with h | h
    · exact absurd h.1 hk
    · simp only [List.length_cons]; omega
end Go.Proofs.YtfabafolbelhdaaDoor.LM
