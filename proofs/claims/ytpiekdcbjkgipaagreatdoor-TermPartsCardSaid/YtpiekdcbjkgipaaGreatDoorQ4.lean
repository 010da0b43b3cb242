/- More of the plain mathematics of layer 7: a token hangs on its own bytes, and on what stands right behind them. No dump is read here. -/
import Derived.Test.YtpiekdcbjkgipaaGreatDoorQ3
import Derived.Lib.ItoaLen
namespace Go.Proofs.YtpiekdcbjkgipaaGreatDoor.LM
open Go.RowKit

theorem hd_nil {z : List UInt8} (h : hd z = -1) : z = [] := by
  cases z with
  | nil => rfl
  | cons c q => simp only [hd] at h; omega
theorem hd_app {a : List UInt8} (z : List UInt8) (h : a ≠ []) : hd (a ++ z) = hd a := by
  cases a with
  | nil => exact absurd rfl h
  | cons c q => rfl
/-- nothing, or a byte that ends a word -/
def dl (z : List UInt8) : Prop := z = [] ∨ dlm (hd z) = true
/-- nothing, a blank, or a remark -/
def brk (z : List UInt8) : Prop := z = [] ∨ blk (hd z) = true ∨ hd z = 59
theorem brk_dl {z : List UInt8} (h : brk z) : dl z := by
  rcases h with h | h | h
  · exact .inl h
  · right; unfold blk at h; unfold dlm; simp only [decide_eq_true_eq] at h ⊢; omega
  · right; rw [h]; decide
theorem brk_ne {z : List UInt8} (h : brk z) : hd z ≠ 64 ∧ hd z ≠ 40 ∧ hd z ≠ 92 := by
  rcases h with h | h | h
  · subst h; decide
  · unfold blk at h; simp only [decide_eq_true_eq] at h; omega
  · omega
theorem wln_nil_of {z : List UInt8} (h : dl z) : wln z = 0 := by
  rcases h with h | h
  · subst h; rfl
  · cases z with
    | nil => rfl
    | cons c q => rw [wln, if_pos (by simpa [hd] using h)]
theorem wln_loc : ∀ (l z : List UInt8), dl z → wln (l.take (wln l) ++ z) = wln l
  | [], z, h => wln_nil_of h
  | c :: r, z, h => by
    by_cases hd : dlm c.toNat = true
    · have e : wln (c :: r) = 0 := by rw [wln, if_pos hd]
      rw [e]; exact wln_nil_of h
    · have e : wln (c :: r) = wln r + 1 := by rw [wln, if_neg hd]
      rw [e, List.take_succ_cons, List.cons_append, wln, if_neg hd, wln_loc r z h]
theorem wln_rest : ∀ (l : List UInt8), dl (l.drop (wln l))
  | [] => .inl rfl
  | c :: r => by
    by_cases hd : dlm c.toNat = true
    · have e : wln (c :: r) = 0 := by rw [wln, if_pos hd]
      rw [e]; exact .inr hd
    · have e : wln (c :: r) = wln r + 1 := by rw [wln, if_neg hd]
      rw [e, List.drop_succ_cons]; exact wln_rest r
theorem take_loc (l z : List UInt8) (n : Nat) (h : n ≤ l.length) : (l.take n ++ z).take n = l.take n := by
  rw [List.take_append_of_le_length (by rw [List.length_take]; omega), List.take_take, Nat.min_self]
theorem qt_loc : ∀ (N : Nat) (l t : List UInt8) (n : Nat) (z : List UInt8), l.length ≤ N → (qt l t n).1 = 0 → qt (l.take ((qt l t n).2.2 - n) ++ z) t n = qt l t n
  | _, [], t, n, z, _, h => by simp [qt] at h
  | 0, c :: r, t, n, z, h, _ => by simp at h
  | N + 1, c :: r, t, n, z, h, h0 => by
    have hl : r.length ≤ N := by simpa using h
    have hp := qt_pos _ (c :: r) t n (Nat.le_refl _) h0
    by_cases h1 : c = 34
    · have e : qt (c :: r) t n = (0, t, n + 1) := by rw [qt.eq_def]; simp only [if_pos h1]
      rw [e, show (0, t, n + 1).2.2 - n = 0 + 1 by simp, List.take_succ_cons, List.cons_append, qt.eq_def]
      simp only [if_pos h1]
    · by_cases h2 : c = 92
      · cases r with
        | nil =>
          have e : qt [c] t n = (5, [], 0) := by rw [qt.eq_def]; simp only [if_neg h1, if_pos h2]
          rw [e] at h0; simp at h0
        | cons d r' =>
          cases hx : esc d with
          | none =>
            have e : qt (c :: d :: r') t n = (6, [], 0) := by rw [qt.eq_def]; simp only [if_neg h1, if_pos h2, hx]
            rw [e] at h0; simp at h0
          | some x =>
            have e : ∀ q, qt (c :: d :: q) t n = qt q (t ++ [x]) (n + 2) := fun q => by rw [qt.eq_def]; simp only [if_neg h1, if_pos h2, hx]
            rw [e] at h0 hp ⊢
            have hq := qt_pos _ r' (t ++ [x]) (n + 2) (Nat.le_refl _) h0
            have ih := qt_loc N r' (t ++ [x]) (n + 2) z (by simp at hl; omega) h0
            rw [show (qt r' (t ++ [x]) (n + 2)).2.2 - n = (qt r' (t ++ [x]) (n + 2)).2.2 - (n + 2) + 1 + 1 by omega, List.take_succ_cons, List.take_succ_cons, List.cons_append, List.cons_append, e]
            exact ih
      · have e : ∀ q, qt (c :: q) t n = qt q (t ++ [c]) (n + 1) := fun q => by rw [qt.eq_def]; simp only [if_neg h1, if_neg h2]
        rw [e] at h0 hp ⊢
        have hq := qt_pos _ r (t ++ [c]) (n + 1) (Nat.le_refl _) h0
        have ih := qt_loc N r (t ++ [c]) (n + 1) z hl h0
        rw [show (qt r (t ++ [c]) (n + 1)).2.2 - n = (qt r (t ++ [c]) (n + 1)).2.2 - (n + 1) + 1 by omega, List.take_succ_cons, List.cons_append, e]
        exact ih
theorem wrd_nil : (wrd []).e = 6 := by decide

/-- what may stand behind a token's bytes: what stood there (by its first byte), or nothing, a blank, a remark -/
def beh (l z : List UInt8) (n : Nat) : Prop := brk z ∨ hd z = hd (l.drop n)
theorem beh_dl {l z : List UInt8} {n : Nat} (h : beh l z n) (hd : dl (l.drop n)) : dl z := by
  rcases h with h | h
  · exact brk_dl h
  · rcases hd with g | g
    · rw [g] at h; exact .inl (hd_nil h)
    · exact .inr (by rw [h]; exact g)
theorem scn_loc (l z : List UInt8) (hl : l ≠ []) (he : (scn l).e = 0) (hz : beh l z (scn l).len) : scn (l.take (scn l).len ++ z) = scn l := by
  cases l with
  | nil => exact absurd rfl hl
  | cons c r =>
    clear hl
    by_cases h1 : (c.toNat : Int) = 44
    · by_cases h : hd r = 64
      · have e : scn (c :: r) = tok 7 0 [] 2 := by rw [scn_eq, if_pos h1, if_pos h]
        obtain ⟨d, q, rfl, hd'⟩ := hd_some h (by omega)
        rw [e]
        show scn ([c, d] ++ z) = _
        rw [List.cons_append, scn_eq, if_pos h1, if_pos (by simpa [hd] using hd')]
      · have e : scn (c :: r) = tok 6 0 [] 1 := by rw [scn_eq, if_pos h1, if_neg h]
        rw [e] at hz ⊢
        show scn (c :: z) = _
        rw [scn_eq, if_pos h1, if_neg]
        rcases hz with g | g
        · exact (brk_ne g).1
        · rw [g]; exact h
    by_cases h2 : (c.toNat : Int) = 35 ∧ hd r = 40
    · have e : scn (c :: r) = tok 3 0 [] 2 := by rw [scn_eq, if_neg h1, if_pos h2]
      obtain ⟨d, q, rfl, hd'⟩ := hd_some h2.2 (by omega)
      rw [e]
      show scn (c :: d :: z) = _
      rw [scn_eq, if_neg h1, if_pos ⟨h2.1, by simpa [hd] using hd'⟩]
    by_cases h3 : (c.toNat : Int) = 35 ∧ hd r = 92
    · have e : ∀ q, hd q = 92 → scn (c :: q) = chr (q.drop 1) := fun q hq => by rw [scn_eq, if_neg h1, if_neg (by rw [hq]; omega), if_pos ⟨h3.1, hq⟩]
      obtain ⟨d, q, rfl, hd'⟩ := hd_some h3.2 (by omega)
      rw [e _ h3.2] at he hz ⊢
      rw [List.drop_succ_cons, List.drop_zero] at he hz ⊢
      cases q with
      | nil => simp [chr, bad] at he
      | cons x q =>
        by_cases hc : cho (x :: q.take (wln q)) = -1
        · rw [chr_eq, if_pos hc] at he; simp [bad] at he
        have ec : chr (x :: q) = tok 11 (cho (x :: q.take (wln q))) [] (3 + wln q) := by rw [chr_eq, if_neg hc]
        rw [ec] at hz ⊢
        have hz' : dl z := by
          refine beh_dl hz ?_
          show dl ((c :: d :: x :: q).drop (3 + wln q))
          rw [show 3 + wln q = wln q + 1 + 1 + 1 by omega]
          exact wln_rest q
        show scn ((c :: d :: x :: q).take (3 + wln q) ++ z) = _
        rw [show 3 + wln q = wln q + 1 + 1 + 1 by omega, List.take_succ_cons, List.take_succ_cons, List.take_succ_cons, List.cons_append, List.cons_append, List.cons_append, e (d :: x :: (q.take (wln q) ++ z)) hd', List.drop_succ_cons, List.drop_zero, chr_eq, wln_loc q z hz', take_loc q z _ (wln_le q), if_neg hc]
        rw [show 3 + wln q = wln q + 1 + 1 + 1 by omega]
    have e1 : ∀ k, (tok k 0 [] 1).len = 1 := fun k => rfl
    have go : ∀ k, (∀ q, scn (c :: q) = tok k 0 [] 1) → scn ((c :: r).take (scn (c :: r)).len ++ z) = scn (c :: r) := fun k h => by
      rw [h, e1]; exact h z
    have n35 : ∀ (q : List UInt8) (x : Int), ¬ (c.toNat : Int) = 35 → ¬ ((c.toNat : Int) = 35 ∧ hd q = x) := fun q x h g => h g.1
    by_cases h4 : (c.toNat : Int) = 40
    · exact go 1 fun q => by rw [scn_eq, if_neg h1, if_neg (n35 q 40 (by omega)), if_neg (n35 q 92 (by omega)), if_pos h4]
    by_cases h5 : (c.toNat : Int) = 41
    · exact go 2 fun q => by rw [scn_eq, if_neg h1, if_neg (n35 q 40 (by omega)), if_neg (n35 q 92 (by omega)), if_neg h4, if_pos h5]
    by_cases h6 : (c.toNat : Int) = 39
    · exact go 4 fun q => by rw [scn_eq, if_neg h1, if_neg (n35 q 40 (by omega)), if_neg (n35 q 92 (by omega)), if_neg h4, if_neg h5, if_pos h6]
    by_cases h7 : (c.toNat : Int) = 96
    · exact go 5 fun q => by rw [scn_eq, if_neg h1, if_neg (n35 q 40 (by omega)), if_neg (n35 q 92 (by omega)), if_neg h4, if_neg h5, if_neg h6, if_pos h7]
    by_cases h8 : (c.toNat : Int) = 34
    · have e : ∀ q, scn (c :: q) = ofq (qt q [] 1) := fun q => by rw [scn_eq, if_neg h1, if_neg (n35 q 40 (by omega)), if_neg (n35 q 92 (by omega)), if_neg h4, if_neg h5, if_neg h6, if_neg h7, if_pos h8]
      rw [e] at he
      have g1 := (ofq_len (qt r [] 1)).2 he
      have g2 := qt_pos r.length r [] 1 (Nat.le_refl _) g1.1
      rw [e, g1.2.1, show (qt r [] 1).2.2 = (qt r [] 1).2.2 - 1 + 1 by omega, List.take_succ_cons, List.cons_append, e, qt_loc r.length r [] 1 z (Nat.le_refl _) g1.1]
    · have e : ∀ q, hd q ≠ 40 ∨ ¬ (c.toNat : Int) = 35 → hd q ≠ 92 ∨ ¬ (c.toNat : Int) = 35 → scn (c :: q) = wrd ((c :: q).take (wln (c :: q))) := fun q g g' => by
        rw [scn_eq, if_neg h1, if_neg (by omega), if_neg (by omega), if_neg h4, if_neg h5, if_neg h6, if_neg h7, if_neg h8]
      have er := e r (by omega) (by omega)
      rw [er] at he hz
      have h9 := (wrd_tok ((c :: r).take (wln (c :: r)))).2 he
      have hd' : ¬ dlm c.toNat = true := fun h => by
        rw [show wln (c :: r) = 0 by rw [wln, if_pos h], List.take_zero, wrd_nil] at he
        omega
      have hw : ∀ q, wln (c :: q) = wln q + 1 := fun q => by rw [wln, if_neg hd']
      have hlen : (wrd ((c :: r).take (wln (c :: r)))).len = wln r + 1 := by
        rw [h9.1, List.length_take, hw]
        have := wln_le r
        simp only [List.length_cons]; omega
      rw [hlen] at hz
      have hz' : dl z := beh_dl hz (by rw [List.drop_succ_cons]; exact wln_rest r)
      have hn : ∀ x : Int, (x = 40 ∨ x = 92) → hd r ≠ x ∨ ¬ (c.toNat : Int) = 35 → hd (r.take (wln r) ++ z) ≠ x ∨ ¬ (c.toNat : Int) = 35 := fun x hx h => by
        by_cases h0 : wln r = 0
        · rw [h0, List.take_zero, List.nil_append]
          rcases hz with g | g
          · have := brk_ne g; left; omega
          · rw [g, List.drop_succ_cons, h0, List.drop_zero]; exact h
        · rw [hd_app z (by intro hh; have hx := congrArg List.length hh; rw [List.length_take, List.length_nil] at hx; have := wln_le r; omega)]
          cases r with
          | nil => exact absurd rfl h0
          | cons d q =>
            have : wln (d :: q) = wln q + 1 := by
              by_cases g : dlm d.toNat = true
              · exact absurd (by rw [wln, if_pos g]) h0
              · rw [wln, if_neg g]
            rw [this, List.take_succ_cons]
            exact h
      rw [er, hlen, List.take_succ_cons, List.cons_append, e _ (hn 40 (.inl rfl) (by omega)) (hn 92 (.inr rfl) (by omega)), hw, hw, wln_loc r z hz', List.take_succ_cons, List.take_succ_cons, take_loc r z _ (wln_le r)]

/-! ### blanks -/
theorem skp_loc : ∀ (n : Bool) (l : List UInt8) (m : Nat) (z : List UInt8), skp n l < m → m ≤ l.length → skp n (l.take m ++ z) = skp n l
  | n, [], m, z, h, hm => by simp at hm; omega
  | n, c :: r, m, z, h, hm => by
    obtain ⟨m', rfl⟩ : ∃ m', m = m' + 1 := ⟨m - 1, by omega⟩
    rw [List.take_succ_cons, List.cons_append]
    unfold skp at h ⊢
    split
    · rfl
    · rename_i hc
      rw [if_neg hc] at h
      rw [skp_loc _ r m' z (by omega) (by simpa using hm)]
/-- blanks behind which blanks go on -/
def whole (b : List UInt8) : Prop := ∀ z, skp false (b ++ z) = b.length + skp false z
theorem nx_loc (l z : List UInt8) (m : Nat) (i j : Int) (he : (nx l i j).t.e = 0) (hk : (nx l i j).t.k ≠ 14) (hm : (nx l i j).len ≤ m) (hml : m ≤ l.length) (hz : brk z) : nx (l.take m ++ z) i j = nx l i j := by
  rcases nx_end l i j he with h | ⟨-, h1, h2, h3⟩
  · exact absurd h.1 hk
  have hs : skp false (l.take m ++ z) = skp false l := skp_loc false l m z (by omega) hml
  have hd1 : (l.take m ++ z).drop (skp false l) = (l.drop (skp false l)).take (m - skp false l) ++ z := by
    rw [List.drop_append_of_le_length (by rw [List.length_take]; omega), List.drop_take]
  have hd2 : (l.take m ++ z).take (skp false l) = l.take (skp false l) := by
    rw [List.take_append_of_le_length (by rw [List.length_take]; omega), List.take_take, Nat.min_eq_left (by omega)]
  have hlen : (nx l i j).len = skp false l + (scn (l.drop (skp false l))).len := rfl
  have ht : (nx l i j).t = scn (l.drop (skp false l)) := rfl
  rw [ht] at he h1
  rw [hlen] at hm h2 h3
  have hne : l.drop (skp false l) ≠ [] := fun h => by rw [h] at h1; simp [scn, tok] at h1
  have key : scn ((l.drop (skp false l)).take (m - skp false l) ++ z) = scn (l.drop (skp false l)) := by
    generalize l.drop (skp false l) = l' at *
    have hll := scn_len l'
    have e : l'.take (m - skp false l) ++ z = l'.take (scn l').len ++ ((l'.drop (scn l').len).take (m - skp false l - (scn l').len) ++ z) := by
      rw [← List.append_assoc, ← List.take_add, show (scn l').len + (m - skp false l - (scn l').len) = m - skp false l by omega]
    rw [e]
    refine scn_loc l' _ hne he ?_
    by_cases h0 : (l'.drop (scn l').len).take (m - skp false l - (scn l').len) = []
    · rw [h0]; exact .inl hz
    · right
      rw [hd_app z h0]
      generalize l'.drop (scn l').len = q at *
      cases q with
      | nil => simp at h0
      | cons d q =>
        obtain ⟨k, hk'⟩ : ∃ k, m - skp false l - (scn l').len = k + 1 := by
          cases hx : m - skp false l - (scn l').len with
          | zero => rw [hx] at h0; simp at h0
          | succ k => exact ⟨k, rfl⟩
        rw [hk', List.take_succ_cons]; rfl
  unfold nx
  rw [hs, hd1, hd2, key]
/-- a token and its bytes don't hang on where it stands -/
theorem nx_any (l : List UInt8) (i j i' j' : Int) : (nx l i j).t = (nx l i' j').t ∧ (nx l i j).len = (nx l i' j').len := ⟨rfl, rfl⟩
end Go.Proofs.YtpiekdcbjkgipaaGreatDoor.LM

/- The plain mathematics of layer 8: data out of a text's tokens, as the reader goes. No dump is read here. -/
namespace Go.Proofs.YtpiekdcbjkgipaaGreatDoor.RM
open Go.RowKit

/-- some data, one behind the other: each one's kind, number, text and items -/
inductive Dl where
  | nil : Dl
  | cons : Int → Int → List UInt8 → Dl → Dl → Dl
def Dl.len : Dl → Nat
  | .nil => 0
  | .cons _ _ _ _ r => r.len + 1
def Dl.app : Dl → Dl → Dl
  | .nil, e => e
  | .cons k n s is r, e => .cons k n s is (r.app e)
/-- one of them -/
structure Dm where
  k : Int
  n : Int
  s : List UInt8
  is : Dl
def Dl.one (d : Dm) : Dl := .cons d.k d.n d.s d.is .nil
def Dl.snoc (l : Dl) (d : Dm) : Dl := l.app (.one d)
theorem Dl.len_app : ∀ a b : Dl, (a.app b).len = a.len + b.len
  | .nil, b => by simp [Dl.app, Dl.len]
  | .cons k n s is r, b => by rw [Dl.app, Dl.len, Dl.len, Dl.len_app r]; omega
theorem Dl.len_snoc (l : Dl) (d : Dm) : (l.snoc d).len = l.len + 1 := by rw [Dl.snoc, Dl.len_app]; rfl

/-- how far it is read: what is left, line, column, and how many tokens there were -/
structure St where
  l : List UInt8
  i : Int
  j : Int
  m : Nat
def St.nx (s : St) : LM.Nx := LM.nx s.l s.i s.j
def St.after (s : St) : St := ⟨s.l.drop s.nx.len, (LM.mv (s.l.take s.nx.len) s.i s.j).1, (LM.mv (s.l.take s.nx.len) s.i s.j).2, s.m + 1⟩
/-- an error with its place; or a datum, and how far it was read -/
abbrev Re := Except (Int × Int × Int) (Dm × St)

def nxt (s : St) (K : LM.Nx → St → Re) : Re := if s.nx.t.e ≠ 0 then .error (s.nx.t.e, s.nx.line, s.nx.col) else K s.nx s.after
/-- the symbol that a mark stands for -/
def mnm (k : Int) : List UInt8 :=
  if k = 5 then [113, 117, 97, 115, 105, 113, 117, 111, 116, 101]
  else if k = 6 then [117, 110, 113, 117, 111, 116, 101]
  else if k = 7 then [117, 110, 113, 117, 111, 116, 101, 45, 115, 112, 108, 105, 99, 105, 110, 103]
  else [113, 117, 111, 116, 101]
def kof (k : Int) : Int := if k = 9 then 1 else if k = 10 then 2 else if k = 11 then 3 else if k = 12 then 4 else 5
def joined (items : Dl) (d : Dm) : Dm := if d.k = 6 ∨ d.k = 7 then ⟨d.k, 0, [], items.app d.is⟩ else ⟨7, 0, [], items.snoc d⟩
def marked (k : Int) (d : Dm) : Dm := ⟨6, 0, [], .cons 5 0 (mnm k) .nil (.one d)⟩
/-- behind a full stop -/
def dot (B : LM.Nx → St → Re) (items : Dl) (s : St) : Re :=
  nxt s fun X s' => match B X s' with
    | .error e => .error e
    | .ok (d, s2) => nxt s2 fun Y s3 => if Y.t.k = 14 then .error (5, Y.line, Y.col) else if Y.t.k ≠ 2 then .error (6, Y.line, Y.col) else .ok (joined items d, s3)
/-- a list or a vector, behind what begins it -/
def row (B : LM.Nx → St → Re) (kind : Int) : Nat → Dl → St → Re
  | 0, _, _ => .error (0, 0, 0)
  | f + 1, items, s => nxt s fun X s' =>
    if X.t.k = 2 then .ok (⟨kind, 0, [], items⟩, s')
    else if X.t.k = 8 ∧ kind = 6 ∧ 0 < items.len then dot B items s'
    else match B X s' with
      | .error e => .error e
      | .ok (d, s2) => row B kind f (items.snoc d) s2
def mark (B : LM.Nx → St → Re) (k : Int) (s : St) : Re :=
  nxt s fun X s' => match B X s' with
    | .error e => .error e
    | .ok (d, s2) => .ok (marked k d, s2)
/-- the datum that a token begins, so many levels ahead of the last one that may be -/
def beg : Nat → LM.Nx → St → Re
  | 0, X, _ => if X.t.k = 14 then .error (5, X.line, X.col) else .error (14, X.line, X.col)
  | v + 1, X, s =>
    if X.t.k = 14 then .error (5, X.line, X.col)
    else if 4000 < s.m then .error (14, X.line, X.col)
    else if X.t.k = 1 then row (beg v) 6 (s.l.length + 1) .nil s
    else if X.t.k = 3 then row (beg v) 8 (s.l.length + 1) .nil s
    else if X.t.k = 4 ∨ X.t.k = 5 ∨ X.t.k = 6 ∨ X.t.k = 7 then mark (beg v) X.t.k s
    else if X.t.k = 2 ∨ X.t.k = 8 then .error (6, X.line, X.col)
    else .ok (⟨kof X.t.k, X.t.n, X.t.s, .nil⟩, s)
def one (s : St) : Re := nxt s fun X s' => beg 64 X s'
/-- all data of a text -/
def all : Nat → Dl → St → Except (Int × Int × Int) Dl
  | 0, _, _ => .error (0, 0, 0)
  | f + 1, data, s =>
    let s0 : St := ⟨s.l, s.i, s.j, 0⟩
    if s0.nx.t.e ≠ 0 then .error (s0.nx.t.e, s0.nx.line, s0.nx.col)
    else if s0.nx.t.k = 14 then .ok data
    else match beg 64 s0.nx s0.after with
      | .error e => .error e
      | .ok (d, s2) => all f (data.snoc d) s2
/-! ### what is left grows shorter -/
/-! ### two readers, side by side: the second one's text goes on behind the first one's; it may be further within, and have met more tokens -/
section
variable (z : List UInt8) (δ : Nat) (P : Prop)
def Sm (s t : St) : Prop := t.l = s.l ++ z ∧ t.m = s.m + δ
variable {z δ P}
theorem Sm.nx {s t : St} (h : Sm z δ s t) (hz : LM.brk z) (he : s.nx.t.e = 0) (hk : s.nx.t.k ≠ 14) : t.nx.t = s.nx.t ∧ Sm z δ s.after t.after := by
  have h1 : LM.nx (s.l ++ z) s.i s.j = LM.nx s.l s.i s.j := by
    have := LM.nx_loc s.l z s.l.length s.i s.j he hk (by
      rcases LM.nx_end s.l s.i s.j he with h | h
      · exact absurd h.1 hk
      · exact h.2.2.2) (Nat.le_refl _) hz
    rwa [List.take_length] at this
  have h2 : s.nx.len ≤ s.l.length := by
    rcases LM.nx_end s.l s.i s.j he with h | h
    · exact absurd h.1 hk
    · exact h.2.2.2
  have e1 : t.nx.t = s.nx.t := by
    show (LM.nx t.l t.i t.j).t = (LM.nx s.l s.i s.j).t
    rw [h.1, (LM.nx_any (s.l ++ z) t.i t.j s.i s.j).1, h1]
  have e2 : t.nx.len = s.nx.len := by
    show (LM.nx t.l t.i t.j).len = (LM.nx s.l s.i s.j).len
    rw [h.1, (LM.nx_any (s.l ++ z) t.i t.j s.i s.j).2, h1]
  refine ⟨e1, ?_, ?_⟩
  · show t.l.drop t.nx.len = s.l.drop s.nx.len ++ z
    rw [e2, h.1, List.drop_append_of_le_length h2]
  · show t.m + 1 = s.m + 1 + δ
    have := h.2; omega
end
end Go.Proofs.YtpiekdcbjkgipaaGreatDoor.RM

/- Data in memory: rows of data within rows, each in a block of its own; how they stay, and append. -/
namespace Go.Proofs.YtpiekdcbjkgipaaGreatDoor
open Go.RowKit

theorem Tryz.infoDatum : (Tryz.prog.info? 25).map (fun i => (i.zero, i.size, i.bytes)) = some (some (.agg #[.int .i64 0, .int .i64 0, .string ⟨#[]⟩, .slice none 0 0]), 4, 56) := by kernel_rfl
/-- a row's cells: each datum's kind, number, text and items, which lie in rows of their own; S says which blocks these rows may lie in -/
def DatAt (w : World) (S : Nat → Prop) : RM.Dl → List Value → Prop
  | .nil, cs => cs = []
  | .cons k n s is r, cs => ∃ v c1 c2, cs = [.int .i64 k, .int .i64 n, .string ⟨s.toArray⟩, v] ++ c2 ∧ w.ownsRow 0 25 4 v is.len c1 ∧ (∀ g, v.ownBlock = some g → S g) ∧ DatAt w S is c1 ∧ DatAt w S r c2
/-- v is the row of these data -/
def Dat (w : World) (S : Nat → Prop) (v : Value) (d : RM.Dl) : Prop := ∃ cs, w.ownsRow 0 25 4 v d.len cs ∧ (∀ g, v.ownBlock = some g → S g) ∧ DatAt w S d cs
/-- v is the row of these data, in blocks of S, and none of the rows within it lies in v's own block -/
def Its (w : World) (S : Nat → Prop) (v : Value) (d : RM.Dl) : Prop := ∃ cs, w.ownsRow 0 25 4 v d.len cs ∧ (∀ g, v.ownBlock = some g → S g) ∧ DatAt w (fun g => S g ∧ v.ownBlock ≠ some g) d cs
section
variable {w w' : World} {S S' X : Nat → Prop} {B : Nat} {v v' : Value}
theorem DatAt.mono (hS : ∀ g, g < w.heap.size → S g → S' g) : ∀ {d : RM.Dl} {cs : List Value}, DatAt w S d cs → DatAt w S' d cs
  | .nil, _, h => h
  | .cons _ _ _ _ _, _, ⟨v, c1, c2, h1, h2, h3, h4, h5⟩ => ⟨v, c1, c2, h1, h2, fun g hg => hS g (World.ownsRow.lt h2 g hg).2 (h3 g hg), DatAt.mono hS h4, DatAt.mono hS h5⟩
theorem DatAt.turns (k : Turns X w w') (hX : ∀ g, g < w.heap.size → S g → ¬ X g) : ∀ {d : RM.Dl} {cs : List Value}, DatAt w S d cs → DatAt w' S d cs
  | .nil, _, h => h
  | .cons _ _ _ _ _, _, ⟨v, c1, c2, h1, h2, h3, h4, h5⟩ => ⟨v, c1, c2, h1, own_turns h2 k (fun g hg => hX g (World.ownsRow.lt h2 g hg).2 (h3 g hg)), h3, DatAt.turns k hX h4, DatAt.turns k hX h5⟩
theorem DatAt.one : ∀ {d : RM.Dl} {cs : List Value}, DatAt w S d cs → ∀ u ∈ cs, u.oneCell' = true
  | .nil, cs, h => by rw [show cs = [] from h]; simp
  | .cons _ _ _ _ _, cs, ⟨v, c1, c2, h1, h2, h3, h4, h5⟩ => by
    intro u hu
    rw [h1] at hu
    have hv : v.oneCell' = true := by
      rcases h2.2 with ⟨rfl, _⟩ | ⟨g, cap, cur, rfl, _⟩ <;> rfl
    rcases List.mem_append.1 hu with hu | hu
    · simp only [List.mem_cons, List.not_mem_nil, or_false] at hu
      rcases hu with rfl | rfl | rfl | rfl <;> first | rfl | exact hv
    · exact DatAt.one h5 u hu
theorem DatAt.app : ∀ {d e : RM.Dl} {cs es : List Value}, DatAt w S d cs → DatAt w S e es → DatAt w S (d.app e) (cs ++ es)
  | .nil, e, cs, es, h, k => by rw [show cs = [] from h]; exact k
  | .cons _ _ _ _ _, e, cs, es, ⟨v, c1, c2, h1, h2, h3, h4, h5⟩, k => ⟨v, c1, c2 ++ es, by rw [h1, List.append_assoc], h2, h3, h4, DatAt.app h5 k⟩
theorem Dat.mono {d : RM.Dl} (h : Dat w S v d) (hS : ∀ g, g < w.heap.size → S g → S' g) : Dat w S' v d := by
  obtain ⟨cs, h1, h2, h3⟩ := h
  exact ⟨cs, h1, fun g hg => hS g (World.ownsRow.lt h1 g hg).2 (h2 g hg), h3.mono hS⟩
theorem Dat.turns {d : RM.Dl} (h : Dat w S v d) (k : Turns X w w') (hX : ∀ g, g < w.heap.size → S g → ¬ X g) : Dat w' S v d := by
  obtain ⟨cs, h1, h2, h3⟩ := h
  exact ⟨cs, own_turns h1 k (fun g hg => hX g (World.ownsRow.lt h1 g hg).2 (h2 g hg)), h2, h3.turns k hX⟩
theorem Dat.below {d : RM.Dl} (h : Dat w S v d) (k : Below w.heap.size w w') : Dat w' S v d := h.turns (Turns.of_below k (fun _ => False)) (fun _ _ _ h => h)
theorem Dat.nil (w : World) (S : Nat → Prop) : Dat w S (.slice none 0 0) .nil := ⟨[], own_none w 0 _ 4, (fun g hg => by cases hg), rfl⟩
theorem Its.nil (w : World) (S : Nat → Prop) : Its w S (.slice none 0 0) .nil := ⟨[], own_none w 0 _ 4, (fun g hg => by cases hg), rfl⟩
theorem Its.turns {d : RM.Dl} (h : Its w S v d) (k : Turns X w w') (hX : ∀ g, g < w.heap.size → S g → ¬ X g) : Its w' S v d := by
  obtain ⟨cs, h1, h2, h3⟩ := h
  exact ⟨cs, own_turns h1 k (fun g hg => hX g (World.ownsRow.lt h1 g hg).2 (h2 g hg)), h2, h3.turns k (fun g hg hs => hX g hg hs.1)⟩
theorem Its.below {d : RM.Dl} (h : Its w S v d) (k : Below w.heap.size w w') : Its w' S v d := h.turns (Turns.of_below k (fun _ => False)) (fun _ _ _ h => h)
theorem Its.mono {d : RM.Dl} (h : Its w S v d) (hS : ∀ g, g < w.heap.size → S g → S' g) : Its w S' v d := by
  obtain ⟨cs, h1, h2, h3⟩ := h
  exact ⟨cs, h1, fun g hg => hS g (World.ownsRow.lt h1 g hg).2 (h2 g hg), h3.mono (fun g hg hs => ⟨hS g hg hs.1, hs.2⟩)⟩
theorem Its.dat {d : RM.Dl} (h : Its w S v d) : Dat w S v d := by
  obtain ⟨cs, h1, h2, h3⟩ := h
  exact ⟨cs, h1, h2, h3.mono (fun g _ hs => hs.1)⟩
theorem Its.lt {d : RM.Dl} (h : Its w S v d) : ∀ g, v.ownBlock = some g → S g ∧ g < w.heap.size := by
  obtain ⟨cs, h1, h2, _⟩ := h
  exact fun g hg => ⟨h2 g hg, (World.ownsRow.lt h1 g hg).2⟩
theorem Its.read {d : RM.Dl} (h : Its w S v d) : ∃ A c, v = .slice A d.len c := by
  obtain ⟨cs, h1, _⟩ := h
  obtain ⟨A, c, e, _⟩ := own_read h1
  exact ⟨A, c, e⟩
theorem Dat.read {d : RM.Dl} (h : Dat w S v d) : ∃ A c, v = .slice A d.len c := by
  obtain ⟨cs, h1, _⟩ := h
  obtain ⟨A, c, e, _⟩ := own_read h1
  exact ⟨A, c, e⟩
/-- behind an append, in a world w2 that has kept what w had: the new row -/
theorem Its.grew {d e : RM.Dl} {cs es : List Value} {x : Value} {w2 : World} (h0 : ∀ g, v.ownBlock = some g → S g ∧ g < w.heap.size) (h' : DatAt w (fun g => S g ∧ v.ownBlock ≠ some g) d cs)
    (k' : DatAt w (fun g => S g ∧ v.ownBlock ≠ some g) e es) (k2 : Turns (fun _ => False) w w2) (hr : w'.ownsRow 0 25 4 x (d.len + e.len) (cs ++ es)) (hg : w2.grownBy w' v.ownBlock) (hat : x.ownBlock = v.ownBlock ∨ x.ownBlock = some w2.heap.size)
    (hS1 : ∀ g, g < w.heap.size → S g → S' g) (hS2 : S' w2.heap.size) : Its w' S' x (d.app e) := by
  have T := Turns.appendedS hg
  have hs := k2.size
  refine ⟨cs ++ es, by rw [RM.Dl.len_app]; exact hr, ?_, DatAt.mono ?_ (DatAt.turns (S := fun g => (S g ∧ v.ownBlock ≠ some g) ∧ g < w.heap.size) T (fun g _ hs => hs.1.2) (DatAt.turns k2 (fun _ _ _ h => h) (DatAt.mono (fun g hg hs => ⟨hs, hg⟩) (h'.app k'))))⟩
  · intro g hg
    rcases hat with e1 | e1
    · rw [e1] at hg; exact hS1 g (h0 g hg).2 (h0 g hg).1
    · rw [e1] at hg; injection hg with hg; subst hg; exact hS2
  · intro g _ hs
    refine ⟨hS1 g hs.2 hs.1.1, ?_⟩
    rcases hat with e1 | e1
    · rw [e1]; exact hs.1.2
    · rw [e1]
      intro hh
      injection hh with hh
      have := hs.2
      omega
/-- one datum's cells -/
theorem DatAt.cell1 {d : RM.Dm} (h : Dat w S v d.is) : DatAt w S (.one d) [.int .i64 d.k, .int .i64 d.n, .string ⟨d.s.toArray⟩, v] := by
  obtain ⟨cs, h1, h2, h3⟩ := h
  exact ⟨v, cs, [], rfl, h1, h2, h3, rfl⟩
end
end Go.Proofs.YtpiekdcbjkgipaaGreatDoor

/- Data in memory, one of a row at a time; what holds of all data that are made of such. -/
namespace Go.Proofs.YtpiekdcbjkgipaaGreatDoor
open Go.ChangeShapes Go.WideShapes Go.ChangeAt Go.RowKit

/-- the datum at a place of a row -/
def RM.Dl.at_ : RM.Dl → Nat → Option RM.Dm
  | .nil, _ => none
  | .cons k n s is _, 0 => some ⟨k, n, s, is⟩
  | .cons _ _ _ _ r, i + 1 => r.at_ i
theorem RM.Dl.at_some : ∀ (d : RM.Dl) (i : Nat), i < d.len → ∃ x, d.at_ i = some x
  | .nil, i, h => by simp [RM.Dl.len] at h
  | .cons k n s is r, 0, h => ⟨⟨k, n, s, is⟩, rfl⟩
  | .cons k n s is r, i + 1, h => RM.Dl.at_some r i (by simp only [RM.Dl.len] at h; omega)
theorem DatAt.at_ {w : World} {S : Nat → Prop} : ∀ {d : RM.Dl} {cs : List Value} {i : Nat} {x : RM.Dm}, DatAt w S d cs → d.at_ i = some x →
    ∃ v, cs[i * 4]? = some (.int .i64 x.k) ∧ cs[i * 4 + 1]? = some (.int .i64 x.n) ∧ cs[i * 4 + 2]? = some (.string ⟨x.s.toArray⟩) ∧ cs[i * 4 + 3]? = some v ∧ Dat w S v x.is
  | .nil, _, _, _, _, hx => by simp [RM.Dl.at_] at hx
  | .cons k n s is r, cs, 0, x, ⟨v, c1, c2, h1, h2, h3, h4, h5⟩, hx => by
    simp only [RM.Dl.at_, Option.some.injEq] at hx
    subst hx
    subst h1
    exact ⟨v, rfl, rfl, rfl, rfl, c1, h2, h3, h4⟩
  | .cons k n s is r, cs, i + 1, x, ⟨v, c1, c2, h1, h2, h3, h4, h5⟩, hx => by
    obtain ⟨v', q0, q1, q2, q3, hd⟩ := DatAt.at_ h5 (show r.at_ i = some x from hx)
    subst h1
    have e : ∀ j, ([Value.int .i64 k, .int .i64 n, .string ⟨s.toArray⟩, v] ++ c2)[(i + 1) * 4 + j]? = c2[i * 4 + j]? := fun j => by
      rw [List.getElem?_append_right (by simp; omega)]
      congr 1
      simp; omega
    exact ⟨v', by rw [← q0]; exact e 0, by rw [← q1]; exact e 1, by rw [← q2]; exact e 2, by rw [← q3]; exact e 3, hd⟩
theorem Dat.at_ {w : World} {S : Nat → Prop} {A : Option Addr} {n c : Nat} {d : RM.Dl} (h : Dat w S (.slice A n c) d) {i : Nat} {x : RM.Dm} (hx : d.at_ i = some x) :
    ∃ g v, A = some ⟨g, 0, none⟩ ∧ g < w.heap.size ∧ w.cell? ⟨g, i * 4, none⟩ = some (.int .i64 x.k) ∧ w.cell? ⟨g, i * 4 + 1, none⟩ = some (.int .i64 x.n) ∧ w.cell? ⟨g, i * 4 + 2, none⟩ = some (.string ⟨x.s.toArray⟩) ∧ w.cell? ⟨g, i * 4 + 3, none⟩ = some v ∧ Dat w S v x.is := by
  obtain ⟨cs, h1, h2, h3⟩ := h
  obtain ⟨v, q0, q1, q2, q3, hd⟩ := h3.at_ hx
  have hl : cs.length = d.len * 4 := h1.1
  have hi : i * 4 + 3 < d.len * 4 := by rw [← hl]; exact (List.getElem?_eq_some_iff.1 q3).1
  obtain ⟨A', c', e, hr⟩ := own_read h1
  injection e with e1 e2 e3
  subst e1
  obtain ⟨g, hg, _, hlt, _⟩ := hr (i * 4) (by omega)
  subst hg
  have at' : ∀ j, j < d.len * 4 → w.cell? ⟨g, j, none⟩ = cs[j]? := fun j hj => by
    obtain ⟨g', hg', _, _, h'⟩ := hr j hj
    cases hg'
    exact h'
  exact ⟨g, v, rfl, hlt, by rw [at' _ (by omega), q0], by rw [at' _ (by omega), q1], by rw [at' _ (by omega), q2], by rw [at' _ (by omega), q3], hd⟩
theorem Dat.len {w : World} {S : Nat → Prop} {v : Value} {d : RM.Dl} (h : Dat w S v d) : d.len ≤ 9223372036854775807 := by
  obtain ⟨cs, h1, _⟩ := h
  rcases h1.2 with ⟨_, hn⟩ | ⟨g, cap, cur, _, _, _, hc, hm, _⟩
  · omega
  · unfold maxLen at hm; omega
theorem Dat.drew {w : World} {S : Nat → Prop} {v : Value} {d : RM.Dl} (h : Dat w S v d) : Dat w.drew S v d := h.turns (Turns.refl (fun _ => False) w).drew (fun _ _ _ h => h)
/-- what holds of all data of a row that is made of such -/
theorem RM.Dl.all_of (P : RM.Dm → Prop) (hP : ∀ k n s is, (∀ i x, RM.Dl.at_ is i = some x → P x) → P ⟨k, n, s, is⟩) : ∀ (d : RM.Dl) (i : Nat) (x : RM.Dm), d.at_ i = some x → P x
  | .nil, i, x, h => by simp [RM.Dl.at_] at h
  | .cons k n s is r, 0, x, h => by
    simp only [RM.Dl.at_, Option.some.injEq] at h
    subst h
    exact hP k n s is (RM.Dl.all_of P hP is)
  | .cons k n s is r, i + 1, x, h => RM.Dl.all_of P hP r i x h
def dtv (x : RM.Dm) (v : Value) : Value := .agg #[.int .i64 x.k, .int .i64 x.n, .string ⟨x.s.toArray⟩, v]

/-- four cells of a block are stored anew -/
def four (w : World) (g : Nat) (x0 x1 x2 x3 : Value) : World := (((w.setCell ⟨g, 0, none⟩ x0).setCell ⟨g, 1, none⟩ x1).setCell ⟨g, 2, none⟩ x2).setCell ⟨g, 3, none⟩ x3
section
variable {w a : World} {g h B : Nat} {t : TypeId} {cs : List Value} {X : Nat → Prop}
theorem four_lies {y0 y1 y2 y3 : Value} (hL : Lies w g t [y0, y1, y2, y3]) (x0 x1 x2 x3 : Value) : Lies (four w g x0 x1 x2 x3) g t [x0, x1, x2, x3] :=
  (((hL.stored 0 x0).stored 1 x1).stored 2 x2).stored 3 x3
theorem four_below (h : Below B a w) (hg : B ≤ g) (x0 x1 x2 x3 : Value) : Below B a (four w g x0 x1 x2 x3) :=
  (((h.setCell (p := ⟨g, 0, none⟩) hg _).setCell (p := ⟨g, 1, none⟩) hg _).setCell (p := ⟨g, 2, none⟩) hg _).setCell (p := ⟨g, 3, none⟩) hg _
theorem four_one (w : World) (g : Nat) (x0 x1 x2 x3 : Value) : Turns (fun k => k = g) w (four w g x0 x1 x2 x3) :=
  ((((Turns.refl (fun k => k = g) w).setCell (p := ⟨g, 0, none⟩) (fun _ => rfl) _).setCell (p := ⟨g, 1, none⟩) (fun _ => rfl) _).setCell (p := ⟨g, 2, none⟩) (fun _ => rfl) _).setCell (p := ⟨g, 3, none⟩) (fun _ => rfl) _
end
end Go.Proofs.YtpiekdcbjkgipaaGreatDoor

/- The plain mathematics of layer 9: how deep data are, how many parts they have, which are right, their texts. No dump is read here. -/
namespace Go.Proofs.YtpiekdcbjkgipaaGreatDoor.SM
open Go.RowKit RM

/-- how many stand within one another -/
def hi : Dl → Nat
  | .nil => 0
  | .cons _ _ _ is r => max (hi is + 1) (hi r)
/-- how many there are, with all within them -/
def sz : Dl → Nat
  | .nil => 0
  | .cons _ _ _ is r => sz is + 1 + sz r
/-- the data from a place on -/
def dr : Dl → Nat → Dl
  | d, 0 => d
  | .nil, _ + 1 => .nil
  | .cons _ _ _ _ r, i + 1 => dr r i
/-- the last one's kind -/
def lastk : Dl → Int
  | .nil => 0
  | .cons k _ _ _ r => if r.len = 0 then k else lastk r
theorem dr_at : ∀ (d : Dl) (i : Nat) (x : Dm), d.at_ i = some x → dr d i = .cons x.k x.n x.s x.is (dr d (i + 1))
  | .nil, i, x, h => by simp [Dl.at_] at h
  | .cons k n s is r, 0, x, h => by
    simp only [Dl.at_, Option.some.injEq] at h
    subst h
    cases r <;> rfl
  | .cons k n s is r, i + 1, x, h => by
    show dr r i = .cons x.k x.n x.s x.is (dr r (i + 1))
    exact dr_at r i x h
theorem dr_end : ∀ (d : Dl) (i : Nat), d.len ≤ i → dr d i = .nil
  | .nil, 0, _ => rfl
  | .nil, i + 1, _ => rfl
  | .cons k n s is r, 0, h => by simp [Dl.len] at h
  | .cons k n s is r, i + 1, h => dr_end r i (by simp only [Dl.len] at h; omega)
theorem dr_len : ∀ (d : Dl) (i : Nat), (dr d i).len = d.len - i
  | d, 0 => by simp [dr]
  | .nil, i + 1 => by simp [dr, Dl.len]
  | .cons k n s is r, i + 1 => by rw [dr, dr_len r i, Dl.len]; omega
theorem dr_zero (d : Dl) : dr d 0 = d := by cases d <;> rfl
theorem lastk_at : ∀ (d : Dl) (x : Dm), d.at_ (d.len - 1) = some x → lastk d = x.k
  | .nil, x, h => by simp [Dl.at_] at h
  | .cons k n s is r, x, h => by
    unfold lastk
    by_cases hr : r.len = 0
    · rw [if_pos hr]
      rw [show (Dl.cons k n s is r).len - 1 = 0 by simp [Dl.len, hr]] at h
      simp only [Dl.at_, Option.some.injEq] at h
      subst h; rfl
    · rw [if_neg hr]
      apply lastk_at r x
      rw [show (Dl.cons k n s is r).len - 1 = (r.len - 1) + 1 by simp only [Dl.len]; omega] at h
      exact h

/-- are a datum's fields as its kind asks for? -/
def kd (k n : Int) (s : List UInt8) (is : Dl) : Bool :=
  if k = 1 then decide (is.len = 0) && decide (s = []) && decide (-1152921504606846976 ≤ n ∧ n ≤ 1152921504606846975)
  else if k = 2 then decide (is.len = 0) && decide (s = []) && decide (n = 0 ∨ n = 1)
  else if k = 3 then decide (is.len = 0) && decide (s = []) && decide (0 ≤ n ∧ n ≤ 255)
  else if k = 4 then decide (is.len = 0) && decide (n = 0) && decide (s.length ≤ 500)
  else if k = 5 then decide (is.len = 0) && decide (n = 0) && LM.sym s
  else if k = 6 ∨ k = 8 then decide (n = 0) && decide (s = [])
  else if k = 7 then decide (n = 0) && decide (s = []) && decide (2 ≤ is.len) && decide (lastk is ≠ 6 ∧ lastk is ≠ 7)
  else false
def rgt : Dl → Bool
  | .nil => true
  | .cons k n s is r => kd k n s is && rgt is && rgt r
theorem rgt_none {d : Dl} (h : d.len = 0) : rgt d = true := by
  cases d with
  | nil => rfl
  | cons => simp [Dl.len] at h
/-- a datum is right: few parts, not too deep, each as it should be -/
def okd (x : Dm) : Bool := decide (sz x.is + 1 ≤ 4000) && decide (hi x.is + 1 ≤ 64) && (kd x.k x.n x.s x.is && rgt x.is)

/-! ### texts -/
def chr (c : Int) : List UInt8 :=
  if c < 0 ∨ 255 < c then []
  else if c = 32 then [35, 92, 115, 112, 97, 99, 101]
  else if c = 10 then [35, 92, 110, 101, 119, 108, 105, 110, 101]
  else if c = 9 then [35, 92, 116, 97, 98]
  else if c = 0 then [35, 92, 110, 117, 108]
  else [35, 92, UInt8.ofNat c.toNat]
def es (c : UInt8) : List UInt8 := if c = 10 then [92, 110] else if c = 9 then [92, 116] else if c = 92 ∨ c = 34 then [92, c] else [c]
def esl : List UInt8 → List UInt8
  | [] => []
  | c :: r => es c ++ esl r
theorem esl_snoc : ∀ (l : List UInt8) (c : UInt8), esl (l ++ [c]) = esl l ++ es c
  | [], c => by simp [esl]
  | d :: r, c => by rw [List.cons_append, esl, esl, esl_snoc r c, List.append_assoc]
theorem es_len (c : UInt8) : 1 ≤ (es c).length ∧ (es c).length ≤ 2 := by
  unfold es
  split
  · simp
  · split
    · simp
    · split <;> simp
theorem esl_len : ∀ l : List UInt8, (esl l).length ≤ 2 * l.length
  | [] => by simp [esl]
  | c :: r => by have := esl_len r; have := (es_len c).2; simp [esl]; omega
def quo (s : List UInt8) : List UInt8 := 34 :: (esl s ++ [34])
/-- a datum's text, of the text of its items -/
def one (p : Bool) (k n : Int) (s inner : List UInt8) : List UInt8 :=
  if k = 1 then Lib.itoa n
  else if k = 2 then (if n = 0 then [35, 102] else [35, 116])
  else if k = 3 then (if p then [UInt8.ofNat n.toNat] else chr n)
  else if k = 4 then (if p then s else quo s)
  else if k = 5 then s
  else (if k = 8 then [35, 40] else [40]) ++ (inner ++ [41])
/-- the texts of items, from one on: dot: a full stop stands ahead of the last; first: nothing stands ahead of these -/
def tl (p dot : Bool) : Bool → Dl → List UInt8
  | _, .nil => []
  | first, .cons k n s is r => (if first then [] else [32]) ++ ((if dot && decide (r.len = 0) then [46, 32] else []) ++ (one p k n s (tl p (decide (k = 7)) true is) ++ tl p dot false r))
def txt (p : Bool) (x : Dm) : List UInt8 := one p x.k x.n x.s (tl p (decide (x.k = 7)) true x.is)
theorem chr_len (c : Int) : (chr c).length ≤ 9 := by
  unfold chr
  split
  · simp
  · split
    · simp
    · split
      · simp
      · split
        · simp
        · split <;> simp
theorem one_len {p : Bool} {k n : Int} {s inner : List UInt8} {is : Dl} (h : kd k n s is = true) (hs : 4 ≤ k → k ≤ 5 → s.length ≤ 500) : (one p k n s inner).length ≤ 1002 + inner.length := by
  unfold one
  split
  · rename_i h1
    subst h1
    have hb : -1152921504606846976 ≤ n ∧ n ≤ 1152921504606846975 := by simp [kd] at h; exact h.2
    have := Lib.itoa_length_le n (by omega) (by omega)
    omega
  · split
    · split <;> simp <;> omega
    · split
      · split
        · simp; omega
        · have := chr_len n; omega
      · split
        · rename_i h4
          have := hs (by omega) (by omega)
          split
          · omega
          · have := esl_len s; simp [quo]; omega
        · split
          · rename_i h5
            have := hs (by omega) (by omega)
            omega
          · split <;> simp <;> omega
theorem sym_short {s : List UInt8} (h : LM.sym s = true) : s.length ≤ 60 := by
  unfold LM.sym at h
  simp only [Bool.and_eq_true, decide_eq_true_eq] at h
  omega
theorem kd_short {k n : Int} {s : List UInt8} {is : Dl} (h : kd k n s is = true) (h4 : 4 ≤ k) (h5 : k ≤ 5) : s.length ≤ 500 := by
  rcases (show k = 4 ∨ k = 5 by omega) with rfl | rfl
  · simp [kd] at h; exact h.2
  · simp [kd] at h; have := sym_short h.2; omega
theorem tl_len (p : Bool) : ∀ (d : Dl) (dot first : Bool), rgt d = true → (tl p dot first d).length ≤ 1010 * sz d
  | .nil, dot, first, _ => by simp [tl]
  | .cons k n s is r, dot, first, h => by
    simp only [rgt, Bool.and_eq_true] at h
    have h1 := tl_len p r dot false h.2
    have h2 := tl_len p is (decide (k = 7)) true h.1.2
    have h3 := one_len (p := p) (inner := tl p (decide (k = 7)) true is) h.1.1 (kd_short h.1.1)
    have h4 : (if first then ([] : List UInt8) else [32]).length ≤ 1 := by split <;> simp
    have h5 : (if dot && decide (r.len = 0) then ([46, 32] : List UInt8) else []).length ≤ 2 := by split <;> simp
    simp only [tl, List.length_append, sz]
    omega
theorem txt_len (p : Bool) (x : Dm) (h : kd x.k x.n x.s x.is = true) (hr : rgt x.is = true) : (txt p x).length ≤ 1010 * (sz x.is + 1) := by
  have h2 := tl_len p x.is (decide (x.k = 7)) true hr
  have h3 := one_len (p := p) (inner := tl p (decide (x.k = 7)) true x.is) h (kd_short h)
  unfold txt
  omega
end Go.Proofs.YtpiekdcbjkgipaaGreatDoor.SM

/- The plain mathematics of layer 10: terms, their parts, which are right, how their locals are numbered. No dump is read here. -/
namespace Go.Proofs.YtpiekdcbjkgipaaGreatDoor.TM
open Go.RowKit RM

/-- some terms, one behind the other: each one's kind, number, name, locals, datum and kids -/
inductive Tl where
  | nil : Tl
  | cons : Int → Int → List UInt8 → List Int → Dm → Tl → Tl → Tl
/-- one of them -/
structure Tm where
  k : Int
  n : Int
  s : List UInt8
  ps : List Int
  d : Dm
  ks : Tl
namespace Tl
def len : Tl → Nat
  | .nil => 0
  | .cons _ _ _ _ _ _ r => r.len + 1
def one (t : Tm) : Tl := .cons t.k t.n t.s t.ps t.d t.ks .nil
def app : Tl → Tl → Tl
  | .nil, e => e
  | .cons k n s ps d ks r, e => .cons k n s ps d ks (r.app e)
def snoc (l : Tl) (t : Tm) : Tl := l.app (.one t)
def at_ : Tl → Nat → Option Tm
  | .nil, _ => none
  | .cons k n s ps d ks _, 0 => some ⟨k, n, s, ps, d, ks⟩
  | .cons _ _ _ _ _ _ r, i + 1 => r.at_ i
theorem at_some : ∀ (d : Tl) (i : Nat), i < d.len → ∃ x, d.at_ i = some x
  | .nil, i, h => by simp [len] at h
  | .cons k n s ps d ks r, 0, h => ⟨_, rfl⟩
  | .cons k n s ps d ks r, i + 1, h => at_some r i (by simp only [len] at h; omega)
theorem at_lt : ∀ {d : Tl} {i : Nat} {x : Tm}, d.at_ i = some x → i < d.len
  | .nil, i, _, h => by simp [at_] at h
  | .cons k n s ps d ks r, 0, _, h => by simp [len]
  | .cons k n s ps d ks r, i + 1, x, h => by
    have := at_lt (show r.at_ i = some x from h)
    simp only [len]; omega
theorem len_app : ∀ a b : Tl, (a.app b).len = a.len + b.len
  | .nil, b => by simp [app, len]
  | .cons k n s ps d ks r, b => by rw [app, len, len, len_app r]; omega
theorem len_snoc (l : Tl) (t : Tm) : (l.snoc t).len = l.len + 1 := by rw [snoc, len_app]; rfl
/-- what holds of all terms of a row that is made of such -/
theorem all_of (P : Tm → Prop) (hP : ∀ k n s ps d ks, (∀ i x, at_ ks i = some x → P x) → P ⟨k, n, s, ps, d, ks⟩) : ∀ (d : Tl) (i : Nat) (x : Tm), d.at_ i = some x → P x
  | .nil, i, x, h => by simp [at_] at h
  | .cons k n s ps d ks r, 0, x, h => by
    simp only [at_, Option.some.injEq] at h
    subst h
    exact hP k n s ps d ks (all_of P hP ks)
  | .cons k n s ps d ks r, i + 1, x, h => all_of P hP r i x h
theorem all_one (P : Tm → Prop) (hP : ∀ k n s ps d ks, (∀ i x, at_ ks i = some x → P x) → P ⟨k, n, s, ps, d, ks⟩) (x : Tm) : P x := all_of P hP (.one x) 0 x (by cases x; rfl)
/-- those from a place on -/
def dr : Tl → Nat → Tl
  | d, 0 => d
  | .nil, _ + 1 => .nil
  | .cons _ _ _ _ _ _ r, i + 1 => dr r i
theorem dr_zero (d : Tl) : dr d 0 = d := by cases d <;> rfl
theorem dr_at : ∀ (d : Tl) (i : Nat) (x : Tm), d.at_ i = some x → dr d i = .cons x.k x.n x.s x.ps x.d x.ks (dr d (i + 1))
  | .nil, i, x, h => by simp [at_] at h
  | .cons k n s ps d ks r, 0, x, h => by
    simp only [at_, Option.some.injEq] at h
    subst h
    cases r <;> rfl
  | .cons k n s ps d ks r, i + 1, x, h => by
    show dr r i = .cons x.k x.n x.s x.ps x.d x.ks (dr r (i + 1))
    exact dr_at r i x h
theorem dr_end : ∀ (d : Tl) (i : Nat), d.len ≤ i → dr d i = .nil
  | .nil, 0, _ => rfl
  | .nil, i + 1, _ => rfl
  | .cons k n s ps d ks r, 0, h => by simp [len] at h
  | .cons k n s ps d ks r, i + 1, h => dr_end r i (by simp only [len] at h; omega)
theorem dr_len : ∀ (d : Tl) (i : Nat), (dr d i).len = d.len - i
  | d, 0 => by simp [dr]
  | .nil, i + 1 => by simp [dr, len]
  | .cons k n s ps d ks r, i + 1 => by rw [dr, dr_len r i, len]; omega
/-- the first ones -/
def tk : Tl → Nat → Tl
  | _, 0 => .nil
  | .nil, _ + 1 => .nil
  | .cons k n s ps d ks r, i + 1 => .cons k n s ps d ks (tk r i)
theorem tk_zero (d : Tl) : tk d 0 = .nil := by cases d <;> rfl
theorem tk_all : ∀ d : Tl, tk d d.len = d
  | .nil => rfl
  | .cons k n s ps d ks r => by rw [len, tk, tk_all r]
theorem tk_len : ∀ (d : Tl) (i : Nat), i ≤ d.len → (tk d i).len = i
  | .nil, 0, _ => rfl
  | .nil, i + 1, h => by simp [len] at h
  | .cons k n s ps d ks r, 0, _ => rfl
  | .cons k n s ps d ks r, i + 1, h => by rw [tk, len, tk_len r i (by simp only [len] at h; omega)]
theorem tk_snoc : ∀ (d : Tl) (i : Nat) (x : Tm), d.at_ i = some x → tk d (i + 1) = (tk d i).snoc x
  | .nil, i, x, h => by simp [at_] at h
  | .cons k n s ps d ks r, 0, x, h => by
    simp only [at_, Option.some.injEq] at h
    subst h
    cases r <;> rfl
  | .cons k n s ps d ks r, i + 1, x, h => by
    show Tl.cons k n s ps d ks (tk r (i + 1)) = _
    rw [tk_snoc r i x h]; rfl
theorem tk_dr : ∀ (d : Tl) (i : Nat), (tk d i).app (dr d i) = d
  | d, 0 => by rw [tk_zero, dr_zero]; rfl
  | .nil, i + 1 => rfl
  | .cons k n s ps d ks r, i + 1 => by rw [tk, dr, app, tk_dr r i]
end Tl

/-- how many stand within one another -/
def hi : Tl → Nat
  | .nil => 0
  | .cons _ _ _ _ _ ks r => max (hi ks + 1) (hi r)
/-- how many there are, with all within them -/
def sz : Tl → Nat
  | .nil => 0
  | .cons _ _ _ _ _ ks r => sz ks + 1 + sz r
theorem hi_len : ∀ (d : Tl), 0 < d.len → 1 ≤ hi d
  | .nil, h => by simp [Tl.len] at h
  | .cons k n s ps d ks r, _ => by unfold hi; omega
theorem hi_at {d : Tl} {i : Nat} {x : Tm} (h : d.at_ i = some x) : hi (d.dr i) = max (hi x.ks + 1) (hi (d.dr (i + 1))) := by rw [Tl.dr_at d i x h]; rfl
theorem sz_at {d : Tl} {i : Nat} {x : Tm} (h : d.at_ i = some x) : sz (d.dr i) = sz x.ks + 1 + sz (d.dr (i + 1)) := by rw [Tl.dr_at d i x h]; rfl
theorem hi_dr : ∀ (d : Tl) (i : Nat), hi (d.dr i) ≤ hi d
  | d, 0 => by rw [Tl.dr_zero]; exact Nat.le_refl _
  | .nil, i + 1 => Nat.le_refl _
  | .cons k n s ps d ks r, i + 1 => by
    have := hi_dr r i
    show hi (r.dr i) ≤ max (hi ks + 1) (hi r)
    omega
theorem sz_dr : ∀ (d : Tl) (i : Nat), sz (d.dr i) ≤ sz d
  | d, 0 => by rw [Tl.dr_zero]; exact Nat.le_refl _
  | .nil, i + 1 => Nat.le_refl _
  | .cons k n s ps d ks r, i + 1 => by
    have := sz_dr r i
    show sz (r.dr i) ≤ sz ks + 1 + sz r
    omega
theorem sz_in {d : Tl} {i : Nat} {x : Tm} (h : d.at_ i = some x) : sz x.ks + 1 ≤ sz d := by
  have := sz_dr d i
  rw [sz_at h] at this
  omega
theorem hi_in {d : Tl} {i : Nat} {x : Tm} (h : d.at_ i = some x) : hi x.ks + 1 ≤ hi d := by
  have := hi_dr d i
  rw [hi_at h] at this
  omega
theorem len_sz : ∀ d : Tl, d.len ≤ sz d
  | .nil => Nat.le_refl _
  | .cons k n s ps d ks r => by have := len_sz r; simp only [Tl.len, sz]; omega

/-- all Params, from the front -/
def prs : Tl → List Int
  | .nil => []
  | .cons _ _ _ ps _ ks r => ps ++ (prs ks ++ prs r)
theorem prs_app : ∀ a b : Tl, prs (a.app b) = prs a ++ prs b
  | .nil, b => rfl
  | .cons k n s ps d ks r, b => by rw [Tl.app, prs, prs, prs_app r b]; simp
theorem prs_snoc (a : Tl) (x : Tm) : prs (a.snoc x) = prs a ++ (x.ps ++ prs x.ks) := by rw [Tl.snoc, prs_app]; simp [Tl.one, prs]
/-- are these locals that weren't met, all above 0, each once? -/
def frs : List Int → List Int → Bool
  | _, [] => true
  | met, p :: r => decide (1 ≤ p) && !met.contains p && frs (met ++ [p]) r
theorem frs_app : ∀ (met a b : List Int), frs met (a ++ b) = (frs met a && frs (met ++ a) b)
  | met, [], b => by simp [frs]
  | met, p :: a, b => by
    rw [List.cons_append, frs, frs, frs_app (met ++ [p]) a b, List.append_assoc]
    simp [Bool.and_assoc]

def nod (d : Dm) : Bool := decide (d.k = 0) && decide (d.n = 0) && decide (d.s = []) && decide (d.is.len = 0)
/-- may a datum be quoted? -/
def quo (d : Dm) : Bool := if d.k = 0 then (decide (d.n = 0) || decide (d.n = 1)) && decide (d.s = []) && decide (d.is.len = 0) else SM.okd d
/-- are a term's fields as its kind asks for, where these locals are bound? -/
def fit (bd : List Int) (t : Tm) : Bool :=
  if t.k = 1 then decide (t.ks.len = 0) && decide (t.s = []) && decide (t.ps = []) && decide (t.n = 0) && quo t.d
  else if t.k = 2 then decide (t.ks.len = 0) && decide (t.s = []) && decide (t.ps = []) && bd.contains t.n && nod t.d
  else if t.k = 3 then decide (t.ks.len = 0) && decide (t.ps = []) && decide (t.n = 0) && LM.sym t.s && nod t.d
  else if t.k = 4 then decide (t.ks.len = 1) && decide (t.s = []) && decide (t.ps = []) && bd.contains t.n && nod t.d
  else if t.k = 5 ∨ t.k = 6 then decide (t.ks.len = 1) && decide (t.ps = []) && decide (t.n = 0) && LM.sym t.s && nod t.d
  else if t.k = 7 then (decide (t.ks.len = 2) || decide (t.ks.len = 3)) && decide (t.s = []) && decide (t.ps = []) && decide (t.n = 0) && nod t.d
  else if t.k = 8 then decide (t.ks.len = 1) && decide (t.s = []) && decide (t.ps.length ≤ 24) && (decide (t.n = 0) || (decide (t.n = 1) && !decide (t.ps = []))) && nod t.d
  else if t.k = 9 then decide (1 ≤ t.ks.len) && decide (t.s = []) && decide (t.ps = []) && decide (t.n = 0) && nod t.d
  else if t.k = 10 then decide (1 ≤ t.ks.len) && decide (t.ks.len ≤ 29) && decide (t.s = []) && decide (t.ps = []) && decide (t.n = 0) && nod t.d
  else false
/-- are all of a row right, where these locals are bound? (whatever their Params are) -/
def rtl : List Int → Tl → Bool
  | _, .nil => true
  | bd, .cons k n s ps d ks r => fit bd ⟨k, n, s, ps, d, ks⟩ && rtl (bd ++ ps) ks && rtl bd r
theorem rtl_at {bd : List Int} {d : Tl} {i : Nat} {x : Tm} (h : d.at_ i = some x) : rtl bd (d.dr i) = (fit bd x && rtl (bd ++ x.ps) x.ks && rtl bd (d.dr (i + 1))) := by rw [Tl.dr_at d i x h]; rfl
theorem prs_at {d : Tl} {i : Nat} {x : Tm} (h : d.at_ i = some x) : prs (d.dr i) = x.ps ++ (prs x.ks ++ prs (d.dr (i + 1))) := by rw [Tl.dr_at d i x h]; rfl
/-- is a term right where some locals were met, and some of them are bound? -/
def ok1 (bd : List Int) (t : Tm) : Bool := fit bd t && rtl (bd ++ t.ps) t.ks
def okt (t : Tm) : Bool := decide (sz t.ks + 1 ≤ 4000) && decide (hi t.ks + 1 ≤ 200) && frs [] (t.ps ++ prs t.ks) && ok1 [] t

/-- a local's place among some, from 1 on -/
def pl (l : List Int) (n : Int) : Int := if l.contains n then (l.idxOf n : Int) + 1 else 0
/-- the same terms, with their locals numbered -/
def nmt (l : List Int) : Tl → Tl
  | .nil => .nil
  | .cons k n s ps d ks r => .cons k (if k = 2 ∨ k = 4 then pl l n else n) s (ps.map (pl l)) d (nmt l ks) (nmt l r)
def nm1 (l : List Int) (t : Tm) : Tm := ⟨t.k, if t.k = 2 ∨ t.k = 4 then pl l t.n else t.n, t.s, t.ps.map (pl l), t.d, nmt l t.ks⟩
def alpha (t : Tm) : Tm := nm1 (t.ps ++ prs t.ks) t
theorem nmt_len (l : List Int) : ∀ d : Tl, (nmt l d).len = d.len
  | .nil => rfl
  | .cons k n s ps d ks r => by rw [nmt, Tl.len, Tl.len, nmt_len l r]
theorem nmt_at (l : List Int) : ∀ {d : Tl} {i : Nat} {x : Tm}, d.at_ i = some x → (nmt l d).at_ i = some (nm1 l x)
  | .nil, i, x, h => by simp [Tl.at_] at h
  | .cons k n s ps d ks r, 0, x, h => by
    simp only [Tl.at_, Option.some.injEq] at h
    subst h; rfl
  | .cons k n s ps d ks r, i + 1, x, h => by
    have h' : r.at_ i = some x := h
    exact nmt_at l (d := r) (i := i) h'
theorem nmt_snoc (l : List Int) : ∀ (d : Tl) (x : Tm), nmt l (d.snoc x) = (nmt l d).snoc (nm1 l x)
  | .nil, x => rfl
  | .cons k n s ps d ks r, x => by
    show Tl.cons _ _ _ _ _ _ (nmt l (r.snoc x)) = _
    rw [nmt_snoc l r x]; rfl
end Go.Proofs.YtpiekdcbjkgipaaGreatDoor.TM

/- The plain mathematics of terms' texts. No dump is read here. -/
namespace Go.Proofs.YtpiekdcbjkgipaaGreatDoor.TM
open Go.RowKit RM

def loc (n : Int) : List UInt8 := 46 :: Lib.itoa n
/-- a procedure's locals, from one on -/
def prw (n : Int) : Bool → List Int → List UInt8
  | _, [] => []
  | first, p :: r => (if n = 1 ∧ r = [] then [32, 46, 32] else if first then [] else [32]) ++ (loc p ++ prw n false r)
def prt (n : Int) (ps : List Int) : List UInt8 := if n = 1 ∧ ps.length = 1 then loc (ps.headD 0) else 40 :: (prw n true ps ++ [41])
/-- what stands in a term's parentheses ahead of its kids -/
def hdt (k n : Int) (s : List UInt8) (ps : List Int) : List UInt8 :=
  if k = 4 then [115, 101, 116, 33, 32] ++ (loc n ++ [32])
  else if k = 5 then [115, 101, 116, 33, 32] ++ (s ++ [32])
  else if k = 6 then [100, 101, 102, 105, 110, 101, 32] ++ (s ++ [32])
  else if k = 7 then [105, 102, 32]
  else if k = 8 then [108, 97, 109, 98, 100, 97, 32] ++ (prt n ps ++ [32])
  else if k = 9 then [98, 101, 103, 105, 110, 32]
  else []
def qtx (d : Dm) : List UInt8 := if d.k ≠ 0 then [40, 113, 117, 111, 116, 101, 32] ++ (SM.txt false d ++ [41]) else if d.n = 0 then [35, 118, 111, 105, 100] else [35, 117, 110, 100, 101, 102]
/-- a term's text, of its kids' texts -/
def tx1 (k n : Int) (s : List UInt8) (ps : List Int) (d : Dm) (inner : List UInt8) : List UInt8 :=
  if k = 1 then qtx d else if k = 2 then loc n else if k = 3 then s else 40 :: (hdt k n s ps ++ (inner ++ [41]))
def txs : Bool → Tl → List UInt8
  | _, .nil => []
  | first, .cons k n s ps d ks r => (if first then [] else [32]) ++ (tx1 k n s ps d (txs true ks) ++ txs false r)
def ttx (t : Tm) : List UInt8 := tx1 t.k t.n t.s t.ps t.d (txs true t.ks)
theorem txs_at {d : Tl} {i : Nat} {x : Tm} {f : Bool} (h : d.at_ i = some x) : txs f (d.dr i) = (if f then [] else [32]) ++ (ttx x ++ txs false (d.dr (i + 1))) := by rw [Tl.dr_at d i x h]; rfl
/-! ### how long they are -/
theorem loc_len {n : Int} (h : -9223372036854775808 ≤ n ∧ n ≤ 9223372036854775807) : (loc n).length ≤ 30 := by
  have := Lib.itoa_length_le n (by omega) (by omega)
  simp [loc]; omega
theorem prw_len (n : Int) : ∀ (f : Bool) (l : List Int), (∀ p ∈ l, -9223372036854775808 ≤ p ∧ p ≤ 9223372036854775807) → (prw n f l).length ≤ 40 * l.length
  | _, [], _ => by simp [prw]
  | f, p :: r, h => by
    have h1 := loc_len (h p (by simp))
    have h2 := prw_len n false r (fun q hq => h q (by simp [hq]))
    have h3 : (if n = 1 ∧ r = [] then ([32, 46, 32] : List UInt8) else if f then [] else [32]).length ≤ 3 := by
      split
      · simp
      · split <;> simp
    rw [prw, List.length_append, List.length_append, List.length_cons]
    omega
theorem prt_len (n : Int) (l : List Int) (h : ∀ p ∈ l, -9223372036854775808 ≤ p ∧ p ≤ 9223372036854775807) : (prt n l).length ≤ 40 * l.length + 2 := by
  unfold prt
  split
  · rename_i hh
    cases l with
    | nil => simp at hh
    | cons p r =>
      have := loc_len (h p (by simp))
      simp only [List.headD_cons, List.length_cons]
      omega
  · have := prw_len n true l h
    simp; omega
theorem qtx_len {d : Dm} (h : quo d = true) : (qtx d).length ≤ 5000000 := by
  unfold qtx
  split
  · rename_i hk
    unfold quo at h
    rw [if_neg hk] at h
    unfold SM.okd at h
    simp only [Bool.and_eq_true, decide_eq_true_eq] at h
    have := SM.txt_len false d h.2.1 h.2.2
    simp; omega
  · split <;> simp
theorem fit_short {bd : List Int} {t : Tm} (h : fit bd t = true) : t.s.length ≤ 60 := by
  have z : t.s = [] → t.s.length ≤ 60 := fun h => by rw [h]; simp
  unfold fit at h
  split at h
  · exact z (by simp at h; exact h.1.1.1.2)
  split at h
  · exact z (by simp at h; exact h.1.1.1.2)
  split at h
  · simp at h; exact SM.sym_short h.1.2
  split at h
  · exact z (by simp at h; exact h.1.1.1.2)
  split at h
  · simp at h; exact SM.sym_short h.1.2
  split at h
  · exact z (by simp at h; exact h.1.1.1.2)
  split at h
  · exact z (by simp at h; exact h.1.1.1.2)
  split at h
  · exact z (by simp at h; exact h.1.1.1.2)
  split at h
  · exact z (by simp at h; exact h.1.1.1.2)
  · simp at h
end Go.Proofs.YtpiekdcbjkgipaaGreatDoor.TM
