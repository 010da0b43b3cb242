/- More of the plain mathematics of layer 8: all data of a text, behind another one, and within brackets. No dump is read here. -/
import Derived.Test.YtbomodendobnkaaGreatQ4
namespace Go.Proofs.YtbomodendobnkaaGreat.RM
open Go.RowKit

/-! ### how many items there can be -/
def Ln (B : LM.Nx → St → Re) : Prop := ∀ X s d s', B X s = .ok (d, s') → d.is.len + s'.l.length ≤ s.l.length + 2
theorem joined_len (items : Dl) (d : Dm) : (joined items d).is.len ≤ items.len + d.is.len + 1 ∧ ((joined items d).is.len = items.len + d.is.len ∨ (joined items d).is.len = items.len + 1) := by
  unfold joined
  split
  · show (items.app d.is).len ≤ _ ∧ _
    rw [Dl.len_app]; exact ⟨by omega, .inl rfl⟩
  · show (items.snoc d).len ≤ _ ∧ _
    rw [Dl.len_snoc]; exact ⟨by omega, .inr rfl⟩
theorem dot_len {B : LM.Nx → St → Re} (hB : Le B) (hL : Ln B) (h14 : ∀ X s r, B X s = .ok r → X.t.k ≠ 14) {items : Dl} {s : St} {d : Dm} {s' : St} (h : dot B items s = .ok (d, s')) : d.is.len + s'.l.length ≤ items.len + s.l.length + 1 := by
  unfold dot at h
  obtain ⟨he, h⟩ := nxt_ok h
  split at h
  · cases h
  · rename_i d2 s2 hb
    have h1 := hB _ _ _ _ hb
    have h2 := hL _ _ _ _ hb
    have h3 := after_lt he (h14 _ _ _ hb)
    obtain ⟨he2, h⟩ := nxt_ok h
    split at h
    · cases h
    · rename_i n14
      have h4 := after_lt he2 n14
      split at h
      · cases h
      · injection h with h; injection h with h5 h6; subst h6; subst h5
        have := (joined_len items d2).2
        omega
theorem row_len {B : LM.Nx → St → Re} (hB : Le B) (hL : Ln B) (h14 : ∀ X s r, B X s = .ok r → X.t.k ≠ 14) (kind : Int) : ∀ (f : Nat) (items : Dl) (s : St) (d : Dm) (s' : St), row B kind f items s = .ok (d, s') → d.is.len + s'.l.length ≤ items.len + s.l.length
  | 0, _, _, _, _, h => by unfold row at h; cases h
  | f + 1, items, s, d, s', h => by
    unfold row at h
    obtain ⟨he, h⟩ := nxt_ok h
    have h0 := after_le s
    split at h
    · injection h with h; injection h with h5 h6; subst h6; subst h5
      show items.len + s.after.l.length ≤ _
      omega
    · split at h
      · rename_i h8
        have := dot_len hB hL h14 h
        have := after_lt he (by omega)
        omega
      · split at h
        · cases h
        · rename_i d2 s2 hb
          have h1 := hB _ _ _ _ hb
          have h2 := after_lt he (h14 _ _ _ hb)
          have := row_len hB hL h14 kind f _ _ _ _ h
          rw [Dl.len_snoc] at this
          omega
theorem beg_len : ∀ v, Ln (beg v)
  | 0, X, s, d, s', h => by unfold beg at h; split at h <;> cases h
  | v + 1, X, s, d, s', h => by
    have ih := beg_len v
    have hB := beg_le v
    unfold beg at h
    split at h
    · cases h
    split at h
    · cases h
    split at h
    · have := row_len hB ih (fun _ _ _ => beg_end v) _ _ _ _ _ _ h
      simp only [Dl.len] at this; omega
    split at h
    · have := row_len hB ih (fun _ _ _ => beg_end v) _ _ _ _ _ _ h
      simp only [Dl.len] at this; omega
    split at h
    · have hl := mark_le hB h
      unfold mark at h
      obtain ⟨-, h⟩ := nxt_ok h
      split at h
      · cases h
      · injection h with h; injection h with h5 h6; subst h6; subst h5
        show 2 + _ ≤ _
        omega
    split at h
    · cases h
    · injection h with h; injection h with h5 h6; subst h6; subst h5
      show 0 + _ ≤ _
      omega

/-- nothing but blanks is left -/
def bare (l : List UInt8) : Prop := LM.skp false l = l.length
theorem bare_of {s : St} (he : s.nx.t.e = 0) (hk : s.nx.t.k = 14) : bare s.l := by
  rcases LM.nx_end s.l s.i s.j he with h | h
  · have h0 := congrArg List.length h.2.2
    rw [List.length_drop, List.length_nil] at h0
    have := LM.skp_le false s.l
    unfold bare; omega
  · exact absurd hk h.1
theorem bare_nx {l : List UInt8} (h : bare l) (i j : Int) : (LM.nx l i j).t = LM.tok 14 0 [] 0 := by
  unfold LM.nx
  simp only
  rw [h, List.drop_length]; rfl
theorem whole_nil : LM.whole [] := fun z => by simp
theorem whole_bare {l : List UInt8} (h : bare l) : LM.whole (l ++ [10]) := fun z => by
  rw [List.append_assoc]
  show LM.skp false (l ++ 10 :: z) = _
  rw [LM.skp_all false l z h]; simp
theorem bare_whole {p l : List UInt8} (hp : LM.whole p) (h : bare l) : bare (p ++ l) := by
  unfold bare at h ⊢
  rw [hp l, h, List.length_append]
/-- what the second reader has left: blanks, what the first one has, and z -/
def Bh (p z : List UInt8) (s t : St) : Prop := LM.whole p ∧ t.l = p ++ (s.l ++ z)
theorem Bh.nx {p z : List UInt8} {s t : St} (h : Bh p z s t) (hz : LM.brk z) (he : s.nx.t.e = 0) (hk : s.nx.t.k ≠ 14) : t.nx.t = s.nx.t ∧ t.after.l = s.after.l ++ z := by
  obtain ⟨hp, ht⟩ := h
  let t' : St := ⟨s.l ++ z, s.i, s.j, s.m⟩
  obtain ⟨h1, h2⟩ := Sm.nx (δ := 0) (s := s) (t := t') ⟨rfl, rfl⟩ hz he hk
  have hb := LM.nx_blanks p (s.l ++ z) t.i t.j hp
  have e1 : t.nx.t = s.nx.t := by
    show (LM.nx t.l t.i t.j).t = _
    rw [ht, hb.1, (LM.nx_any (s.l ++ z) t.i t.j s.i s.j).1]
    exact h1
  refine ⟨e1, ?_⟩
  have e2 : t.nx.len = p.length + t'.nx.len := by
    show (LM.nx t.l t.i t.j).len = _
    rw [ht, hb.2, (LM.nx_any (s.l ++ z) t.i t.j s.i s.j).2]; rfl
  show t.l.drop t.nx.len = _
  rw [e2, ht, List.drop_append, List.drop_of_length_le (by omega), List.nil_append, show p.length + t'.nx.len - p.length = t'.nx.len by omega]
  exact h2.1
theorem all_step {f : Nat} {data A : Dl} {s : St} (h : all (f + 1) data s = .ok A) :
    (bare s.l ∧ A = data) ∨ ∃ d s2, (⟨s.l, s.i, s.j, 0⟩ : St).nx.t.e = 0 ∧ (⟨s.l, s.i, s.j, 0⟩ : St).nx.t.k ≠ 14 ∧ beg 64 (⟨s.l, s.i, s.j, 0⟩ : St).nx (⟨s.l, s.i, s.j, 0⟩ : St).after = .ok (d, s2) ∧ s2.l.length < s.l.length ∧ all f (data.snoc d) s2 = .ok A := by
  unfold all at h
  simp only at h
  split at h
  · cases h
  rename_i he
  split at h
  · rename_i hk
    injection h with h
    exact .inl ⟨bare_of (s := ⟨s.l, s.i, s.j, 0⟩) (by simpa using he) hk, h.symm⟩
  rename_i hk
  split at h
  · cases h
  rename_i d s2 hb
  have h1 := beg_le 64 _ _ _ _ hb
  have h2 := after_lt (s := ⟨s.l, s.i, s.j, 0⟩) (by simpa using he) hk
  exact .inr ⟨d, s2, by simpa using he, hk, hb, by simp only at h2; omega, h⟩
theorem all_go {f : Nat} {data : Dl} {t : St} {d : Dm} {t2 : St} (he : (⟨t.l, t.i, t.j, 0⟩ : St).nx.t.e = 0) (hk : (⟨t.l, t.i, t.j, 0⟩ : St).nx.t.k ≠ 14) (hb : beg 64 (⟨t.l, t.i, t.j, 0⟩ : St).nx (⟨t.l, t.i, t.j, 0⟩ : St).after = .ok (d, t2)) : all (f + 1) data t = all f (data.snoc d) t2 := by
  conv => lhs; unfold all
  simp only
  rw [if_neg (by simp [he]), if_neg hk, hb]
theorem all_stop {f : Nat} {data : Dl} {t : St} (h : bare t.l) : all (f + 1) data t = .ok data := by
  have hx := bare_nx h t.i t.j
  unfold all
  simp only
  rw [show (⟨t.l, t.i, t.j, 0⟩ : St).nx.t = LM.tok 14 0 [] 0 from hx, if_neg (by decide), if_pos (by decide)]
/-- the second reader, of a text that goes on with z, has the same data, and then what is left of both -/
theorem all_sim {z : List UInt8} (hz : LM.brk z) : ∀ (f : Nat) (D1 A : Dl) (s : St), all f D1 s = .ok A → ∀ (p : List UInt8) (g : Nat) (D2 : Dl) (t : St), Bh p z s t → t.l.length < g →
    ∃ (E : Dl) (q : List UInt8) (s2 t2 : St) (g2 : Nat), A = D1.app E ∧ bare s2.l ∧ Bh q z s2 t2 ∧ t2.l.length < g2 ∧ all g D2 t = all g2 (D2.app E) t2
  | 0, _, _, _, h => by unfold all at h; cases h
  | f + 1, D1, A, s, h => by
    intro p g D2 t hB hg
    rcases all_step h with ⟨hb, rfl⟩ | ⟨d, s2, he, hk, hbeg, hl, hA⟩
    · exact ⟨.nil, p, s, t, g, (Dl.app_nil _).symm, hb, hB, hg, by rw [Dl.app_nil]⟩
    · obtain ⟨g, rfl⟩ : ∃ g', g = g' + 1 := ⟨g - 1, by omega⟩
      have hB0 : Bh p z (⟨s.l, s.i, s.j, 0⟩ : St) (⟨t.l, t.i, t.j, 0⟩ : St) := hB
      obtain ⟨h1, h2⟩ := hB0.nx hz he hk
      rcases beg_sim (P := False) (δ := 0) hz 64 64 (Nat.le_refl _) (by omega) _ _ _ _ _ h1 ⟨h2, rfl⟩ hbeg with ⟨t2, hc, h3⟩ | ⟨hF, -⟩
      · have hl2 : t2.l.length < g := by
          rw [h3.1, List.length_append]
          have := hB.2
          have h4 : t.l.length = p.length + (s.l.length + z.length) := by rw [this, List.length_append, List.length_append]
          show s2.l.length + z.length < g
          omega
        obtain ⟨E, q, s3, t3, g3, e1, e2, e3, e4, e5⟩ := all_sim hz f _ A s2 hA [] g (D2.snoc d) t2 ⟨whole_nil, by rw [h3.1]; rfl⟩ hl2
        refine ⟨(Dl.one d).app E, q, s3, t3, g3, ?_, e2, e3, e4, ?_⟩
        · rw [e1, Dl.snoc, Dl.app_app]
        · rw [all_go (by rw [h1]; exact he) (by rw [h1]; exact hk) hc, e5, Dl.snoc, Dl.app_app]
      · exact hF.elim
/-- a row within brackets has the same data, or too many stand within one another -/
theorem row_all {z : List UInt8} (hz : LM.brk z) (v : Nat) (hv : v < 64) : ∀ (f : Nat) (D1 A : Dl) (s : St), all f D1 s = .ok A → ∀ (p : List UInt8) (g : Nat) (D2 : Dl) (t : St), Bh p z s t → t.l.length < g →
    (∃ (E : Dl) (q : List UInt8) (s2 t2 : St) (g2 : Nat), A = D1.app E ∧ bare s2.l ∧ Bh q z s2 t2 ∧ t2.l.length < g2 ∧ row (beg v) 6 g D2 t = row (beg v) 6 g2 (D2.app E) t2) ∨ ∃ i j, row (beg v) 6 g D2 t = .error (14, i, j)
  | 0, _, _, _, h => by unfold all at h; cases h
  | f + 1, D1, A, s, h => by
    intro p g D2 t hB hg
    rcases all_step h with ⟨hb, rfl⟩ | ⟨d, s2, he, hk, hbeg, hl, hA⟩
    · exact .inl ⟨.nil, p, s, t, g, (Dl.app_nil _).symm, hb, hB, hg, by rw [Dl.app_nil]⟩
    · obtain ⟨g, rfl⟩ : ∃ g', g = g' + 1 := ⟨g - 1, by omega⟩
      have hB0 : Bh p z (⟨s.l, s.i, s.j, 0⟩ : St) t := hB
      obtain ⟨h1, h2⟩ := hB0.nx hz he hk
      have hk2 : ¬ (⟨s.l, s.i, s.j, 0⟩ : St).nx.t.k = 2 ∧ ¬ (⟨s.l, s.i, s.j, 0⟩ : St).nx.t.k = 8 := by
        unfold beg at hbeg
        generalize (⟨s.l, s.i, s.j, 0⟩ : St).nx.t.k = k at *
        constructor
        · intro hh
          rw [if_neg hk, if_neg (by show ¬ 4000 < 0 + 1; omega), if_neg (by omega), if_neg (by omega), if_neg (by omega), if_pos (.inl hh)] at hbeg
          cases hbeg
        · intro hh
          rw [if_neg hk, if_neg (by show ¬ 4000 < 0 + 1; omega), if_neg (by omega), if_neg (by omega), if_neg (by omega), if_pos (.inr hh)] at hbeg
          cases hbeg
      have hrow : row (beg v) 6 (g + 1) D2 t = match beg v t.nx t.after with
          | .error e => .error e
          | .ok (d, s2) => row (beg v) 6 g (D2.snoc d) s2 := by
        conv => lhs; unfold row
        rw [nxt_go _ (by rw [h1]; exact he), h1, if_neg hk2.1, if_neg (fun h => hk2.2 h.1)]
        cases beg v t.nx t.after <;> rfl
      rcases beg_sim (P := True) (δ := t.m) hz 64 v (by omega) (fun _ => trivial) _ _ _ _ _ h1 ⟨h2, (by show t.m + 1 = 0 + 1 + t.m; omega)⟩ hbeg with ⟨t2, hc, h3⟩ | ⟨-, i, j, hc⟩
      · have hl2 : t2.l.length < g := by
          rw [h3.1, List.length_append]
          have h4 : t.l.length = p.length + (s.l.length + z.length) := by rw [hB.2, List.length_append, List.length_append]
          show s2.l.length + z.length < g
          omega
        rcases row_all hz v hv f _ A s2 hA [] g (D2.snoc d) t2 ⟨whole_nil, by rw [h3.1]; rfl⟩ hl2 with ⟨E, q, s3, t3, g3, e1, e2, e3, e4, e5⟩ | ⟨i, j, e⟩
        · refine .inl ⟨(Dl.one d).app E, q, s3, t3, g3, ?_, e2, e3, e4, ?_⟩
          · rw [e1, Dl.snoc, Dl.app_app]
          · rw [hrow, hc]
            show row (beg v) 6 g (D2.snoc d) t2 = _
            rw [e5, Dl.snoc, Dl.app_app]
        · right
          refine ⟨i, j, ?_⟩
          rw [hrow, hc]; exact e
      · right
        refine ⟨i, j, ?_⟩
        rw [hrow, hc]

/-- the data of two texts, a line between -/
theorem all_two {a b : List UInt8} {A B : Dl} (ha : all (a.length + 1) .nil (start a) = .ok A) (hb : all (b.length + 1) .nil (start b) = .ok B) : all ((a ++ 10 :: b).length + 1) .nil (start (a ++ 10 :: b)) = .ok (A.app B) := by
  obtain ⟨E, q, s2, t2, g2, e1, e2, ⟨e3, e3'⟩, e4, e5⟩ := all_sim (z := 10 :: b) (.inr (.inl (by show LM.blk 10 = true; decide))) _ _ _ _ ha [] ((a ++ 10 :: b).length + 1) .nil (start (a ++ 10 :: b)) ⟨whole_nil, rfl⟩ (Nat.lt_succ_self _)
  have hw : LM.whole (q ++ (s2.l ++ [10])) := fun z => by
    rw [List.append_assoc, e3, whole_bare e2 z]; simp; omega
  obtain ⟨E', q', s3, t3, g3, f1, f2, ⟨f3, f3'⟩, f4, f5⟩ := all_sim (z := []) (.inl rfl) _ _ _ _ hb (q ++ (s2.l ++ [10])) g2 ((Dl.nil).app E) t2 ⟨hw, by rw [e3']; simp [start]⟩ e4
  rw [e5, f5]
  obtain ⟨g, rfl⟩ : ∃ g, g3 = g + 1 := ⟨g3 - 1, by omega⟩
  rw [all_stop (by rw [f3', List.append_nil]; exact bare_whole f3 f2), e1, f1]
  rfl
/-- one token at the beginning -/
theorem nx_first (c : UInt8) (l : List UInt8) (k : Int) (i j : Int) (h : LM.skp false (c :: l) = 0) (hs : LM.scn (c :: l) = LM.tok k 0 [] 1) : LM.nx (c :: l) i j = ⟨LM.tok k 0 [] 1, i, j, 1⟩ := by
  unfold LM.nx
  rw [h, List.drop_zero, hs]; rfl
theorem skp_0 (c : UInt8) (l : List UInt8) (h : c = 40 ∨ c = 39 ∨ c = 41) : LM.skp false (c :: l) = 0 := by
  rcases h with rfl | rfl | rfl <;> rfl
theorem scn_40 (l : List UInt8) : LM.scn (40 :: l) = LM.tok 1 0 [] 1 := rfl
theorem scn_41 (l : List UInt8) : LM.scn (41 :: l) = LM.tok 2 0 [] 1 := rfl
theorem scn_39 (l : List UInt8) : LM.scn (39 :: l) = LM.tok 4 0 [] 1 := rfl
/-- the row behind a bracket, to its end -/
theorem row_text {a : List UInt8} {A : Dl} (ha : all (a.length + 1) .nil (start a) = .ok A) (v : Nat) (hv : v < 64) (g : Nat) (t : St) (ht : t.l = a ++ [10, 41]) (hg : t.l.length < g) :
    (∃ s2, row (beg v) 6 g .nil t = .ok (⟨6, 0, [], A⟩, s2) ∧ s2.l = []) ∨ ∃ i j, row (beg v) 6 g .nil t = .error (14, i, j) := by
  rcases row_all (z := [10, 41]) (.inr (.inl (by show LM.blk 10 = true; decide))) v hv _ _ _ _ ha [] g .nil t ⟨whole_nil, ht⟩ hg with ⟨E, q, s2, t2, g2, e1, e2, ⟨e3, e3'⟩, e4, e5⟩ | h
  · left
    obtain ⟨g, rfl⟩ : ∃ g, g2 = g + 1 := ⟨g2 - 1, by omega⟩
    have hw : LM.whole (q ++ (s2.l ++ [10])) := fun z => by
      rw [List.append_assoc, e3, whole_bare e2 z]; simp; omega
    have hl : t2.l = (q ++ (s2.l ++ [10])) ++ [41] := by rw [e3']; simp
    have hb := LM.nx_blanks (q ++ (s2.l ++ [10])) [41] t2.i t2.j hw
    rw [nx_first 41 [] 2 _ _ (skp_0 _ _ (by simp)) (scn_41 _)] at hb
    have h1 : t2.nx.t = LM.tok 2 0 [] 1 := by
      show (LM.nx t2.l t2.i t2.j).t = _
      rw [hl]; exact hb.1
    have h2 : t2.nx.len = t2.l.length := by
      show (LM.nx t2.l t2.i t2.j).len = _
      rw [hl, List.length_append]; exact hb.2
    refine ⟨t2.after, ?_, ?_⟩
    · rw [e5]
      unfold row
      rw [nxt_go _ (by rw [h1]; rfl), h1, if_pos (by rfl), e1]
    · show t2.l.drop t2.nx.len = []
      rw [h2, List.drop_length]
  · exact .inr h
/-- within brackets: one list -/
theorem all_list {a : List UInt8} {A : Dl} (ha : all (a.length + 1) .nil (start a) = .ok A) (g : Nat) (hg : a.length + 4 ≤ g) :
    all g .nil (start (40 :: (a ++ [10, 41]))) = .ok (.one ⟨6, 0, [], A⟩) ∨ ∃ i j, all g .nil (start (40 :: (a ++ [10, 41]))) = .error (14, i, j) := by
  obtain ⟨g, rfl⟩ : ∃ g', g = g' + 1 + 1 := ⟨g - 2, by omega⟩
  have hx : (start (40 :: (a ++ [10, 41]))).nx = ⟨LM.tok 1 0 [] 1, 1, 1, 1⟩ := nx_first 40 _ 1 1 1 (skp_0 _ _ (by simp)) (scn_40 _)
  have hl : (start (40 :: (a ++ [10, 41]))).after.l = a ++ [10, 41] := by
    show (40 :: (a ++ [10, 41])).drop (start (40 :: (a ++ [10, 41]))).nx.len = _
    rw [hx]; rfl
  have hbeg : beg 64 (start (40 :: (a ++ [10, 41]))).nx (start (40 :: (a ++ [10, 41]))).after = row (beg 63) 6 ((start (40 :: (a ++ [10, 41]))).after.l.length + 1) .nil (start (40 :: (a ++ [10, 41]))).after := by
    conv => lhs; unfold beg
    rw [hx, if_neg (by decide), if_neg (by show ¬ 4000 < 0 + 1; omega), if_pos (by decide)]
  have hall : all (g + 1 + 1) .nil (start (40 :: (a ++ [10, 41]))) = match beg 64 (start (40 :: (a ++ [10, 41]))).nx (start (40 :: (a ++ [10, 41]))).after with
      | .error e => .error e
      | .ok (d, s2) => all (g + 1) (Dl.nil.snoc d) s2 := by
    conv => lhs; unfold all
    simp only
    rw [show (⟨(start (40 :: (a ++ [10, 41]))).l, (start (40 :: (a ++ [10, 41]))).i, (start (40 :: (a ++ [10, 41]))).j, 0⟩ : St) = start (40 :: (a ++ [10, 41])) from rfl, hx, if_neg (by decide), if_neg (by decide)]
    cases beg 64 ⟨LM.tok 1 0 [] 1, 1, 1, 1⟩ (start (40 :: (a ++ [10, 41]))).after <;> rfl
  rw [hall, hbeg]
  rcases row_text ha 63 (by omega) _ _ hl (Nat.lt_succ_self _) with ⟨s2, h, h2⟩ | ⟨i, j, h⟩
  · left
    rw [h]
    show all (g + 1) (Dl.nil.snoc ⟨6, 0, [], A⟩) s2 = _
    rw [all_stop (by rw [h2]; rfl)]
    rfl
  · right; exact ⟨i, j, by rw [h]⟩
/-- behind a quote besides: the list of quote and it -/
theorem all_quoted {a : List UInt8} {A : Dl} (ha : all (a.length + 1) .nil (start a) = .ok A) (g : Nat) (hg : a.length + 4 ≤ g) :
    all g .nil (start (39 :: 40 :: (a ++ [10, 41]))) = .ok (.one (marked 4 ⟨6, 0, [], A⟩)) ∨ ∃ i j, all g .nil (start (39 :: 40 :: (a ++ [10, 41]))) = .error (14, i, j) := by
  obtain ⟨g, rfl⟩ : ∃ g', g = g' + 1 + 1 := ⟨g - 2, by omega⟩
  obtain ⟨s0, hs0⟩ : ∃ s0, start (39 :: 40 :: (a ++ [10, 41])) = s0 := ⟨_, rfl⟩
  have hs0l : s0.l = 39 :: 40 :: (a ++ [10, 41]) := by rw [← hs0]; rfl
  have hx : s0.nx = ⟨LM.tok 4 0 [] 1, 1, 1, 1⟩ := by rw [← hs0]; exact nx_first 39 _ 4 1 1 (skp_0 _ _ (by simp)) (scn_39 _)
  have hl : s0.after.l = 40 :: (a ++ [10, 41]) := by
    show s0.l.drop s0.nx.len = _
    rw [hx, hs0l]; rfl
  have hm : s0.after.m = 1 := by rw [← hs0]; rfl
  have hy : s0.after.nx = ⟨LM.tok 1 0 [] 1, s0.after.i, s0.after.j, 1⟩ := by
    show LM.nx s0.after.l s0.after.i s0.after.j = _
    rw [hl]; exact nx_first 40 _ 1 _ _ (skp_0 _ _ (by simp)) (scn_40 _)
  have hl2 : s0.after.after.l = a ++ [10, 41] := by
    show s0.after.l.drop s0.after.nx.len = _
    rw [hy, hl]; rfl
  have hm2 : s0.after.after.m = 2 := by show s0.after.m + 1 = 2; omega
  have hin : beg 63 s0.after.nx s0.after.after = row (beg 62) 6 (s0.after.after.l.length + 1) .nil s0.after.after := by
    conv => lhs; unfold beg
    rw [hy, if_neg (by intro h; exact absurd (show (1 : Int) = 14 from h) (by decide)), if_neg (by omega), if_pos (by rfl)]
  have hbeg : beg 64 s0.nx s0.after = match row (beg 62) 6 (s0.after.after.l.length + 1) .nil s0.after.after with
      | .error e => .error e
      | .ok (d, s2) => .ok (marked 4 d, s2) := by
    conv => lhs; unfold beg
    rw [hx, if_neg (by decide), if_neg (by omega), if_neg (by decide), if_neg (by decide), if_pos (by decide)]
    unfold mark
    rw [nxt_go _ (by rw [hy]; rfl), hin]
    cases row (beg 62) 6 (s0.after.after.l.length + 1) .nil s0.after.after <;> rfl
  have hall : all (g + 1 + 1) .nil s0 = match beg 64 s0.nx s0.after with
      | .error e => .error e
      | .ok (d, s2) => all (g + 1) (Dl.nil.snoc d) s2 := by
    conv => lhs; unfold all
    simp only
    rw [show (⟨s0.l, s0.i, s0.j, 0⟩ : St) = s0 by rw [← hs0]; rfl, hx, if_neg (by decide), if_neg (by decide)]
    cases beg 64 ⟨LM.tok 4 0 [] 1, 1, 1, 1⟩ s0.after <;> rfl
  rw [hs0, hall, hbeg]
  rcases row_text ha 62 (by omega) _ _ hl2 (Nat.lt_succ_self _) with ⟨s2, h, h2⟩ | ⟨i, j, h⟩
  · left
    rw [h]
    show all (g + 1) (Dl.nil.snoc (marked 4 ⟨6, 0, [], A⟩)) s2 = _
    rw [all_stop (by rw [h2]; rfl)]
    rfl
  · right; exact ⟨i, j, by rw [h]⟩
end Go.Proofs.YtbomodendobnkaaGreat.RM
