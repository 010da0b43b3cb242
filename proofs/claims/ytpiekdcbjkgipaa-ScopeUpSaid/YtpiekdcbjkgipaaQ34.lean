/- The plain mathematics of layer 15: where a local is found, as ribs and places; programs that are the same are resolved alike. No dump is read here. -/
import Derived.Test.YtpiekdcbjkgipaaQ33
namespace Go.Proofs.Ytpiekdcbjkgipaa.SC
open Go.RowKit TM

/-- where a local stands: the innermost rib first, u of them passed already; -1: nowhere -/
def plu : Nat → List (List Int) → Int → Int
  | _, [], _ => -1
  | u, r :: rs, n => if r.contains n then 32 * (u : Int) + (r.idxOf n : Int) else plu (u + 1) rs n
/-- 1, 2, 3 and so on -/
def up1 (n : Nat) : List Int := (List.range n).map fun (i : Nat) => (i : Int) + 1
theorem up1_len (n : Nat) : (up1 n).length = n := by simp [up1]
/-- the terms, resolved -/
def rsl (R : List (List Int)) : Tl → Tl
  | .nil => .nil
  | .cons k n s ps d ks r => .cons k (if k = 2 ∨ k = 4 then plu 0 R n else n) s (if k = 8 then up1 ps.length else ps) d (rsl (if k = 8 then ps :: R else R) ks) (rsl R r)
def rs1 (R : List (List Int)) (t : Tm) : Tm := ⟨t.k, if t.k = 2 ∨ t.k = 4 then plu 0 R t.n else t.n, t.s, if t.k = 8 then up1 t.ps.length else t.ps, t.d, rsl (if t.k = 8 then t.ps :: R else R) t.ks⟩
/-- a program, resolved -/
def res (t : Tm) : Tm := rs1 [] t
theorem rsl_len (R : List (List Int)) : ∀ d : Tl, (rsl R d).len = d.len
  | .nil => rfl
  | .cons k n s ps d ks r => by rw [rsl, Tl.len, Tl.len, rsl_len R r]
theorem rsl_sz : ∀ (R : List (List Int)) (d : Tl), sz (rsl R d) = sz d
  | _, .nil => rfl
  | R, .cons k n s ps d ks r => by rw [rsl, sz, sz, rsl_sz _ ks, rsl_sz R r]
theorem rsl_at (R : List (List Int)) : ∀ {d : Tl} {i : Nat} {x : Tm}, d.at_ i = some x → (rsl R d).at_ i = some (rs1 R x)
  | .nil, i, x, h => by simp [Tl.at_] at h
  | .cons k n s ps d ks r, 0, x, h => by
    simp only [Tl.at_, Option.some.injEq] at h
    subst h; rfl
  | .cons k n s ps d ks r, i + 1, x, h => by
    have h' : r.at_ i = some x := h
    exact rsl_at R (d := r) (i := i) h'
theorem rsl_snoc (R : List (List Int)) : ∀ (d : Tl) (x : Tm), rsl R (d.snoc x) = (rsl R d).snoc (rs1 R x)
  | .nil, x => rfl
  | .cons k n s ps d ks r, x => by
    show Tl.cons _ _ _ _ _ _ (rsl R (r.snoc x)) = _
    rw [rsl_snoc R r x]; rfl
theorem idx_map {L : List Int} {g : Int → Int} (hg : Inj L g) {x : Int} (hx : x ∈ L) : ∀ (l : List Int), (∀ y ∈ l, y ∈ L) → (l.map g).contains (g x) = l.contains x ∧ (l.map g).idxOf (g x) = l.idxOf x
  | [], _ => by simp
  | a :: r, hl => by
    obtain ⟨h1, h2⟩ := idx_map hg hx r (fun y hy => hl y (by simp [hy]))
    rw [List.map_cons, List.contains_cons, List.contains_cons, h1, List.idxOf_cons, List.idxOf_cons, h2]
    by_cases hax : a = x
    · subst hax; simp
    · have e1 : (g a == g x) = false := by rw [beq_eq_false_iff_ne]; exact fun e => hax (hg a (hl a (by simp)) x hx e)
      have e2 : (a == x) = false := by rw [beq_eq_false_iff_ne]; exact hax
      have e3 : (g x == g a) = false := by rw [beq_eq_false_iff_ne] at e1 ⊢; exact fun e => e1 e.symm
      have e4 : (x == a) = false := by rw [beq_eq_false_iff_ne] at e2 ⊢; exact fun e => e2 e.symm
      simp [e1, e2, e3, e4]
theorem plu_map {L : List Int} {g : Int → Int} (hg : Inj L g) {x : Int} (hx : x ∈ L) : ∀ (u : Nat) (R : List (List Int)), (∀ r ∈ R, ∀ y ∈ r, y ∈ L) → plu u (R.map (·.map g)) (g x) = plu u R x
  | _, [], _ => rfl
  | u, r :: R, h => by
    obtain ⟨h1, h2⟩ := idx_map hg hx r (h r (by simp))
    rw [List.map_cons, plu, plu, h1, h2, plu_map hg hx (u + 1) R (fun r' hr => h r' (by simp [hr]))]
/-- a kind of which Params may be has them; all others have none -/
theorem fit_ps {bd : List Int} {t : Tm} (h : fit bd t = true) (hk : t.k ≠ 8) : t.ps = [] := by
  unfold fit at h
  by_cases h1 : t.k = 1
  · simp [h1] at h; exact h.1.1.2
  by_cases h2 : t.k = 2
  · simp [h2] at h; exact h.1.1.2
  by_cases h3 : t.k = 3
  · simp [h3] at h; exact h.1.1.1.2
  by_cases h4 : t.k = 4
  · simp [h4] at h; exact h.1.1.2
  by_cases h5 : t.k = 5 ∨ t.k = 6
  · rw [if_neg h1, if_neg h2, if_neg h3, if_neg h4, if_pos h5] at h; simp at h; exact h.1.1.1.2
  by_cases h7 : t.k = 7
  · simp [h7] at h; exact h.1.1.2
  by_cases h9 : t.k = 9
  · simp [h9] at h; exact h.1.1.2
  by_cases h10 : t.k = 10
  · simp [h10] at h; exact h.1.1.2
  rw [if_neg h1, if_neg h2, if_neg h3, if_neg h4, if_neg h5, if_neg h7, if_neg hk, if_neg h9, if_neg h10] at h
  simp at h
/-- terms whose locals are called otherwise, each by one of its own, are resolved alike -/
theorem rsl_ren {L : List Int} {g : Int → Int} (hg : Inj L g) : ∀ {bd : List Int} {d : Tl} {R : List (List Int)}, rtl bd d = true → (∀ a ∈ bd, a ∈ L) → (∀ a ∈ prs d, a ∈ L) → (∀ r ∈ R, ∀ y ∈ r, y ∈ L) → rsl (R.map (·.map g)) (ren g d) = rsl R d
  | _, .nil, _, _, _, _, _ => rfl
  | bd, .cons k n s ps d ks r, R, hr, hb, hp, hR => by
    simp only [rtl, Bool.and_eq_true] at hr
    simp only [prs, List.mem_append] at hp
    have hb2 : ∀ a ∈ bd ++ ps, a ∈ L := fun a ha => by
      rcases List.mem_append.1 ha with ha | ha
      · exact hb a ha
      · exact hp a (.inl ha)
    have e1 : (if k = 2 ∨ k = 4 then plu 0 (R.map (·.map g)) (if k = 2 ∨ k = 4 then g n else n) else (if k = 2 ∨ k = 4 then g n else n)) = (if k = 2 ∨ k = 4 then plu 0 R n else n) := by
      by_cases hk : k = 2 ∨ k = 4
      · rw [if_pos hk, if_pos hk, if_pos hk]
        have := fit_local (t := ⟨k, n, s, ps, d, ks⟩) hr.1.1 hk
        exact plu_map hg (hb n (by simpa using this)) 0 R hR
      · rw [if_neg hk, if_neg hk, if_neg hk]
    have e2 : (if k = 8 then up1 (ps.map g).length else ps.map g) = (if k = 8 then up1 ps.length else ps) := by
      by_cases hk : k = 8
      · rw [if_pos hk, if_pos hk, List.length_map]
      · rw [if_neg hk, if_neg hk, show ps = [] from fit_ps (t := ⟨k, n, s, ps, d, ks⟩) hr.1.1 hk]; rfl
    have e3 : rsl (if k = 8 then ps.map g :: R.map (·.map g) else R.map (·.map g)) (ren g ks) = rsl (if k = 8 then ps :: R else R) ks := by
      by_cases hk : k = 8
      · rw [if_pos hk, if_pos hk]
        exact rsl_ren hg (R := ps :: R) hr.1.2 hb2 (fun a ha => hp a (.inr (.inl ha))) (fun r' hr' y hy => by
          rcases List.mem_cons.1 hr' with e | e
          · subst e; exact hp y (.inl hy)
          · exact hR r' e y hy)
      · rw [if_neg hk, if_neg hk]
        exact rsl_ren hg (R := R) hr.1.2 hb2 (fun a ha => hp a (.inr (.inl ha))) hR
    rw [ren, rsl, rsl, e1, e2, e3, rsl_ren hg hr.2 hb (fun a ha => hp a (.inr (.inr ha))) hR]
/-- programs that are the same are resolved alike -/
theorem res_alpha {t : Tm} (h : okt t = true) : res (alpha t) = res t := by
  have hq := h
  unfold okt at h
  simp only [Bool.and_eq_true, decide_eq_true_eq] at h
  have hd := h.2
  rw [ok1, Bool.and_eq_true] at hd
  obtain ⟨hf, hr⟩ := hd
  rw [List.nil_append] at hr
  have hI := pl_inj (L := t.ps ++ prs t.ks)
  rw [alpha, nm1_ren]
  unfold res rs1 ren1
  simp only
  have e1 : (if t.k = 2 ∨ t.k = 4 then plu 0 [] (if t.k = 2 ∨ t.k = 4 then pl (t.ps ++ prs t.ks) t.n else t.n) else (if t.k = 2 ∨ t.k = 4 then pl (t.ps ++ prs t.ks) t.n else t.n)) = (if t.k = 2 ∨ t.k = 4 then plu 0 [] t.n else t.n) := by
    by_cases hk : t.k = 2 ∨ t.k = 4
    · simp only [if_pos hk]; rfl
    · simp only [if_neg hk]
  have hL : ∀ a ∈ t.ps, a ∈ t.ps ++ prs t.ks := fun a ha => List.mem_append.2 (.inl ha)
  have e2 : (if t.k = 8 then up1 (t.ps.map (pl (t.ps ++ prs t.ks))).length else t.ps.map (pl (t.ps ++ prs t.ks))) = (if t.k = 8 then up1 t.ps.length else t.ps) := by
    by_cases hk : t.k = 8
    · rw [if_pos hk, if_pos hk, List.length_map]
    · rw [if_neg hk, if_neg hk, fit_ps hf hk]; rfl
  have e3 : rsl (if t.k = 8 then [t.ps.map (pl (t.ps ++ prs t.ks))] else []) (ren (pl (t.ps ++ prs t.ks)) t.ks) = rsl (if t.k = 8 then [t.ps] else []) t.ks := by
    by_cases hk : t.k = 8
    · rw [if_pos hk, if_pos hk]
      exact rsl_ren hI (R := [t.ps]) hr hL (fun a ha => List.mem_append.2 (.inr ha)) (fun r hr y hy => by simp at hr; subst hr; exact hL y hy)
    · rw [if_neg hk, if_neg hk]
      exact rsl_ren hI (R := []) hr hL (fun a ha => List.mem_append.2 (.inr ha)) (fun r hr => by simp at hr)
  rw [e1, e2, e3]
/-! ### a number into a rising list, once -/
def pti : List Int → Int → List Int
  | [], n => [n]
  | a :: r, n => if a < n then a :: pti r n else if a = n then a :: r else n :: a :: r
theorem pti_len (n : Int) : ∀ l : List Int, (pti l n).length ≤ l.length + 1
  | [] => by simp [pti]
  | a :: r => by
    have := pti_len n r
    unfold pti
    split
    · simp; omega
    · split <;> simp
theorem pti_mem (n x : Int) : ∀ l : List Int, x ∈ pti l n ↔ x = n ∨ x ∈ l
  | [] => by simp [pti]
  | a :: r => by
    unfold pti
    split
    · rw [List.mem_cons, pti_mem n x r, List.mem_cons]; constructor <;> (rintro (h | h | h) <;> simp [h])
    · split
      · rename_i h; subst h; simp
      · simp
def Up (l : List Int) : Prop := l.Pairwise (· < ·)
theorem pti_up (n : Int) : ∀ {l : List Int}, Up l → Up (pti l n)
  | [], _ => by simp [pti, Up]
  | a :: r, h => by
    unfold Up at h ⊢
    rw [List.pairwise_cons] at h
    unfold pti
    split
    · rename_i ha
      rw [List.pairwise_cons]
      exact ⟨fun x hx => by rcases (pti_mem n x r).1 hx with e | e; · omega
                            · exact h.1 x e, pti_up n h.2⟩
    · split
      · rw [List.pairwise_cons]; exact h
      · rename_i h1 h2
        rw [List.pairwise_cons, List.pairwise_cons]
        refine ⟨fun x hx => ?_, h⟩
        rcases List.mem_cons.1 hx with e | e
        · omega
        · have := h.1 x e; omega
/-- two rising lists of the same numbers are one -/
theorem up_ext : ∀ {a b : List Int}, Up a → Up b → (∀ x, x ∈ a ↔ x ∈ b) → a = b
  | [], [], _, _, _ => rfl
  | [], y :: b, _, _, h => by have := (h y).2 (by simp); simp at this
  | x :: a, [], _, _, h => by have := (h x).1 (by simp); simp at this
  | x :: a, y :: b, ha, hb, h => by
    unfold Up at ha hb
    rw [List.pairwise_cons] at ha hb
    have exy : x = y := by
      rcases List.mem_cons.1 ((h x).1 (by simp)) with e | e
      · exact e
      · rcases List.mem_cons.1 ((h y).2 (by simp)) with e2 | e2
        · exact e2.symm
        · have := ha.1 y e2; have := hb.1 x e; omega
    subst exy
    rw [up_ext ha.2 hb.2 (fun z => ?_)]
    constructor
    · intro hz
      rcases List.mem_cons.1 ((h z).1 (by simp [hz])) with e | e
      · have := ha.1 z hz; omega
      · exact e
    · intro hz
      rcases List.mem_cons.1 ((h z).2 (by simp [hz])) with e | e
      · have := hb.1 z hz; omega
      · exact e
/-- the locals that are set, into a rising list -/
def sts : Tl → List Int → List Int
  | .nil, l => l
  | .cons k n _ _ _ ks r, l => sts r (sts ks (if k = 4 then pti l n else l))
def asg (t : Tm) : List Int := let a := alpha t; sts a.ks (if a.k = 4 then pti [] a.n else [])
/-- the locals that are set, in the order in which they stand -/
def stl : Tl → List Int
  | .nil => []
  | .cons k n _ _ _ ks r => (if k = 4 then [n] else []) ++ (stl ks ++ stl r)
theorem sts_mem (x : Int) : ∀ (d : Tl) (l : List Int), x ∈ sts d l ↔ x ∈ stl d ∨ x ∈ l
  | .nil, l => by simp [sts, stl]
  | .cons k n s ps d ks r, l => by
    rw [sts, stl, sts_mem x r, sts_mem x ks]
    by_cases hk : k = 4
    · rw [if_pos hk, if_pos hk, pti_mem]
      simp only [List.mem_append, List.mem_cons, List.not_mem_nil, or_false]
      constructor
      · rintro (h | h | h | h) <;> simp [h]
      · rintro ((h | h | h) | h) <;> simp [h]
    · rw [if_neg hk, if_neg hk]
      simp only [List.mem_append, List.nil_append]
      constructor
      · rintro (h | h | h) <;> simp [h]
      · rintro ((h | h) | h) <;> simp [h]
theorem sts_up : ∀ (d : Tl) {l : List Int}, Up l → Up (sts d l)
  | .nil, _, h => h
  | .cons k n s ps d ks r, l, h => by
    rw [sts]
    refine sts_up r (sts_up ks ?_)
    by_cases hk : k = 4
    · rw [if_pos hk]; exact pti_up n h
    · rw [if_neg hk]; exact h
theorem sts_len : ∀ (d : Tl) (l : List Int), (sts d l).length ≤ l.length + sz d
  | .nil, l => by simp [sts, sz]
  | .cons k n s ps d ks r, l => by
    have h1 := sts_len r (sts ks (if k = 4 then pti l n else l))
    have h2 := sts_len ks (if k = 4 then pti l n else l)
    have h3 : (if k = 4 then pti l n else l).length ≤ l.length + 1 := by
      split
      · exact pti_len n l
      · omega
    rw [sts, sz]; omega
theorem plu_none (u : Nat) (n : Int) : ∀ (R : List (List Int)) , (∀ r ∈ R, ¬ n ∈ r) → plu u R n = -1
  | [], _ => rfl
  | r :: R, h => by
    rw [plu, if_neg (by simpa using h r (by simp)), plu_none (u + 1) n R (fun r' hr => h r' (by simp [hr]))]
theorem plu_bd (n : Int) : ∀ (u : Nat) (R : List (List Int)), (∀ r ∈ R, r.length ≤ 32) → plu u R n = -1 ∨ (0 ≤ plu u R n ∧ plu u R n < 32 * ((u : Int) + R.length))
  | _, [], _ => .inl rfl
  | u, r :: R, h => by
    rw [plu]
    by_cases hr : r.contains n = true
    · rw [if_pos hr]
      have h1 := List.idxOf_lt_length_iff.2 (show n ∈ r by simpa using hr)
      have h2 := h r (by simp)
      refine .inr ⟨by omega, ?_⟩
      simp only [List.length_cons]; omega
    · rw [if_neg hr]
      rcases plu_bd n (u + 1) R (fun r' hr' => h r' (by simp [hr'])) with e | ⟨e1, e2⟩
      · exact .inl e
      · refine .inr ⟨e1, ?_⟩
        simp only [List.length_cons]; omega
/-- a local of just the rib w, counted from the innermost one -/
theorem plu_at (n : Int) : ∀ (u : Nat) (R : List (List Int)) (w : Nat) (r : List Int), R[w]? = some r → n ∈ r → (∀ i, i < w → ∀ r', R[i]? = some r' → ¬ n ∈ r') → plu u R n = 32 * ((u : Int) + w) + (r.idxOf n : Int)
  | _, [], _, _, h, _, _ => by simp at h
  | u, a :: R, 0, r, h, hn, _ => by
    simp at h; subst h
    rw [plu, if_pos (by simpa using hn)]; simp
  | u, a :: R, w + 1, r, h, hn, hb => by
    rw [plu, if_neg (by simpa using hb 0 (by omega) a (by simp)), plu_at n (u + 1) R w r (by simpa using h) hn (fun i hi r' hr => hb (i + 1) (by omega) r' (by simpa using hr))]
    omega
end Go.Proofs.Ytpiekdcbjkgipaa.SC
