/- Package term: term, whatever the kind: a term with the numbers that its locals get. -/
import Derived.Test.YtpiekdcbjkgipaaGreatQ21
import Derived.Test.YtpiekdcbjkgipaaGreatQ22
import Derived.Deep.RegionHeld3
import Derived.Deep.RegionWith
import Derived.Test.YtpiekdcbjkgipaaGreatQ4
namespace Go.Proofs.YtpiekdcbjkgipaaGreat
open Go.ChangeShapes Go.WideShapes Go.ChangeAt Go.RowKit Go.Deep
open TM (Tl Tm)

theorem nt_step (k n : Int) (s : List UInt8) (ps : List Int) (d : RM.Dm) (ks : Tl) (hR : ∀ i x, ks.at_ i = some x → NtOk x) : NtOk ⟨k, n, s, ps, d, ks⟩ := by
  by_cases h4 : k = 4
  · subst h4
    exact nt_four n s ps d ks hR
  by_cases h2 : k = 2
  · subst h2
    exact nt_two n s ps d ks hR
  exact nt_other k n s ps d ks hR h4 h2
theorem term_any (t : Tm) : NtOk t := Tl.all_one NtOk nt_step t
end Go.Proofs.YtpiekdcbjkgipaaGreat

/- The plain mathematics of the law TermSame: a program whose locals get other numbers, each one of its own, is the same program. -/
namespace Go.Proofs.YtpiekdcbjkgipaaGreat.TM
open Go.RowKit RM

/-- the terms, with what their locals are called by g -/
def ren (g : Int → Int) : Tl → Tl
  | .nil => .nil
  | .cons k n s ps d ks r => .cons k (if k = 2 ∨ k = 4 then g n else n) s (ps.map g) d (ren g ks) (ren g r)
def ren1 (g : Int → Int) (t : Tm) : Tm := ⟨t.k, if t.k = 2 ∨ t.k = 4 then g t.n else t.n, t.s, t.ps.map g, t.d, ren g t.ks⟩
theorem nmt_ren (l : List Int) : ∀ d : Tl, nmt l d = ren (pl l) d
  | .nil => rfl
  | .cons k n s ps d ks r => by rw [nmt, ren, nmt_ren l ks, nmt_ren l r]
theorem nm1_ren (l : List Int) (t : Tm) : nm1 l t = ren1 (pl l) t := by rw [nm1, ren1, nmt_ren]
theorem ren_len (g : Int → Int) : ∀ d : Tl, (ren g d).len = d.len
  | .nil => rfl
  | .cons k n s ps d ks r => by rw [ren, Tl.len, Tl.len, ren_len g r]
theorem ren_sz (g : Int → Int) : ∀ d : Tl, sz (ren g d) = sz d
  | .nil => rfl
  | .cons k n s ps d ks r => by rw [ren, sz, sz, ren_sz g ks, ren_sz g r]
theorem ren_hi (g : Int → Int) : ∀ d : Tl, hi (ren g d) = hi d
  | .nil => rfl
  | .cons k n s ps d ks r => by rw [ren, hi, hi, ren_hi g ks, ren_hi g r]
theorem ren_prs (g : Int → Int) : ∀ d : Tl, prs (ren g d) = (prs d).map g
  | .nil => rfl
  | .cons k n s ps d ks r => by rw [ren, prs, prs, ren_prs g ks, ren_prs g r]; simp
theorem ren_at (g : Int → Int) : ∀ {d : Tl} {i : Nat} {x : Tm}, d.at_ i = some x → (ren g d).at_ i = some (ren1 g x)
  | .nil, i, x, h => by simp [Tl.at_] at h
  | .cons k n s ps d ks r, 0, x, h => by
    simp only [Tl.at_, Option.some.injEq] at h
    subst h; rfl
  | .cons k n s ps d ks r, i + 1, x, h => by
    have h' : r.at_ i = some x := h
    exact ren_at g (d := r) (i := i) h'
/-- g tells the numbers of L apart -/
def Inj (L : List Int) (g : Int → Int) : Prop := ∀ a ∈ L, ∀ b ∈ L, g a = g b → a = b
theorem pl_map {L : List Int} {g : Int → Int} (hg : Inj L g) {x : Int} (hx : x ∈ L) : pl (L.map g) (g x) = pl L x := by
  have key : ∀ (l : List Int), (∀ y ∈ l, y ∈ L) → x ∈ l → (l.map g).idxOf (g x) = l.idxOf x := by
    intro l
    induction l with
    | nil => intro _ h; simp at h
    | cons a r ih =>
      intro hl hxl
      rw [List.map_cons, List.idxOf_cons, List.idxOf_cons]
      by_cases hax : a = x
      · subst hax; simp
      · have h1 : (g a == g x) = false := by rw [beq_eq_false_iff_ne]; exact fun e => hax (hg a (hl a (by simp)) x hx e)
        have h2 : (a == x) = false := by rw [beq_eq_false_iff_ne]; exact hax
        rw [h1, h2]
        simp only [cond_false]
        rw [ih (fun y hy => hl y (by simp [hy])) (by simpa [Ne.symm hax] using hxl)]
  have h1 : L.contains x = true := by simpa using hx
  have h2 : (L.map g).contains (g x) = true := by simp; exact ⟨x, hx, rfl⟩
  rw [pl, pl, if_pos h1, if_pos h2, key L (fun _ h => h) hx]
/-- where only what L has is called, names count by L alone -/
theorem ren_congr {L : List Int} {g h : Int → Int} (hgh : ∀ a ∈ L, g a = h a) : ∀ {bd : List Int} {d : Tl}, rtl bd d = true → (∀ a ∈ bd, a ∈ L) → (∀ a ∈ prs d, a ∈ L) → ren g d = ren h d
  | _, .nil, _, _, _ => rfl
  | bd, .cons k n s ps d ks r, hr, hb, hp => by
    simp only [rtl, Bool.and_eq_true] at hr
    simp only [prs, List.mem_append] at hp
    have e1 : (if k = 2 ∨ k = 4 then g n else n) = (if k = 2 ∨ k = 4 then h n else n) := by
      by_cases hk : k = 2 ∨ k = 4
      · rw [if_pos hk, if_pos hk]
        have := fit_local (t := ⟨k, n, s, ps, d, ks⟩) hr.1.1 hk
        exact hgh n (hb n (by simpa using this))
      · rw [if_neg hk, if_neg hk]
    have e2 : ps.map g = ps.map h := List.map_congr_left (fun a ha => hgh a (hp a (.inl ha)))
    have hb2 : ∀ a ∈ bd ++ ps, a ∈ L := fun a ha => by
      rcases List.mem_append.1 ha with ha | ha
      · exact hb a ha
      · exact hp a (.inl ha)
    rw [ren, ren, e1, e2, ren_congr hgh hr.1.2 hb2 (fun a ha => hp a (.inr (.inl ha))), ren_congr hgh hr.2 hb (fun a ha => hp a (.inr (.inr ha)))]
theorem ren_ren (g h : Int → Int) : ∀ d : Tl, ren g (ren h d) = ren (fun a => g (h a)) d
  | .nil => rfl
  | .cons k n s ps d ks r => by
    rw [ren, ren, ren, ren_ren g h ks, ren_ren g h r, List.map_map]
    by_cases hk : k = 2 ∨ k = 4
    · rw [if_pos hk, if_pos hk, if_pos hk]; rfl
    · rw [if_neg hk, if_neg hk, if_neg hk]; rfl
theorem fit_ren {g : Int → Int} {bd : List Int} {t : Tm} (h : fit bd t = true) : fit (bd.map g) (ren1 g t) = true := by
  have hc : bd.contains t.n = true → (bd.map g).contains (g t.n) = true := fun h => by
    simp at h ⊢; exact ⟨_, h, rfl⟩
  have hl : (ren g t.ks).len = t.ks.len := ren_len g t.ks
  have hp : decide ((t.ps.map g) = []) = decide (t.ps = []) := by cases t.ps <;> simp
  unfold fit at h ⊢
  unfold ren1
  simp only [hl, hp, List.length_map]
  by_cases h2 : t.k = 2
  · simp only [h2] at h ⊢
    simp only [Int.reduceEq, if_false, if_true, Bool.and_eq_true, true_or] at h ⊢
    exact ⟨⟨h.1.1, hc h.1.2⟩, h.2⟩
  · by_cases h4 : t.k = 4
    · simp only [h4] at h ⊢
      simp only [Int.reduceEq, if_false, if_true, Bool.and_eq_true, or_true] at h ⊢
      exact ⟨⟨h.1.1, hc h.1.2⟩, h.2⟩
    · rw [if_neg (by rintro (e | e); exact h2 e; exact h4 e : ¬ (t.k = 2 ∨ t.k = 4))]
      rw [if_neg h2, if_neg h4] at h ⊢
      exact h
theorem rtl_ren {g : Int → Int} : ∀ {bd : List Int} {d : Tl}, rtl bd d = true → rtl (bd.map g) (ren g d) = true
  | _, .nil, _ => rfl
  | bd, .cons k n s ps d ks r, h => by
    simp only [rtl, Bool.and_eq_true] at h
    have h1 := fit_ren (g := g) h.1.1
    have h2 := rtl_ren (g := g) h.1.2
    have h3 := rtl_ren (g := g) h.2
    rw [List.map_append] at h2
    rw [ren, rtl, Bool.and_eq_true, Bool.and_eq_true]
    exact ⟨⟨h1, h2⟩, h3⟩
theorem frs_iff : ∀ (l met : List Int), frs met l = true ↔ (∀ p ∈ l, 1 ≤ p) ∧ l.Nodup ∧ (∀ p ∈ l, ¬ p ∈ met)
  | [], met => by simp [frs]
  | p :: r, met => by
    rw [frs, Bool.and_eq_true, Bool.and_eq_true, frs_iff r (met ++ [p])]
    simp only [decide_eq_true_eq, Bool.not_eq_true', List.mem_cons, List.nodup_cons, forall_eq_or_imp, List.mem_append, List.not_mem_nil, or_false, not_or]
    have hm : met.contains p = false ↔ ¬ p ∈ met := by
      rw [← Bool.not_eq_true]; simp
    rw [hm]
    constructor
    · rintro ⟨⟨h1, h2⟩, h3, h4, h5⟩
      exact ⟨⟨h1, h3⟩, ⟨fun hp => (h5 p hp).2 rfl, h4⟩, h2, fun q hq => (h5 q hq).1⟩
    · rintro ⟨⟨h1, h3⟩, ⟨h6, h4⟩, h2, h5⟩
      exact ⟨⟨h1, h2⟩, h3, h4, fun q hq => ⟨h5 q hq, fun e => h6 (e ▸ hq)⟩⟩
theorem frs_map {g : Int → Int} {l : List Int} (h : frs [] l = true) (hg : Inj l g) (h1 : ∀ p ∈ l, 1 ≤ g p) : frs [] (l.map g) = true := by
  rw [frs_iff] at h ⊢
  obtain ⟨_, hn, _⟩ := h
  refine ⟨fun p hp => ?_, ?_, by simp⟩
  · obtain ⟨a, ha, rfl⟩ := List.mem_map.1 hp
    exact h1 a ha
  · unfold List.Nodup at hn ⊢
    rw [List.pairwise_map]
    exact (List.pairwise_iff_forall_sublist.2 fun {a b} hab => by
      have := List.pairwise_iff_forall_sublist.1 hn hab
      have ha : a ∈ l := hab.subset (by simp)
      have hb : b ∈ l := hab.subset (by simp)
      exact fun e => this (hg a ha b hb e))
/-- a right program, its locals called by g, is right, and the same -/
theorem ren_same {t : Tm} {g : Int → Int} (h : okt t = true) (hg : Inj (t.ps ++ prs t.ks) g) (h1 : ∀ p ∈ t.ps ++ prs t.ks, 1 ≤ g p) : okt (ren1 g t) = true ∧ alpha (ren1 g t) = alpha t := by
  have hprs : (ren1 g t).ps ++ prs (ren1 g t).ks = (t.ps ++ prs t.ks).map g := by
    show t.ps.map g ++ prs (ren g t.ks) = _
    rw [ren_prs, List.map_append]
  unfold okt at h ⊢
  simp only [Bool.and_eq_true, decide_eq_true_eq] at h ⊢
  obtain ⟨⟨⟨ha, hb⟩, hc⟩, hd⟩ := h
  have hd2 := hd
  rw [ok1, Bool.and_eq_true] at hd2
  obtain ⟨hf, hr⟩ := hd2
  refine ⟨⟨⟨⟨?_, ?_⟩, ?_⟩, ?_⟩, ?_⟩
  · show sz (ren g t.ks) + 1 ≤ 4000
    rw [ren_sz]; exact ha
  · show hi (ren g t.ks) + 1 ≤ 200
    rw [ren_hi]; exact hb
  · rw [hprs]; exact frs_map hc hg h1
  · rw [ok1, Bool.and_eq_true]
    refine ⟨fit_ren (g := g) (bd := []) hf, ?_⟩
    have := rtl_ren (g := g) hr
    rw [List.map_append] at this
    exact this
  · rw [alpha, alpha, hprs, nm1_ren, nm1_ren]
    have hcc : ∀ a ∈ t.ps ++ prs t.ks, pl ((t.ps ++ prs t.ks).map g) (g a) = pl (t.ps ++ prs t.ks) a := fun a ha => pl_map hg ha
    have hL : ∀ a ∈ t.ps, a ∈ t.ps ++ prs t.ks := fun a ha => List.mem_append.2 (.inl ha)
    have e1 : (if t.k = 2 ∨ t.k = 4 then pl ((t.ps ++ prs t.ks).map g) (if t.k = 2 ∨ t.k = 4 then g t.n else t.n) else (if t.k = 2 ∨ t.k = 4 then g t.n else t.n)) = (if t.k = 2 ∨ t.k = 4 then pl (t.ps ++ prs t.ks) t.n else t.n) := by
      by_cases hk : t.k = 2 ∨ t.k = 4
      · have := fit_local hf hk
        simp at this
      · rw [if_neg hk, if_neg hk, if_neg hk]
    have e2 : (t.ps.map g).map (pl ((t.ps ++ prs t.ks).map g)) = t.ps.map (pl (t.ps ++ prs t.ks)) := by
      rw [List.map_map]
      exact List.map_congr_left (fun a ha => hcc a (hL a ha))
    have e3 : ren (pl ((t.ps ++ prs t.ks).map g)) (ren g t.ks) = ren (pl (t.ps ++ prs t.ks)) t.ks := by
      rw [ren_ren]
      exact ren_congr hcc hr (fun a ha => by rw [List.nil_append] at ha; exact hL a ha) (fun a ha => List.mem_append.2 (.inr ha))
    unfold ren1
    simp only
    rw [e1, e2, e3]
theorem pl_inj {L : List Int} : Inj L (pl L) := by
  intro a ha b hb e
  have h1 : L.contains a = true := by simpa using ha
  have h2 : L.contains b = true := by simpa using hb
  rw [pl, pl, if_pos h1, if_pos h2] at e
  have e' : L.idxOf a = L.idxOf b := by omega
  have ha' := List.idxOf_lt_length_iff.2 ha
  have hb' := List.idxOf_lt_length_iff.2 hb
  have g1 := List.getElem_idxOf ha'
  have g2 := List.getElem_idxOf hb'
  rw [← g1, ← g2]
  simp only [e']
theorem pl_pos {L : List Int} {a : Int} (ha : a ∈ L) : 1 ≤ pl L a := by
  have h1 : L.contains a = true := by simpa using ha
  rw [pl, if_pos h1]; omega
/-- Alpha of Alpha is Alpha -/
theorem alpha_alpha {t : Tm} (h : okt t = true) : okt (alpha t) = true ∧ alpha (alpha t) = alpha t := by
  have e : alpha t = ren1 (pl (t.ps ++ prs t.ks)) t := by rw [alpha, nm1_ren]
  have := ren_same h (pl_inj (L := t.ps ++ prs t.ks)) (fun p hp => pl_pos hp)
  rw [← e] at this
  exact this
/-- the locals counted down from by -/
def sh (by_ : Int) (t : Tm) : Tm := ren1 (fun a => by_ - a) t
theorem sh_same {t : Tm} {m : Int} (h : okt t = true) (hm : ∀ p ∈ t.ps ++ prs t.ks, p ≤ m) : okt (sh (m + 1) t) = true ∧ alpha (sh (m + 1) t) = alpha t :=
  ren_same h (fun a _ b _ e => by have e' : m + 1 - a = m + 1 - b := e; omega) (fun p hp => by have := hm p hp; show 1 ≤ m + 1 - p; omega)
end Go.Proofs.YtpiekdcbjkgipaaGreat.TM

/- The plain mathematics of layer 15: where a local is found, as ribs and places; programs that are the same are resolved alike. No dump is read here. -/
namespace Go.Proofs.YtpiekdcbjkgipaaGreat.SC
open Go.RowKit TM

/-- where a local stands: the innermost rib first, u of them passed already; -1: nowhere -/
def plu : Nat → List (List Int) → Int → Int
  | _, [], _ => -1
  | u, r :: rs, n => if r.contains n then 32 * (u : Int) + (r.idxOf n : Int) else plu (u + 1) rs n
/-- 1, 2, 3 and so on -/
def up1 (n : Nat) : List Int := (List.range n).map fun (i : Nat) => (i : Int) + 1
theorem up1_len (n : Nat) : (up1 n).length = n := by simp [up1]
/-- the terms, resolved -/
def rsl (R : List (List Int)) : Tl → Tl
  | .nil => .nil
  | .cons k n s ps d ks r => .cons k (if k = 2 ∨ k = 4 then plu 0 R n else n) s (if k = 8 then up1 ps.length else ps) d (rsl (if k = 8 then ps :: R else R) ks) (rsl R r)
def rs1 (R : List (List Int)) (t : Tm) : Tm := ⟨t.k, if t.k = 2 ∨ t.k = 4 then plu 0 R t.n else t.n, t.s, if t.k = 8 then up1 t.ps.length else t.ps, t.d, rsl (if t.k = 8 then t.ps :: R else R) t.ks⟩
/-- a program, resolved -/
def res (t : Tm) : Tm := rs1 [] t
theorem rsl_len (R : List (List Int)) : ∀ d : Tl, (rsl R d).len = d.len
  | .nil => rfl
  | .cons k n s ps d ks r => by rw [rsl, Tl.len, Tl.len, rsl_len R r]
theorem rsl_sz : ∀ (R : List (List Int)) (d : Tl), sz (rsl R d) = sz d
  | _, .nil => rfl
  | R, .cons k n s ps d ks r => by rw [rsl, sz, sz, rsl_sz _ ks, rsl_sz R r]
theorem rsl_at (R : List (List Int)) : ∀ {d : Tl} {i : Nat} {x : Tm}, d.at_ i = some x → (rsl R d).at_ i = some (rs1 R x)
  | .nil, i, x, h => by simp [Tl.at_] at h
  | .cons k n s ps d ks r, 0, x, h => by
    simp only [Tl.at_, Option.some.injEq] at h
    subst h; rfl
  | .cons k n s ps d ks r, i + 1, x, h => by
    have h' : r.at_ i = some x := h
    exact rsl_at R (d := r) (i := i) h'
theorem rsl_snoc (R : List (List Int)) : ∀ (d : Tl) (x : Tm), rsl R (d.snoc x) = (rsl R d).snoc (rs1 R x)
  | .nil, x => rfl
  | .cons k n s ps d ks r, x => by
    show Tl.cons _ _ _ _ _ _ (rsl R (r.snoc x)) = _
    rw [rsl_snoc R r x]; rfl
theorem idx_map {L : List Int} {g : Int → Int} (hg : Inj L g) {x : Int} (hx : x ∈ L) : ∀ (l : List Int), (∀ y ∈ l, y ∈ L) → (l.map g).contains (g x) = l.contains x ∧ (l.map g).idxOf (g x) = l.idxOf x
  | [], _ => by simp
  | a :: r, hl => by
    obtain ⟨h1, h2⟩ := idx_map hg hx r (fun y hy => hl y (by simp [hy]))
    rw [List.map_cons, List.contains_cons, List.contains_cons, h1, List.idxOf_cons, List.idxOf_cons, h2]
    by_cases hax : a = x
    · subst hax; simp
    · have e1 : (g a == g x) = false := by rw [beq_eq_false_iff_ne]; exact fun e => hax (hg a (hl a (by simp)) x hx e)
      have e2 : (a == x) = false := by rw [beq_eq_false_iff_ne]; exact hax
      have e3 : (g x == g a) = false := by rw [beq_eq_false_iff_ne] at e1 ⊢; exact fun e => e1 e.symm
      have e4 : (x == a) = false := by rw [beq_eq_false_iff_ne] at e2 ⊢; exact fun e => e2 e.symm
      simp [e1, e2, e3, e4]
theorem plu_map {L : List Int} {g : Int → Int} (hg : Inj L g) {x : Int} (hx : x ∈ L) : ∀ (u : Nat) (R : List (List Int)), (∀ r ∈ R, ∀ y ∈ r, y ∈ L) → plu u (R.map (·.map g)) (g x) = plu u R x
  | _, [], _ => rfl
  | u, r :: R, h => by
    obtain ⟨h1, h2⟩ := idx_map hg hx r (h r (by simp))
    rw [List.map_cons, plu, plu, h1, h2, plu_map hg hx (u + 1) R (fun r' hr => h r' (by simp [hr]))]
/-- a kind of which Params may be has them; all others have none -/
theorem fit_ps {bd : List Int} {t : Tm} (h : fit bd t = true) (hk : t.k ≠ 8) : t.ps = [] := by
  unfold fit at h
  by_cases h1 : t.k = 1
  · simp [h1] at h; exact h.1.1.2
  by_cases h2 : t.k = 2
  · simp [h2] at h; exact h.1.1.2
  by_cases h3 : t.k = 3
  · simp [h3] at h; exact h.1.1.1.2
  by_cases h4 : t.k = 4
  · simp [h4] at h; exact h.1.1.2
  by_cases h5 : t.k = 5 ∨ t.k = 6
  · rw [if_neg h1, if_neg h2, if_neg h3, if_neg h4, if_pos h5] at h; simp at h; exact h.1.1.1.2
  by_cases h7 : t.k = 7
  · simp [h7] at h; exact h.1.1.2
  by_cases h9 : t.k = 9
  · simp [h9] at h; exact h.1.1.2
  by_cases h10 : t.k = 10
  · simp [h10] at h; exact h.1.1.2
  rw [if_neg h1, if_neg h2, if_neg h3, if_neg h4, if_neg h5, if_neg h7, if_neg hk, if_neg h9, if_neg h10] at h
  simp at h
/-- terms whose locals are called otherwise, each by one of its own, are resolved alike -/
theorem rsl_ren {L : List Int} {g : Int → Int} (hg : Inj L g) : ∀ {bd : List Int} {d : Tl} {R : List (List Int)}, rtl bd d = true → (∀ a ∈ bd, a ∈ L) → (∀ a ∈ prs d, a ∈ L) → (∀ r ∈ R, ∀ y ∈ r, y ∈ L) → rsl (R.map (·.map g)) (ren g d) = rsl R d
  | _, .nil, _, _, _, _, _ => rfl
  | bd, .cons k n s ps d ks r, R, hr, hb, hp, hR => by
    simp only [rtl, Bool.and_eq_true] at hr
    simp only [prs, List.mem_append] at hp
    have hb2 : ∀ a ∈ bd ++ ps, a ∈ L := fun a ha => by
      rcases List.mem_append.1 ha with ha | ha
      · exact hb a ha
      · exact hp a (.inl ha)
    have e1 : (if k = 2 ∨ k = 4 then plu 0 (R.map (·.map g)) (if k = 2 ∨ k = 4 then g n else n) else (if k = 2 ∨ k = 4 then g n else n)) = (if k = 2 ∨ k = 4 then plu 0 R n else n) := by
      by_cases hk : k = 2 ∨ k = 4
      · rw [if_pos hk, if_pos hk, if_pos hk]
        have := fit_local (t := ⟨k, n, s, ps, d, ks⟩) hr.1.1 hk
        exact plu_map hg (hb n (by simpa using this)) 0 R hR
      · rw [if_neg hk, if_neg hk, if_neg hk]
    have e2 : (if k = 8 then up1 (ps.map g).length else ps.map g) = (if k = 8 then up1 ps.length else ps) := by
      by_cases hk : k = 8
      · rw [if_pos hk, if_pos hk, List.length_map]
      · rw [if_neg hk, if_neg hk, show ps = [] from fit_ps (t := ⟨k, n, s, ps, d, ks⟩) hr.1.1 hk]; rfl
    have e3 : rsl (if k = 8 then ps.map g :: R.map (·.map g) else R.map (·.map g)) (ren g ks) = rsl (if k = 8 then ps :: R else R) ks := by
      by_cases hk : k = 8
      · rw [if_pos hk, if_pos hk]
        exact rsl_ren hg (R := ps :: R) hr.1.2 hb2 (fun a ha => hp a (.inr (.inl ha))) (fun r' hr' y hy => by
          rcases List.mem_cons.1 hr' with e | e
          · subst e; exact hp y (.inl hy)
          · exact hR r' e y hy)
      · rw [if_neg hk, if_neg hk]
        exact rsl_ren hg (R := R) hr.1.2 hb2 (fun a ha => hp a (.inr (.inl ha))) hR
    rw [ren, rsl, rsl, e1, e2, e3, rsl_ren hg hr.2 hb (fun a ha => hp a (.inr (.inr ha))) hR]
/-- programs that are the same are resolved alike -/
theorem res_alpha {t : Tm} (h : okt t = true) : res (alpha t) = res t := by
  have hq := h
  unfold okt at h
  simp only [Bool.and_eq_true, decide_eq_true_eq] at h
  have hd := h.2
  rw [ok1, Bool.and_eq_true] at hd
  obtain ⟨hf, hr⟩ := hd
  rw [List.nil_append] at hr
  have hI := pl_inj (L := t.ps ++ prs t.ks)
  rw [alpha, nm1_ren]
  unfold res rs1 ren1
  simp only
  have e1 : (if t.k = 2 ∨ t.k = 4 then plu 0 [] (if t.k = 2 ∨ t.k = 4 then pl (t.ps ++ prs t.ks) t.n else t.n) else (if t.k = 2 ∨ t.k = 4 then pl (t.ps ++ prs t.ks) t.n else t.n)) = (if t.k = 2 ∨ t.k = 4 then plu 0 [] t.n else t.n) := by
    by_cases hk : t.k = 2 ∨ t.k = 4
    · simp only [if_pos hk]; rfl
    · simp only [if_neg hk]
  have hL : ∀ a ∈ t.ps, a ∈ t.ps ++ prs t.ks := fun a ha => List.mem_append.2 (.inl ha)
  have e2 : (if t.k = 8 then up1 (t.ps.map (pl (t.ps ++ prs t.ks))).length else t.ps.map (pl (t.ps ++ prs t.ks))) = (if t.k = 8 then up1 t.ps.length else t.ps) := by
    by_cases hk : t.k = 8
    · rw [if_pos hk, if_pos hk, List.length_map]
    · rw [if_neg hk, if_neg hk, fit_ps hf hk]; rfl
  have e3 : rsl (if t.k = 8 then [t.ps.map (pl (t.ps ++ prs t.ks))] else []) (ren (pl (t.ps ++ prs t.ks)) t.ks) = rsl (if t.k = 8 then [t.ps] else []) t.ks := by
    by_cases hk : t.k = 8
    · rw [if_pos hk, if_pos hk]
      exact rsl_ren hI (R := [t.ps]) hr hL (fun a ha => List.mem_append.2 (.inr ha)) (fun r hr y hy => by simp at hr; subst hr; exact hL y hy)
    · rw [if_neg hk, if_neg hk]
      exact rsl_ren hI (R := []) hr hL (fun a ha => List.mem_append.2 (.inr ha)) (fun r hr => by simp at hr)
  rw [e1, e2, e3]
/-! ### a number into a rising list, once -/
def pti : List Int → Int → List Int
  | [], n => [n]
  | a :: r, n => if a < n then a :: pti r n else if a = n then a :: r else n :: a :: r
theorem pti_len (n : Int) : ∀ l : List Int, (pti l n).length ≤ l.length + 1
  | [] => by simp [pti]
  | a :: r => by
    have := pti_len n r
    unfold pti
    split
    · simp; omega
    · split <;> simp
theorem pti_mem (n x : Int) : ∀ l : List Int, x ∈ pti l n ↔ x = n ∨ x ∈ l
  | [] => by simp [pti]
  | a :: r => by
    unfold pti
    split
    · rw [List.mem_cons, pti_mem n x r, List.mem_cons]; constructor <;> (rintro (h | h | h) <;> simp [h])
    · split
      · rename_i h; subst h; simp
      · simp
def Up (l : List Int) : Prop := l.Pairwise (· < ·)
theorem pti_up (n : Int) : ∀ {l : List Int}, Up l → Up (pti l n)
  | [], _ => by simp [pti, Up]
  | a :: r, h => by
    unfold Up at h ⊢
    rw [List.pairwise_cons] at h
    unfold pti
    split
    · rename_i ha
      rw [List.pairwise_cons]
      exact ⟨fun x hx => by rcases (pti_mem n x r).1 hx with e | e; · omega
                            · exact h.1 x e, pti_up n h.2⟩
    · split
      · rw [List.pairwise_cons]; exact h
      · rename_i h1 h2
        rw [List.pairwise_cons, List.pairwise_cons]
        refine ⟨fun x hx => ?_, h⟩
        rcases List.mem_cons.1 hx with e | e
        · omega
        · have := h.1 x e; omega
/-- two rising lists of the same numbers are one -/
theorem up_ext : ∀ {a b : List Int}, Up a → Up b → (∀ x, x ∈ a ↔ x ∈ b) → a = b
  | [], [], _, _, _ => rfl
  | [], y :: b, _, _, h => by have := (h y).2 (by simp); simp at this
  | x :: a, [], _, _, h => by have := (h x).1 (by simp); simp at this
  | x :: a, y :: b, ha, hb, h => by
    unfold Up at ha hb
    rw [List.pairwise_cons] at ha hb
    have exy : x = y := by
      rcases List.mem_cons.1 ((h x).1 (by simp)) with e | e
      · exact e
      · rcases List.mem_cons.1 ((h y).2 (by simp)) with e2 | e2
        · exact e2.symm
        · have := ha.1 y e2; have := hb.1 x e; omega
    subst exy
    rw [up_ext ha.2 hb.2 (fun z => ?_)]
    constructor
    · intro hz
      rcases List.mem_cons.1 ((h z).1 (by simp [hz])) with e | e
      · have := ha.1 z hz; omega
      · exact e
    · intro hz
      rcases List.mem_cons.1 ((h z).2 (by simp [hz])) with e | e
      · have := hb.1 z hz; omega
      · exact e
/-- the locals that are set, into a rising list -/
def sts : Tl → List Int → List Int
  | .nil, l => l
  | .cons k n _ _ _ ks r, l => sts r (sts ks (if k = 4 then pti l n else l))
def asg (t : Tm) : List Int := let a := alpha t; sts a.ks (if a.k = 4 then pti [] a.n else [])
/-- the locals that are set, in the order in which they stand -/
def stl : Tl → List Int
  | .nil => []
  | .cons k n _ _ _ ks r => (if k = 4 then [n] else []) ++ (stl ks ++ stl r)
theorem sts_mem (x : Int) : ∀ (d : Tl) (l : List Int), x ∈ sts d l ↔ x ∈ stl d ∨ x ∈ l
  | .nil, l => by simp [sts, stl]
  | .cons k n s ps d ks r, l => by
    rw [sts, stl, sts_mem x r, sts_mem x ks]
    by_cases hk : k = 4
    · rw [if_pos hk, if_pos hk, pti_mem]
      simp only [List.mem_append, List.mem_cons, List.not_mem_nil, or_false]
      constructor
      · rintro (h | h | h | h) <;> simp [h]
      · rintro ((h | h | h) | h) <;> simp [h]
    · rw [if_neg hk, if_neg hk]
      simp only [List.mem_append, List.nil_append]
      constructor
      · rintro (h | h | h) <;> simp [h]
      · rintro ((h | h) | h) <;> simp [h]
theorem sts_up : ∀ (d : Tl) {l : List Int}, Up l → Up (sts d l)
  | .nil, _, h => h
  | .cons k n s ps d ks r, l, h => by
    rw [sts]
    refine sts_up r (sts_up ks ?_)
    by_cases hk : k = 4
    · rw [if_pos hk]; exact pti_up n h
    · rw [if_neg hk]; exact h
theorem sts_len : ∀ (d : Tl) (l : List Int), (sts d l).length ≤ l.length + sz d
  | .nil, l => by simp [sts, sz]
  | .cons k n s ps d ks r, l => by
    have h1 := sts_len r (sts ks (if k = 4 then pti l n else l))
    have h2 := sts_len ks (if k = 4 then pti l n else l)
    have h3 : (if k = 4 then pti l n else l).length ≤ l.length + 1 := by
      split
      · exact pti_len n l
      · omega
    rw [sts, sz]; omega
theorem plu_none (u : Nat) (n : Int) : ∀ (R : List (List Int)) , (∀ r ∈ R, ¬ n ∈ r) → plu u R n = -1
  | [], _ => rfl
  | r :: R, h => by
    rw [plu, if_neg (by simpa using h r (by simp)), plu_none (u + 1) n R (fun r' hr => h r' (by simp [hr]))]
theorem plu_bd (n : Int) : ∀ (u : Nat) (R : List (List Int)), (∀ r ∈ R, r.length ≤ 32) → plu u R n = -1 ∨ (0 ≤ plu u R n ∧ plu u R n < 32 * ((u : Int) + R.length))
  | _, [], _ => .inl rfl
  | u, r :: R, h => by
    rw [plu]
    by_cases hr : r.contains n = true
    · rw [if_pos hr]
      have h1 := List.idxOf_lt_length_iff.2 (show n ∈ r by simpa using hr)
      have h2 := h r (by simp)
      refine .inr ⟨by omega, ?_⟩
      simp only [List.length_cons]; omega
    · rw [if_neg hr]
      rcases plu_bd n (u + 1) R (fun r' hr' => h r' (by simp [hr'])) with e | ⟨e1, e2⟩
      · exact .inl e
      · refine .inr ⟨e1, ?_⟩
        simp only [List.length_cons]; omega
/-- a local of just the rib w, counted from the innermost one -/
theorem plu_at (n : Int) : ∀ (u : Nat) (R : List (List Int)) (w : Nat) (r : List Int), R[w]? = some r → n ∈ r → (∀ i, i < w → ∀ r', R[i]? = some r' → ¬ n ∈ r') → plu u R n = 32 * ((u : Int) + w) + (r.idxOf n : Int)
  | _, [], _, _, h, _, _ => by simp at h
  | u, a :: R, 0, r, h, hn, _ => by
    simp at h; subst h
    rw [plu, if_pos (by simpa using hn)]; simp
  | u, a :: R, w + 1, r, h, hn, hb => by
    rw [plu, if_neg (by simpa using hb 0 (by omega) a (by simp)), plu_at n (u + 1) R w r (by simpa using h) hn (fun i hi r' hr => hb (i + 1) (by omega) r' (by simpa using hr))]
    omega
end Go.Proofs.YtpiekdcbjkgipaaGreat.SC
