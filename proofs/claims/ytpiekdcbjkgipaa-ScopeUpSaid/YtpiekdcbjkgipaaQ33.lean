/- Package term: term, whatever the kind: a term with the numbers that its locals get. -/
import Derived.Test.YtpiekdcbjkgipaaQ31
import Derived.Test.YtpiekdcbjkgipaaQ32
import Derived.Deep.RegionHeld3
import Derived.Deep.RegionWith
import Derived.Test.YtpiekdcbjkgipaaQ7
namespace Go.Proofs.Ytpiekdcbjkgipaa
open Go.ChangeShapes Go.WideShapes Go.ChangeAt Go.RowKit Go.Deep
open TM (Tl Tm)

theorem nt_step (k n : Int) (s : List UInt8) (ps : List Int) (d : RM.Dm) (ks : Tl) (hR : ∀ i x, ks.at_ i = some x → NtOk x) : NtOk ⟨k, n, s, ps, d, ks⟩ := by
  by_cases h4 : k = 4
  · subst h4
    exact nt_four n s ps d ks hR
  by_cases h2 : k = 2
  · subst h2
    exact nt_two n s ps d ks hR
  exact nt_other k n s ps d ks hR h4 h2
theorem term_any (t : Tm) : NtOk t := Tl.all_one NtOk nt_step t
end Go.Proofs.Ytpiekdcbjkgipaa

/- The plain mathematics of the law TermSame: a program whose locals get other numbers, each one of its own, is the same program. -/
namespace Go.Proofs.Ytpiekdcbjkgipaa.TM
open Go.RowKit RM

/-- the terms, with what their locals are called by g -/
def ren (g : Int → Int) : Tl → Tl
  | .nil => .nil
  | .cons k n s ps d ks r => .cons k (if k = 2 ∨ k = 4 then g n else n) s (ps.map g) d (ren g ks) (ren g r)
def ren1 (g : Int → Int) (t : Tm) : Tm := ⟨t.k, if t.k = 2 ∨ t.k = 4 then g t.n else t.n, t.s, t.ps.map g, t.d, ren g t.ks⟩
theorem nmt_ren (l : List Int) : ∀ d : Tl, nmt l d = ren (pl l) d
  | .nil => rfl
  | .cons k n s ps d ks r => by rw [nmt, ren, nmt_ren l ks, nmt_ren l r]
theorem nm1_ren (l : List Int) (t : Tm) : nm1 l t = ren1 (pl l) t := by rw [nm1, ren1, nmt_ren]
theorem ren_len (g : Int → Int) : ∀ d : Tl, (ren g d).len = d.len
  | .nil => rfl
  | .cons k n s ps d ks r => by rw [ren, Tl.len, Tl.len, ren_len g r]
theorem ren_sz (g : Int → Int) : ∀ d : Tl, sz (ren g d) = sz d
  | .nil => rfl
  | .cons k n s ps d ks r => by rw [ren, sz, sz, ren_sz g ks, ren_sz g r]
theorem ren_hi (g : Int → Int) : ∀ d : Tl, hi (ren g d) = hi d
  | .nil => rfl
  | .cons k n s ps d ks r => by rw [ren, hi, hi, ren_hi g ks, ren_hi g r]
theorem ren_prs (g : Int → Int) : ∀ d : Tl, prs (ren g d) = (prs d).map g
  | .nil => rfl
  | .cons k n s ps d ks r => by rw [ren, prs, prs, ren_prs g ks, ren_prs g r]; simp
theorem ren_at (g : Int → Int) : ∀ {d : Tl} {i : Nat} {x : Tm}, d.at_ i = some x → (ren g d).at_ i = some (ren1 g x)
  | .nil, i, x, h => by simp [Tl.at_] at h
  | .cons k n s ps d ks r, 0, x, h => by
    simp only [Tl.at_, Option.some.injEq] at h
    subst h; rfl
  | .cons k n s ps d ks r, i + 1, x, h => by
    have h' : r.at_ i = some x := h
    exact ren_at g (d := r) (i := i) h'
/-- g tells the numbers of L apart -/
def Inj (L : List Int) (g : Int → Int) : Prop := ∀ a ∈ L, ∀ b ∈ L, g a = g b → a = b
theorem pl_map {L : List Int} {g : Int → Int} (hg : Inj L g) {x : Int} (hx : x ∈ L) : pl (L.map g) (g x) = pl L x := by
  have key : ∀ (l : List Int), (∀ y ∈ l, y ∈ L) → x ∈ l → (l.map g).idxOf (g x) = l.idxOf x := by
    intro l
    induction l with
    | nil => intro _ h; simp at h
    | cons a r ih =>
      intro hl hxl
      rw [List.map_cons, List.idxOf_cons, List.idxOf_cons]
      by_cases hax : a = x
      · subst hax; simp
      · have h1 : (g a == g x) = false := by rw [beq_eq_false_iff_ne]; exact fun e => hax (hg a (hl a (by simp)) x hx e)
        have h2 : (a == x) = false := by rw [beq_eq_false_iff_ne]; exact hax
        rw [h1, h2]
        simp only [cond_false]
        rw [ih (fun y hy => hl y (by simp [hy])) (by simpa [Ne.symm hax] using hxl)]
  have h1 : L.contains x = true := by simpa using hx
  have h2 : (L.map g).contains (g x) = true := by simp; exact ⟨x, hx, rfl⟩
  rw [pl, pl, if_pos h1, if_pos h2, key L (fun _ h => h) hx]
/-- where only what L has is called, names count by L alone -/
theorem ren_congr {L : List Int} {g h : Int → Int} (hgh : ∀ a ∈ L, g a = h a) : ∀ {bd : List Int} {d : Tl}, rtl bd d = true → (∀ a ∈ bd, a ∈ L) → (∀ a ∈ prs d, a ∈ L) → ren g d = ren h d
  | _, .nil, _, _, _ => rfl
  | bd, .cons k n s ps d ks r, hr, hb, hp => by
    simp only [rtl, Bool.and_eq_true] at hr
    simp only [prs, List.mem_append] at hp
    have e1 : (if k = 2 ∨ k = 4 then g n else n) = (if k = 2 ∨ k = 4 then h n else n) := by
      by_cases hk : k = 2 ∨ k = 4
      · rw [if_pos hk, if_pos hk]
        have := fit_local (t := ⟨k, n, s, ps, d, ks⟩) hr.1.1 hk
        exact hgh n (hb n (by simpa using this))
      · rw [if_neg hk, if_neg hk]
    have e2 : ps.map g = ps.map h := List.map_congr_left (fun a ha => hgh a (hp a (.inl ha)))
    have hb2 : ∀ a ∈ bd ++ ps, a ∈ L := fun a ha => by
      rcases List.mem_append.1 ha with ha | ha
      · exact hb a ha
      · exact hp a (.inl ha)
    rw [ren, ren, e1, e2, ren_congr hgh hr.1.2 hb2 (fun a ha => hp a (.inr (.inl ha))), ren_congr hgh hr.2 hb (fun a ha => hp a (.inr (.inr ha)))]
theorem ren_ren (g h : Int → Int) : ∀ d : Tl, ren g (ren h d) = ren (fun a => g (h a)) d
  | .nil => rfl
  | .cons k n s ps d ks r => by
    rw [ren, ren, ren, ren_ren g h ks, ren_ren g h r, List.map_map]
    by_cases hk : k = 2 ∨ k = 4
    · rw [if_pos hk, if_pos hk, if_pos hk]; rfl
    · rw [if_neg hk, if_neg hk, if_neg hk]; rfl
theorem fit_ren {g : Int → Int} {bd : List Int} {t : Tm} (h : fit bd t = true) : fit (bd.map g) (ren1 g t) = true := by
  have hc : bd.contains t.n = true → (bd.map g).contains (g t.n) = true := fun h => by
    simp at h ⊢; exact ⟨_, h, rfl⟩
  have hl : (ren g t.ks).len = t.ks.len := ren_len g t.ks
  have hp : decide ((t.ps.map g) = []) = decide (t.ps = []) := by cases t.ps <;> simp
  unfold fit at h ⊢
  unfold ren1
  simp only [hl, hp, List.length_map]
  by_cases h2 : t.k = 2
  · simp only [h2] at h ⊢
    simp only [Int.reduceEq, if_false, if_true, Bool.and_eq_true, true_or] at h ⊢
    exact ⟨⟨h.1.1, hc h.1.2⟩, h.2⟩
  · by_cases h4 : t.k = 4
    · simp only [h4] at h ⊢
      simp only [Int.reduceEq, if_false, if_true, Bool.and_eq_true, or_true] at h ⊢
      exact ⟨⟨h.1.1, hc h.1.2⟩, h.2⟩
    · rw [if_neg (by rintro (e | e); exact h2 e; exact h4 e : ¬ (t.k = 2 ∨ t.k = 4))]
      rw [if_neg h2, if_neg h4] at h ⊢
      exact h
theorem rtl_ren {g : Int → Int} : ∀ {bd : List Int} {d : Tl}, rtl bd d = true → rtl (bd.map g) (ren g d) = true
  | _, .nil, _ => rfl
  | bd, .cons k n s ps d ks r, h => by
    simp only [rtl, Bool.and_eq_true] at h
    have h1 := fit_ren (g := g) h.1.1
    have h2 := rtl_ren (g := g) h.1.2
    have h3 := rtl_ren (g := g) h.2
    rw [List.map_append] at h2
    rw [ren, rtl, Bool.and_eq_true, Bool.and_eq_true]
    exact ⟨⟨h1, h2⟩, h3⟩
theorem frs_iff : ∀ (l met : List Int), frs met l = true ↔ (∀ p ∈ l, 1 ≤ p) ∧ l.Nodup ∧ (∀ p ∈ l, ¬ p ∈ met)
  | [], met => by simp [frs]
  | p :: r, met => by
    rw [frs, Bool.and_eq_true, Bool.and_eq_true, frs_iff r (met ++ [p])]
    simp only [decide_eq_true_eq, Bool.not_eq_true', List.mem_cons, List.nodup_cons, forall_eq_or_imp, List.mem_append, List.not_mem_nil, or_false, not_or]
    have hm : met.contains p = false ↔ ¬ p ∈ met := by
      rw [← Bool.not_eq_true]; simp
    rw [hm]
    constructor
    · rintro ⟨⟨h1, h2⟩, h3, h4, h5⟩
      exact ⟨⟨h1, h3⟩, ⟨fun hp => (h5 p hp).2 rfl, h4⟩, h2, fun q hq => (h5 q hq).1⟩
    · rintro ⟨⟨h1, h3⟩, ⟨h6, h4⟩, h2, h5⟩
      exact ⟨⟨h1, h2⟩, h3, h4, fun q hq => ⟨h5 q hq, fun e => h6 (e ▸ hq)⟩⟩
theorem frs_map {g : Int → Int} {l : List Int} (h : frs [] l = true) (hg : Inj l g) (h1 : ∀ p ∈ l, 1 ≤ g p) : frs [] (l.map g) = true := by
  rw [frs_iff] at h ⊢
  obtain ⟨_, hn, _⟩ := h
  refine ⟨fun p hp => ?_, ?_, by simp⟩
  · obtain ⟨a, ha, rfl⟩ := List.mem_map.1 hp
    exact h1 a ha
  · unfold List.Nodup at hn ⊢
    rw [List.pairwise_map]
    exact (List.pairwise_iff_forall_sublist.2 fun {a b} hab => by
      have := List.pairwise_iff_forall_sublist.1 hn hab
      have ha : a ∈ l := hab.subset (by simp)
      have hb : b ∈ l := hab.subset (by simp)
      exact fun e => this (hg a ha b hb e))
/-- a right program, its locals called by g, is right, and the same -/
theorem ren_same {t : Tm} {g : Int → Int} (h : okt t = true) (hg : Inj (t.ps ++ prs t.ks) g) (h1 : ∀ p ∈ t.ps ++ prs t.ks, 1 ≤ g p) : okt (ren1 g t) = true ∧ alpha (ren1 g t) = alpha t := by
  have hprs : (ren1 g t).ps ++ prs (ren1 g t).ks = (t.ps ++ prs t.ks).map g := by
    show t.ps.map g ++ prs (ren g t.ks) = _
    rw [ren_prs, List.map_append]
  unfold okt at h ⊢
  simp only [Bool.and_eq_true, decide_eq_true_eq] at h ⊢
  obtain ⟨⟨⟨ha, hb⟩, hc⟩, hd⟩ := h
  have hd2 := hd
  rw [ok1, Bool.and_eq_true] at hd2
  obtain ⟨hf, hr⟩ := hd2
  refine ⟨⟨⟨⟨?_, ?_⟩, ?_⟩, ?_⟩, ?_⟩
  · show sz (ren g t.ks) + 1 ≤ 4000
    rw [ren_sz]; exact ha
  · show hi (ren g t.ks) + 1 ≤ 200
    rw [ren_hi]; exact hb
  · rw [hprs]; exact frs_map hc hg h1
  · rw [ok1, Bool.and_eq_true]
    refine ⟨fit_ren (g := g) (bd := []) hf, ?_⟩
    have := rtl_ren (g := g) hr
    rw [List.map_append] at this
    exact this
  · rw [alpha, alpha, hprs, nm1_ren, nm1_ren]
    have hcc : ∀ a ∈ t.ps ++ prs t.ks, pl ((t.ps ++ prs t.ks).map g) (g a) = pl (t.ps ++ prs t.ks) a := fun a ha => pl_map hg ha
    have hL : ∀ a ∈ t.ps, a ∈ t.ps ++ prs t.ks := fun a ha => List.mem_append.2 (.inl ha)
    have e1 : (if t.k = 2 ∨ t.k = 4 then pl ((t.ps ++ prs t.ks).map g) (if t.k = 2 ∨ t.k = 4 then g t.n else t.n) else (if t.k = 2 ∨ t.k = 4 then g t.n else t.n)) = (if t.k = 2 ∨ t.k = 4 then pl (t.ps ++ prs t.ks) t.n else t.n) := by
      by_cases hk : t.k = 2 ∨ t.k = 4
      · have := fit_local hf hk
        simp at this
      · rw [if_neg hk, if_neg hk, if_neg hk]
    have e2 : (t.ps.map g).map (pl ((t.ps ++ prs t.ks).map g)) = t.ps.map (pl (t.ps ++ prs t.ks)) := by
      rw [List.map_map]
      exact List.map_congr_left (fun a ha => hcc a (hL a ha))
    have e3 : ren (pl ((t.ps ++ prs t.ks).map g)) (ren g t.ks) = ren (pl (t.ps ++ prs t.ks)) t.ks := by
      rw [ren_ren]
      exact ren_congr hcc hr (fun a ha => by rw [List.nil_append] at ha; exact hL a ha) (fun a ha => List.mem_append.2 (.inr ha))
    unfold ren1
    simp only
    rw [e1, e2, e3]
theorem pl_inj {L : List Int} : Inj L (pl L) := by
  intro a ha b hb e
  have h1 : L.contains a = true := by simpa using ha
  have h2 : L.contains b = true := by simpa using hb
  rw [pl, pl, if_pos h1, if_pos h2] at e
  have e' : L.idxOf a = L.idxOf b := by omega
  have ha' := List.idxOf_lt_length_iff.2 ha
  have hb' := List.idxOf_lt_length_iff.2 hb
  have g1 := List.getElem_idxOf ha'
  have g2 := List.getElem_idxOf hb'
  rw [← g1, ← g2]
  simp only [e']
theorem pl_pos {L : List Int} {a : Int} (ha : a ∈ L) : 1 ≤ pl L a := by
  have h1 : L.contains a = true := by simpa using ha
  rw [pl, if_pos h1]; omega
/-- Alpha of Alpha is Alpha -/
theorem alpha_alpha {t : Tm} (h : okt t = true) : okt (alpha t) = true ∧ alpha (alpha t) = alpha t := by
  have e : alpha t = ren1 (pl (t.ps ++ prs t.ks)) t := by rw [alpha, nm1_ren]
  have := ren_same h (pl_inj (L := t.ps ++ prs t.ks)) (fun p hp => pl_pos hp)
  rw [← e] at this
  exact this
/-- the locals counted down from by -/
def sh (by_ : Int) (t : Tm) : Tm := ren1 (fun a => by_ - a) t
theorem sh_same {t : Tm} {m : Int} (h : okt t = true) (hm : ∀ p ∈ t.ps ++ prs t.ks, p ≤ m) : okt (sh (m + 1) t) = true ∧ alpha (sh (m + 1) t) = alpha t :=
  ren_same h (fun a _ b _ e => by have e' : m + 1 - a = m + 1 - b := e; omega) (fun p hp => by have := hm p hp; show 1 ≤ m + 1 - p; omega)
end Go.Proofs.Ytpiekdcbjkgipaa.TM
