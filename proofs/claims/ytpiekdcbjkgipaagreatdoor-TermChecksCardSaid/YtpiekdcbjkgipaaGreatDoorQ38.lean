/- The reference of layer 10: right. -/
import Derived.Test.YtpiekdcbjkgipaaGreatDoorQ34
import Derived.Test.YtpiekdcbjkgipaaGreatDoorQ35
import Derived.Test.YtpiekdcbjkgipaaGreatDoorQ36
import Derived.Test.YtpiekdcbjkgipaaGreatDoorQ37
import Derived.Test.YtpiekdcbjkgipaaGreatDoorQ4
import Derived.Test.YtpiekdcbjkgipaaGreatDoorQ28
import Derived.Test.YtpiekdcbjkgipaaGreatDoorQ6
namespace Go.Proofs.YtpiekdcbjkgipaaGreatDoor
open Go.ChangeShapes Go.WideShapes Go.ChangeAt Go.RowKit Go.Deep
open TM (Tl Tm)

theorem rg_step (k n : Int) (s : List UInt8) (ps : List Int) (d : RM.Dm) (ks : Tl) (hR : ∀ i x, ks.at_ i = some x → RgOk x) : RgOk ⟨k, n, s, ps, d, ks⟩ := by
  by_cases h1 : k = 1
  · exact rg_stepA k n s ps d ks hR (Lib.hid h1)
  by_cases h2 : k = 2 ∨ k = 4
  · exact rg_stepB k n s ps d ks hR (Lib.hid h2)
  by_cases h3 : k = 3 ∨ k = 5 ∨ k = 6
  · exact rg_stepC k n s ps d ks hR (Lib.hid h3)
  by_cases h4 : k = 7 ∨ k = 9
  · exact rg_stepD k n s ps d ks hR (Lib.hid h4)
  by_cases h5 : k = 8
  · exact rg_stepE k n s ps d ks hR (Lib.hid h5)
  exact rg_stepF k n s ps d ks hR (Lib.hid (by omega))
theorem rg_any (t : Tm) : RgOk t := Tl.all_one RgOk rg_step t
end Go.Proofs.YtpiekdcbjkgipaaGreatDoor

/- The plain mathematics of the law TermSame: a program whose locals get other numbers, each one of its own, is the same program. -/
namespace Go.Proofs.YtpiekdcbjkgipaaGreatDoor.TM
open Go.RowKit RM

/-- the terms, with what their locals are called by g -/
def ren (g : Int → Int) : Tl → Tl
  | .nil => .nil
  | .cons k n s ps d ks r => .cons k (if k = 2 ∨ k = 4 then g n else n) s (ps.map g) d (ren g ks) (ren g r)
def ren1 (g : Int → Int) (t : Tm) : Tm := ⟨t.k, if t.k = 2 ∨ t.k = 4 then g t.n else t.n, t.s, t.ps.map g, t.d, ren g t.ks⟩
theorem nmt_ren (l : List Int) : ∀ d : Tl, nmt l d = ren (pl l) d
  | .nil => rfl
  | .cons k n s ps d ks r => by rw [nmt, ren, nmt_ren l ks, nmt_ren l r]
theorem nm1_ren (l : List Int) (t : Tm) : nm1 l t = ren1 (pl l) t := by rw [nm1, ren1, nmt_ren]
theorem ren_len (g : Int → Int) : ∀ d : Tl, (ren g d).len = d.len
  | .nil => rfl
  | .cons k n s ps d ks r => by rw [ren, Tl.len, Tl.len, ren_len g r]
theorem ren_sz (g : Int → Int) : ∀ d : Tl, sz (ren g d) = sz d
  | .nil => rfl
  | .cons k n s ps d ks r => by rw [ren, sz, sz, ren_sz g ks, ren_sz g r]
theorem ren_hi (g : Int → Int) : ∀ d : Tl, hi (ren g d) = hi d
  | .nil => rfl
  | .cons k n s ps d ks r => by rw [ren, hi, hi, ren_hi g ks, ren_hi g r]
theorem ren_prs (g : Int → Int) : ∀ d : Tl, prs (ren g d) = (prs d).map g
  | .nil => rfl
  | .cons k n s ps d ks r => by rw [ren, prs, prs, ren_prs g ks, ren_prs g r]; simp
theorem ren_at (g : Int → Int) : ∀ {d : Tl} {i : Nat} {x : Tm}, d.at_ i = some x → (ren g d).at_ i = some (ren1 g x)
  | .nil, i, x, h => by simp [Tl.at_] at h
  | .cons k n s ps d ks r, 0, x, h => by
    simp only [Tl.at_, Option.some.injEq] at h
    subst h; rfl
  | .cons k n s ps d ks r, i + 1, x, h => by
    have h' : r.at_ i = some x := h
    exact ren_at g (d := r) (i := i) h'
/-- g tells the numbers of L apart -/
def Inj (L : List Int) (g : Int → Int) : Prop := ∀ a ∈ L, ∀ b ∈ L, g a = g b → a = b
theorem pl_map {L : List Int} {g : Int → Int} (hg : Inj L g) {x : Int} (hx : x ∈ L) : pl (L.map g) (g x) = pl L x := by
  have key : ∀ (l : List Int), (∀ y ∈ l, y ∈ L) → x ∈ l → (l.map g).idxOf (g x) = l.idxOf x := by
    intro l
    induction l with
    | nil => intro _ h; simp at h
    | cons a r ih =>
      intro hl hxl
      rw [List.map_cons, List.idxOf_cons, List.idxOf_cons]
      by_cases hax : a = x
      · subst hax; simp
      · have h1 : (g a == g x) = false := by rw [beq_eq_false_iff_ne]; exact fun e => hax (hg a (hl a (by simp)) x hx e)
        have h2 : (a == x) = false := by rw [beq_eq_false_iff_ne]; exact hax
        rw [h1, h2]
        simp only [cond_false]
        rw [ih (fun y hy => hl y (by simp [hy])) (by simpa [Ne.symm hax] using hxl)]
  have h1 : L.contains x = true := by simpa using hx
  have h2 : (L.map g).contains (g x) = true := by simp; exact ⟨x, hx, rfl⟩
  rw [pl, pl, if_pos h1, if_pos h2, key L (fun _ h => h) hx]
/-- where only what L has is called, names count by L alone -/
theorem ren_congr {L : List Int} {g h : Int → Int} (hgh : ∀ a ∈ L, g a = h a) : ∀ {bd : List Int} {d : Tl}, rtl bd d = true → (∀ a ∈ bd, a ∈ L) → (∀ a ∈ prs d, a ∈ L) → ren g d = ren h d
  | _, .nil, _, _, _ => rfl
  | bd, .cons k n s ps d ks r, hr, hb, hp => by
    simp only [rtl, Bool.and_eq_true] at hr
    simp only [prs, List.mem_append] at hp
    have e1 : (if k = 2 ∨ k = 4 then g n else n) = (if k = 2 ∨ k = 4 then h n else n) := by
      by_cases hk : k = 2 ∨ k = 4
      · rw [if_pos hk, if_pos hk]
        have := fit_local (t := ⟨k, n, s, ps, d, ks⟩) hr.1.1 hk
        exact hgh n (hb n (by simpa using this))
      · rw [if_neg hk, if_neg hk]
    have e2 : ps.map g = ps.map h := List.map_congr_left (fun a ha => hgh a (hp a (.inl ha)))
    have hb2 : ∀ a ∈ bd ++ ps, a ∈ L := fun a ha => by
      rcases List.mem_append.1 ha with ha | ha
      · exact hb a ha
      · exact hp a (.inl ha)
    rw [ren, ren, e1, e2, ren_congr hgh hr.1.2 hb2 (fun a ha => hp a (.inr (.inl ha))), ren_congr hgh hr.2 hb (fun a ha => hp a (.inr (.inr ha)))]
theorem ren_ren (g h : Int → Int) : ∀ d : Tl, ren g (ren h d) = ren (fun a => g (h a)) d
  | .nil => rfl
  | .cons k n s ps d ks r => by
    rw [ren, ren, ren, ren_ren g h ks, ren_ren g h r, List.map_map]
    by_cases hk : k = 2 ∨ k = 4
    · rw [if_pos hk, if_pos hk, if_pos hk]; rfl
    · rw [if_neg hk, if_neg hk, if_neg hk]; rfl
theorem fit_ren {g : Int → Int} {bd : List Int} {t : Tm} (h : fit bd t = true) : fit (bd.map g) (ren1 g t) = true := by
  have hc : bd.contains t.n = true → (bd.map g).contains (g t.n) = true := fun h => by
    simp at h ⊢; exact ⟨_, h, rfl⟩
  have hl : (ren g t.ks).len = t.ks.len := ren_len g t.ks
  have hp : decide ((t.ps.map g) = []) = decide (t.ps = []) := by cases t.ps <;> simp
  unfold fit at h ⊢
  unfold ren1
  simp only [hl, hp, List.length_map]
  by_cases h2 : t.k = 2
  · simp only [h2] at h ⊢
    simp only [Int.reduceEq, if_false, if_true, Bool.and_eq_true, true_or] at h ⊢
    exact ⟨⟨h.1.1, hc h.1.2⟩, h.2⟩
  · by_cases h4 : t.k = 4
    · simp only [h4] at h ⊢
      simp only [Int.reduceEq, if_false, if_true, Bool.and_eq_true, or_true] at h ⊢
      exact ⟨⟨h.1.1, hc h.1.2⟩, h.2⟩
    · rw [if_neg (by rintro (e | e); exact h2 e; exact h4 e : ¬ (t.k = 2 ∨ t.k = 4))]
      rw [if_neg h2, if_neg h4] at h ⊢
      exact h
theorem rtl_ren {g : Int → Int} : ∀ {bd : List Int} {d : Tl}, rtl bd d = true → rtl (bd.map g) (ren g d) = true
  | _, .nil, _ => rfl
  | bd, .cons k n s ps d ks r, h => by
    simp only [rtl, Bool.and_eq_true] at h
    have h1 := fit_ren (g := g) h.1.1
    have h2 := rtl_ren (g := g) h.1.2
    have h3 := rtl_ren (g := g) h.2
    rw [List.map_append] at h2
    rw [ren, rtl, Bool.and_eq_true, Bool.and_eq_true]
    exact ⟨⟨h1, h2⟩, h3⟩
theorem frs_iff : ∀ (l met : List Int), frs met l = true ↔ (∀ p ∈ l, 1 ≤ p) ∧ l.Nodup ∧ (∀ p ∈ l, ¬ p ∈ met)
  | [], met => by simp [frs]
  | p :: r, met => by
    rw [frs, Bool.and_eq_true, Bool.and_eq_true, frs_iff r (met ++ [p])]
    simp only [decide_eq_true_eq, Bool.not_eq_true', List.mem_cons, List.nodup_cons, forall_eq_or_imp, List.mem_append, List.not_mem_nil, or_false, not_or]
    have hm : met.contains p = false ↔ ¬ p ∈ met := by
      rw [← Bool.not_eq_true]; simp
    rw [hm]
    constructor
    · rintro ⟨⟨h1, h2⟩, h3, h4, h5⟩
      exact ⟨⟨h1, h3⟩, ⟨fun hp => (h5 p hp).2 rfl, h4⟩, h2, fun q hq => (h5 q hq).1⟩
    · rintro ⟨⟨h1, h3⟩, ⟨h6, h4⟩, h2, h5⟩
      exact ⟨⟨h1, h2⟩, h3, h4, fun q hq => ⟨h5 q hq, fun e => h6 (e ▸ hq)⟩⟩
theorem frs_map {g : Int → Int} {l : List Int} (h : frs [] l = true) (hg : Inj l g) (h1 : ∀ p ∈ l, 1 ≤ g p) : frs [] (l.map g) = true := by
  rw [frs_iff] at h ⊢
  obtain ⟨_, hn, _⟩ := h
  refine ⟨fun p hp => ?_, ?_, by simp⟩
  · obtain ⟨a, ha, rfl⟩ := List.mem_map.1 hp
    exact h1 a ha
  · unfold List.Nodup at hn ⊢
    rw [List.pairwise_map]
    exact (List.pairwise_iff_forall_sublist.2 fun {a b} hab => by
      have := List.pairwise_iff_forall_sublist.1 hn hab
      have ha : a ∈ l := hab.subset (by simp)
      have hb : b ∈ l := hab.subset (by simp)
      exact fun e => this (hg a ha b hb e))
/-- a right program, its locals called by g, is right, and the same -/
theorem ren_same {t : Tm} {g : Int → Int} (h : okt t = true) (hg : Inj (t.ps ++ prs t.ks) g) (h1 : ∀ p ∈ t.ps ++ prs t.ks, 1 ≤ g p) : okt (ren1 g t) = true ∧ alpha (ren1 g t) = alpha t := by
  have hprs : (ren1 g t).ps ++ prs (ren1 g t).ks = (t.ps ++ prs t.ks).map g := by
    show t.ps.map g ++ prs (ren g t.ks) = _
    rw [ren_prs, List.map_append]
  unfold okt at h ⊢
  simp only [Bool.and_eq_true, decide_eq_true_eq] at h ⊢
  obtain ⟨⟨⟨ha, hb⟩, hc⟩, hd⟩ := h
  have hd2 := hd
  rw [ok1, Bool.and_eq_true] at hd2
  obtain ⟨hf, hr⟩ := hd2
  refine ⟨⟨⟨⟨?_, ?_⟩, ?_⟩, ?_⟩, ?_⟩
  · show sz (ren g t.ks) + 1 ≤ 4000
    rw [ren_sz]; exact ha
  · show hi (ren g t.ks) + 1 ≤ 200
    rw [ren_hi]; exact hb
  · rw [hprs]; exact frs_map hc hg h1
  · rw [ok1, Bool.and_eq_true]
    refine ⟨fit_ren (g := g) (bd := []) hf, ?_⟩
    have := rtl_ren (g := g) hr
    rw [List.map_append] at this
    exact this
  · rw [alpha, alpha, hprs, nm1_ren, nm1_ren]
    have hcc : ∀ a ∈ t.ps ++ prs t.ks, pl ((t.ps ++ prs t.ks).map g) (g a) = pl (t.ps ++ prs t.ks) a := fun a ha => pl_map hg ha
    have hL : ∀ a ∈ t.ps, a ∈ t.ps ++ prs t.ks := fun a ha => List.mem_append.2 (.inl ha)
    have e1 : (if t.k = 2 ∨ t.k = 4 then pl ((t.ps ++ prs t.ks).map g) (if t.k = 2 ∨ t.k = 4 then g t.n else t.n) else (if t.k = 2 ∨ t.k = 4 then g t.n else t.n)) = (if t.k = 2 ∨ t.k = 4 then pl (t.ps ++ prs t.ks) t.n else t.n) := by
      by_cases hk : t.k = 2 ∨ t.k = 4
      · have := fit_local hf hk
        simp at this
      · rw [if_neg hk, if_neg hk, if_neg hk]
    have e2 : (t.ps.map g).map (pl ((t.ps ++ prs t.ks).map g)) = t.ps.map (pl (t.ps ++ prs t.ks)) := by
      rw [List.map_map]
      exact List.map_congr_left (fun a ha => hcc a (hL a ha))
    have e3 : ren (pl ((t.ps ++ prs t.ks).map g)) (ren g t.ks) = ren (pl (t.ps ++ prs t.ks)) t.ks := by
      rw [ren_ren]
      exact ren_congr hcc hr (fun a ha => by rw [List.nil_append] at ha; exact hL a ha) (fun a ha => List.mem_append.2 (.inr ha))
    unfold ren1
    simp only
    rw [e1, e2, e3]
theorem pl_inj {L : List Int} : Inj L (pl L) := by
  intro a ha b hb e
  have h1 : L.contains a = true := by simpa using ha
  have h2 : L.contains b = true := by simpa using hb
  rw [pl, pl, if_pos h1, if_pos h2] at e
  have e' : L.idxOf a = L.idxOf b := by omega
  have ha' := List.idxOf_lt_length_iff.2 ha
  have hb' := List.idxOf_lt_length_iff.2 hb
  have g1 := List.getElem_idxOf ha'
  have g2 := List.getElem_idxOf hb'
  rw [← g1, ← g2]
  simp only [e']
theorem pl_pos {L : List Int} {a : Int} (ha : a ∈ L) : 1 ≤ pl L a := by
  have h1 : L.contains a = true := by simpa using ha
  rw [pl, if_pos h1]; omega
/-- Alpha of Alpha is Alpha -/
theorem alpha_alpha {t : Tm} (h : okt t = true) : okt (alpha t) = true ∧ alpha (alpha t) = alpha t := by
  have e : alpha t = ren1 (pl (t.ps ++ prs t.ks)) t := by rw [alpha, nm1_ren]
  have := ren_same h (pl_inj (L := t.ps ++ prs t.ks)) (fun p hp => pl_pos hp)
  rw [← e] at this
  exact this
/-- the locals counted down from by -/
def sh (by_ : Int) (t : Tm) : Tm := ren1 (fun a => by_ - a) t
theorem sh_same {t : Tm} {m : Int} (h : okt t = true) (hm : ∀ p ∈ t.ps ++ prs t.ks, p ≤ m) : okt (sh (m + 1) t) = true ∧ alpha (sh (m + 1) t) = alpha t :=
  ren_same h (fun a _ b _ e => by have e' : m + 1 - a = m + 1 - b := e; omega) (fun p hp => by have := hm p hp; show 1 ≤ m + 1 - p; omega)
end Go.Proofs.YtpiekdcbjkgipaaGreatDoor.TM

/- The reference of layer 10: Right, is a term a program? -/
namespace Go.Proofs.YtpiekdcbjkgipaaGreatDoor
open Go.ChangeShapes Go.WideShapes Go.ChangeAt Go.RowKit Go.Deep
open TM (Tl Tm)

namespace TM
/-- how often a number was met: not at all, or once -/
def cn (l : List Int) : Int → Int := fun a => if l.contains a then 1 else 0
theorem cn_snoc {l : List Int} {x : Int} (h : l.contains x = false) : setS (cn l) x 1 = cn (l ++ [x]) := by
  funext b
  unfold setS cn
  by_cases e : b = x
  · subst e; simp
  · simp [e]
theorem frs_bad {l : List Int} {j : Nat} {x : Int} (hx : l[j]? = some x) (h : x < 1 ∨ (l.take j).contains x = true) : frs [] l = false := by
  have hj := (List.getElem?_eq_some_iff.1 hx).1
  have hl : l = l.take j ++ x :: l.drop (j + 1) := by
    have h2 := (List.getElem?_eq_some_iff.1 hx).2
    rw [← h2, ← List.drop_eq_getElem_cons, List.take_append_drop]
  rw [hl, frs_app, frs, List.nil_append]
  rcases h with h | h
  · simp; intro _ h1; omega
  · simp at h ⊢; intro _ _ h2; exact absurd h h2
theorem frs_good {l : List Int} {j : Nat} {x : Int} (hx : l[j]? = some x) (h0 : frs [] (l.take j) = true) (h1 : 1 ≤ x) (h2 : (l.take j).contains x = false) : frs [] (l.take (j + 1)) = true := by
  rw [List.take_add_one, hx, frs_app, h0]
  simp [frs] at h2 ⊢
  exact ⟨h1, h2⟩
end TM
set_option maxRecDepth 100000 in
set_option maxHeartbeats 8000000 in
theorem tright_any (t : Tm) (w : World) (vp vi vk : Value) (h : TmIn w t vp vi vk) (hB : TmBd t) (hmany : (t.ps ++ TM.prs t.ks).length ≤ 1000000) :
    Calls Tryz.prog 13 #[tmv t vp vi vk] w fun e w' => e = .returned (.bool (TM.okt t)) ∧ Went w w' := by
  have hD := Lib.hid (fun (w' : World) (hb : Below w.heap.size w w') => tdepth_any t w' vp vi vk 250 (h.below hb) (by omega) (by omega))
  have hP := Lib.hid (fun (w' : World) (hb : Below w.heap.size w w') => trparts_any t w' vp vi vk (h.below hb))
  have hM := Lib.hid (fun (w' : World) (hb : Below w.heap.size w w') => params_any t w' vp vi vk (h.below hb) hmany)
  have hG := Lib.hid (fun (w' : World) (hb : Below w.heap.size w w') => rg_any t w' (.slice none 0 0) [] vp vi vk (h.below hb) (PIn.nil w') (by simpa using hmany))
  have hbp : ∀ p ∈ t.ps ++ TM.prs t.ks, b64 p := fun p hp => by
    rcases List.mem_append.1 hp with hp | hp
    · exact hB.p p hp
    · exact hB.ks.prs p hp
  obtain ⟨H, hH⟩ : ∃ H, TM.hi t.ks = H := ⟨_, rfl⟩
  obtain ⟨Z, hZ⟩ : ∃ Z, TM.sz t.ks = Z := ⟨_, rfl⟩
  unfold TM.okt
  rw [hH] at hD ⊢
  rw [hZ] at hP ⊢
  generalize t.ps ++ TM.prs t.ks = l at hM hbp hmany ⊢
  obtain ⟨L, hLl⟩ : ∃ L, l.length = L := ⟨_, rfl⟩
  have hLl' := Lib.hid hLl
  generalize TM.ok1 [] t = okb at hG ⊢
  have hbp' := Lib.hid hbp
  have hmany' := Lib.hid hmany
  unfold TkN at hD
  unfold CtN at hP
  unfold tmv at hD hP hM hG ⊢
  have hmm := @run_makeMap Tryz.prog
  have hL := Lies.made w 28 #[.int .i64 t.k, .int .i64 t.n, .string ⟨t.s.toArray⟩, vp, .int .i64 t.d.k, .int .i64 t.d.n, .string ⟨t.d.s.toArray⟩, vi, vk]
  have hb1 : Below w.heap.size w (w.alloc (.cells #[.int .i64 t.k, .int .i64 t.n, .string ⟨t.s.toArray⟩, vp, .int .i64 t.d.k, .int .i64 t.d.n, .string ⟨t.d.s.toArray⟩, vi, vk] 28)) := (Below.refl _ w).alloc (Nat.le_refl _) _
  clear hH hZ h hB hbp hmany hLl
  by_cases h2 : Z + 1 ≤ 4000
  · by_cases h1 : H + 1 ≤ 200
    · rw [decide_eq_true h1, decide_eq_true h2, Bool.true_and, Bool.true_and]
      obtain ⟨F, hF⟩ : ∃ F, (TM.frs [] l && okb) = F := ⟨_, rfl⟩
      rw [hF]
      have hF' := Lib.hid hF
      clear hF
      go_enter Tryz.func13, Tryz.ntmps13
      go_wp2_with (first
        | (go_at_call 12
           refine (hP.out _ hb1).mono ?_
           rintro e w5 ⟨y5, h50, rfl, hb5⟩
           have hy : y5 ≤ 4000 := by omega
           clear h50
           have hM2 := hL.below hb5 hL.lt
           have hb6 : Below w.heap.size w w5 := hb1.trans (Below.mono hb5 hb1.size)
           have y0 := hM2.cell 0
           have y1 := hM2.cell 1
           have y2 := hM2.cell 2
           have y3 := hM2.cell 3
           have y4 := hM2.cell 4
           have y5 := hM2.cell 5
           have y6 := hM2.cell 6
           have y7 := hM2.cell 7
           have y8 := hM2.cell 8
           simp only [List.getElem?_cons_succ, List.getElem?_cons_zero] at y0 y1 y2 y3 y4 y5 y6 y7 y8
           clear hb5)
        | (go_at_call 25
           refine (hD.out _ hb6).mono ?_
           rintro e w7 ⟨y77, h70, rfl, hb7⟩
           have hy7 : y77 ≤ 200 := by omega
           clear h70
           have hM3 := hM2.below hb7 hM2.lt
           have hb8 : Below w.heap.size w w7 := hb6.trans (Below.mono hb7 hb6.size)
           have hM4 := hM3.alloc (.map #[] 0)
           have z0 := hM4.cell 0
           have z1 := hM4.cell 1
           have z2 := hM4.cell 2
           have z3 := hM4.cell 3
           have z4 := hM4.cell 4
           have z5 := hM4.cell 5
           have z6 := hM4.cell 6
           have z7 := hM4.cell 7
           have z8 := hM4.cell 8
           simp only [List.getElem?_cons_succ, List.getElem?_cons_zero] at z0 z1 z2 z3 z4 z5 z6 z7 z8
           have hI4 : Im (w7.alloc (.map #[] 0)) w7.heap.size 0 (TM.cn []) := by
             rw [show TM.cn [] = fun _ => 0 by funext a; simp [TM.cn]]
             exact Im.made w7
           have hI4' := Lib.hid hI4
           have hb9 := hb8.alloc hb8.size (.map #[] 0)
           have hlt3 := hM3.lt
           clear hb7 hI4)
        | (go_at_call 23
           refine (hM.out _ hb9).mono ?_
           rintro e w9 ⟨v9, rfl, hO9, hb10⟩
           have hM5 := hM4.below hb10 hM4.lt
           have hb11 : Below w.heap.size w w9 := hb9.trans (Below.mono hb10 hb9.size)
           have hI5 := hI4'.out.below hb10
           obtain ⟨A9, c9, e9, -⟩ := hO9.read
           rw [hLl'.out] at e9
           subst e9
           have hqa : ∀ g, (Value.slice A9 L c9).ownBlock = some g → g ≠ w7.heap.size := fun g hg e => by have := (hO9.lt g hg).1; simp at this; omega
           have hqa' := Lib.hid hqa
           have hO9' := Lib.hid hO9
           clear hb10 hqa hO9))
      go_loopw [5] (fun i wr => ∃ (j : Nat), j ≤ L ∧ i = .int .i64 j ∧ Im wr w7.heap.size j (TM.cn (l.take j)) ∧ Hid (TM.frs [] (l.take j) = true) ∧ Own wr 0 (.slice A9 L c9) l ∧ Lies wr w.heap.size 28 [.int .i64 t.k, .int .i64 t.n, .string ⟨t.s.toArray⟩, vp, .int .i64 t.d.k, .int .i64 t.d.n, .string ⟨t.d.s.toArray⟩, vi, vk] ∧ Below w.heap.size w wr) (fun i _ => L - (intOf i).toNat)
      case atStart => exact ⟨0, by omega, rfl, hI5, Lib.hid rfl, hO9'.out.base (Nat.zero_le _), hM5, hb11⟩
      case round =>
        obtain ⟨j, hj, rfl, hI, hfr, hO, hM1, hb⟩ := hrel
        have hwq : w.heap.size < w7.heap.size := hlt3
        have hwq2 := Lib.hid hb8.size
        clear hI5 hM5 hb11 hM4 hb9 hM3 z0 z1 z2 z3 z4 z5 z6 z7 z8 hL hb1 hM2
        by_cases hlt : j < L
        · have hx : l[j]? = some (l[j]'(by rw [hLl'.out]; exact hlt)) := List.getElem?_eq_getElem _
          obtain ⟨x, hxe⟩ : ∃ x, l[j]'(by rw [hLl'.out]; exact hlt) = x := ⟨_, rfl⟩
          rw [hxe] at hx
          have x64 := hbp'.out x (List.mem_of_getElem? hx)
          have hgd : l.getD j 0 = x := by rw [List.getD_eq_getElem?_getD, hx]; rfl
          obtain ⟨g, hAg, -, hglt, p0⟩ := hO.cell (j := j) (by rw [hLl'.out]; exact hlt)
          rw [hgd] at p0
          have hgq : g ≠ w7.heap.size := hqa'.out g (by rw [hAg]; rfl)
          subst hAg
          have hlk := hI.look (t := 50) Tryz.underlying50 x64
          have hmn := hmany'.out
          rw [hLl'.out] at hmn
          cases hct : (l.take j).contains x
          · have hcx : TM.cn (l.take j) x = 0 := by unfold TM.cn; rw [hct]; rfl
            rw [hcx] at hlk
            obtain ⟨w2, hrun, hI3, hT3⟩ := hI.put (t := 50) Tryz.underlying50 (by omega) x64 (k := 1) ⟨by omega, by omega⟩ (by omega)
            rw [hcx, if_pos rfl, TM.cn_snoc hct] at hI3
            have htk : l.take j ++ [x] = l.take (j + 1) := by rw [List.take_add_one, hx]; rfl
            rw [htk] at hI3
            have hlk2 := hI3.look (t := 50) Tryz.underlying50 x64
            have hcx2 : TM.cn (l.take (j + 1)) x = 1 := by rw [← htk]; unfold TM.cn; simp
            rw [hcx2] at hlk2
            have hO3 := hO.turns hT3 (fun g' hg' e => hqa'.out g' hg' e)
            have p2 : w2.cell? ⟨g, j, none⟩ = some (.int .i64 x) := by
              obtain ⟨g', hAg', -, -, p'⟩ := hO3.cell (j := j) (by rw [hLl'.out]; exact hlt)
              rw [hgd] at p'
              simp only [Option.some.injEq, Addr.mk.injEq, and_true] at hAg'
              rw [hAg']; exact p'
            have hM2 := hM1.turns hT3 (by omega)
            have hb2 : Below w.heap.size w w2 := hb.trans (hT3.below hb.size (fun i hi => by have := hwq2.out; omega))
            by_cases h1 : 1 ≤ x
            · have hfr3 := Lib.hid (TM.frs_good hx hfr.out h1 hct)
              have hI3' := Lib.hid hI3
              have hO3' := Lib.hid hO3
              clear hx hxe hgd hI hI3 hO hO3 hT3 hcx hcx2 htk hct hfr hglt
              go_wp2_with fail
              go_roundw
              case rel => exact ⟨j + 1, by omega, by go_num, hI3'.out, hfr3, hO3'.out, hM2, hb2⟩
              case measure => simp [intOf]; omega
            · have hbad := TM.frs_bad hx (.inl (by omega))
              have hFf := hF'.out
              rw [hbad, Bool.false_and] at hFf
              subst hFf
              clear hx hxe hgd hI hI3 hO hO3 hT3 hcx hcx2 htk hct hfr hglt hbad
              go_wp2_with fail
              go_ret
              exact ⟨rfl, hb2⟩
          · have hcx : TM.cn (l.take j) x = 1 := by unfold TM.cn; rw [hct]; rfl
            rw [hcx] at hlk
            obtain ⟨w2, hrun, hI3, hT3⟩ := hI.put (t := 50) Tryz.underlying50 (by omega) x64 (k := 2) ⟨by omega, by omega⟩ (by omega)
            have hlk2 := hI3.look (t := 50) Tryz.underlying50 x64
            have hcx2 : setS (TM.cn (l.take j)) x 2 x = 2 := by simp [setS]
            rw [hcx2] at hlk2
            have hO3 := hO.turns hT3 (fun g' hg' e => hqa'.out g' hg' e)
            have p2 : w2.cell? ⟨g, j, none⟩ = some (.int .i64 x) := by
              obtain ⟨g', hAg', -, -, p'⟩ := hO3.cell (j := j) (by rw [hLl'.out]; exact hlt)
              rw [hgd] at p'
              simp only [Option.some.injEq, Addr.mk.injEq, and_true] at hAg'
              rw [hAg']; exact p'
            have hb2 : Below w.heap.size w w2 := hb.trans (hT3.below hb.size (fun i hi => by have := hwq2.out; omega))
            have hbad := TM.frs_bad hx (.inr hct)
            have hFf := hF'.out
            rw [hbad, Bool.false_and] at hFf
            subst hFf
            by_cases h1 : 1 ≤ x
            all_goals
              clear hx hxe hgd hI hI3 hO hO3 hT3 hcx hcx2 hct hfr hglt hbad
              go_wp2_with fail
              go_ret
              exact ⟨rfl, hb2⟩
        · obtain rfl : j = L := by omega
          have hgood := hfr.out
          rw [show l.take j = l by rw [← hLl'.out]; exact List.take_length] at hgood
          have hFf := hF'.out
          rw [hgood, Bool.true_and] at hFf
          subst hFf
          have y0 := hM1.cell 0
          have y1 := hM1.cell 1
          have y2 := hM1.cell 2
          have y3 := hM1.cell 3
          have y4 := hM1.cell 4
          have y5 := hM1.cell 5
          have y6 := hM1.cell 6
          have y7 := hM1.cell 7
          have y8 := hM1.cell 8
          simp only [List.getElem?_cons_succ, List.getElem?_cons_zero] at y0 y1 y2 y3 y4 y5 y6 y7 y8
          clear hI hfr hO hgood
          go_wp2_with (
            go_at_call 32
            refine (hG.out _ hb).mono ?_
            rintro e w13 ⟨rfl, hb13⟩)
          go_ret
          exact ⟨rfl, hb.trans (Below.mono hb13 hb.size)⟩
    · rw [decide_eq_true h2, decide_eq_false h1, Bool.true_and, Bool.false_and, Bool.false_and]
      go_enter Tryz.func13, Tryz.ntmps13
      go_wp2_with (first
        | (go_at_call 12
           refine (hP.out _ hb1).mono ?_
           rintro e w5 ⟨y5, h50, rfl, hb5⟩
           have hy : y5 ≤ 4000 := by omega
           clear h50
           have hM2 := hL.below hb5 hL.lt
           have hb6 : Below w.heap.size w w5 := hb1.trans (Below.mono hb5 hb1.size)
           have y0 := hM2.cell 0
           have y1 := hM2.cell 1
           have y2 := hM2.cell 2
           have y3 := hM2.cell 3
           have y4 := hM2.cell 4
           have y5 := hM2.cell 5
           have y6 := hM2.cell 6
           have y7 := hM2.cell 7
           have y8 := hM2.cell 8
           simp only [List.getElem?_cons_succ, List.getElem?_cons_zero] at y0 y1 y2 y3 y4 y5 y6 y7 y8
           clear hb5)
        | (go_at_call 25
           refine (hD.out _ hb6).mono ?_
           rintro e w7 ⟨y77, h70, rfl, hb7⟩
           have hy7 : 200 < y77 := by omega
           clear h70
           have hb8 : Below w.heap.size w w7 := hb6.trans (Below.mono hb7 hb6.size)))
      go_ret
      exact ⟨rfl, hb8⟩
  · rw [decide_eq_false h2, Bool.false_and, Bool.false_and, Bool.false_and]
    go_enter Tryz.func13, Tryz.ntmps13
    go_wp2_with (
      go_at_call 12
      refine (hP.out _ hb1).mono ?_
      rintro e w5 ⟨y5, h50, rfl, hb5⟩
      have hy : 4000 < y5 := by omega
      clear h50
      have hb6 : Below w.heap.size w w5 := hb1.trans (Below.mono hb5 hb1.size))
    go_ret
    exact ⟨rfl, hb6⟩
end Go.Proofs.YtpiekdcbjkgipaaGreatDoor
