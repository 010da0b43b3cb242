/- Safety: what the collector does with a task. Plain mathematics. -/
import Derived.Test.YtagedholocgahaaGreatDoorTSafe
namespace Go.Proofs.YtagedholocgahaaGreatDoor

section
variable {M : Md} {A D : Nat → Prop} {R R' : Nat → List Int} {B : Int} {G : Geo} {H : Hp} {z k : Nat} {ws : List Int}

/-- a task's cell goes to the ring k -/
theorem Co.moved (c : Co R M A D) (hb : M.cell z ∈ R 12) (hk : 8 ≤ k ∧ k < 13) (hR : ∀ j x, j < 13 → (x ∈ R' j ↔ (x = M.cell z ∧ j = k) ∨ (x ≠ M.cell z ∧ x ∈ R j))) :
    Co R' M A D ∧ (∀ x, Nw R' x ↔ Nw R x) ∧ (∀ x, Bk R' x → Bk R x ∨ (x = M.cell z ∧ k < 12)) := by
  have hn : ∀ x, Nw R' x ↔ Nw R x := fun x => by
    constructor
    · rintro ⟨j, h8, hj, hx⟩
      rcases (hR j x hj).1 hx with ⟨e, -⟩ | ⟨-, h⟩
      · rw [e]
        exact ⟨12, by omega, by omega, hb⟩
      · exact ⟨j, h8, hj, h⟩
    · rintro ⟨j, h8, hj, hx⟩
      by_cases e : x = M.cell z
      · exact ⟨k, hk.1, hk.2, (hR k x hk.2).2 (.inl ⟨e, rfl⟩)⟩
      · exact ⟨j, h8, hj, (hR j x hj).2 (.inr ⟨e, hx⟩)⟩
  refine ⟨⟨fun i hi => ?_, fun x hx => c.prec x ((hn x).1 hx)⟩, hn, fun x hx => ?_⟩
  · obtain ⟨j, h4, hj, hx⟩ := c.had i hi
    by_cases e : M.cell i = M.cell z
    · exact ⟨k, by omega, hk.2, (hR k _ hk.2).2 (.inl ⟨e, rfl⟩)⟩
    · exact ⟨j, h4, hj, (hR j _ hj).2 (.inr ⟨e, hx⟩)⟩
  · obtain ⟨j, h8, hj, hx⟩ := hx
    rcases (hR j x (by omega)).1 hx with ⟨e, e2⟩ | ⟨-, h⟩
    · exact .inr ⟨e, by omega⟩
    · exact .inl ⟨j, h8, hj, h⟩

/-- a plain thing's fields are shaded -/
theorem safe_shadeUp (i : Inv B G H R) (s : Ct G H.ws M A D) (c : Co R M A D) (hm : H.mrk = true) (hA : A z) (hb : M.cell z ∈ R 12) (hf : M.form z = 1) : ∀ n, n ≤ M.len z →
    Ct G (H.shadeUp G (M.cell z) n).ws M A D ∧ Co (H.shadeUpR G R (M.cell z) n) M A D ∧ (∀ x, Nw R x → Nw (H.shadeUpR G R (M.cell z) n) x) ∧ (∀ x, Bk (H.shadeUpR G R (M.cell z) n) x ↔ Bk R x) ∧
      (∀ j, j < n → ∀ t, M.fld z j = .t t → Nw (H.shadeUpR G R (M.cell z) n) (M.cell t)) ∧ (H.mis = 0 → (H.shadeUp G (M.cell z) n).mis = 0)
  | 0, _ => ⟨s, c, fun _ h => h, fun _ => Iff.rfl, fun j hj => absurd hj (by omega), fun h => h⟩
  | n + 1, hn => by
    obtain ⟨s1, c1, n1, b1, f1, m1⟩ := safe_shadeUp i s c hm hA hb hf n (by omega)
    obtain ⟨i1, -, -, -, r1, -⟩ := inv_shadeUp i hb n
    have ew : gv (H.shadeUp G (M.cell z) n).ws (M.cell z + 3 + n) = (M.fld z n).wd M.cell := s1.flds z hA (by omega) n (by omega)
    obtain ⟨s2, c2, n2, b2, w2⟩ := safe_shade i1 s1 c1 (s1.goodf z hA (by omega) n (by omega)) (s1.closed.plain z hA hf n (by omega))
    obtain ⟨v0, v1, -⟩ := s1.wd i1.ok (s1.goodf z hA (by omega) n (by omega)) (V.Has.mono s1.sub (s1.closed.plain z hA hf n (by omega)))
    obtain ⟨-, -, -, -, -, -, -, g8, -⟩ := shade_facts i1 v0 v1
    rw [Hp.shadeUp, Hp.shadeUpR, ew]
    refine ⟨s2, c2, fun x hx => n2 x (n1 x hx), fun x => (b2 x).trans (b1 x), fun j hj t et => ?_, fun h => ?_⟩
    · by_cases e : j = n
      · subst e
        exact w2 (r1.trans hm) t et
      · exact n2 _ (f1 j (by omega) t et)
    · rw [g8, m1 h]
      split <;> rfl

/-- a grey thing is scanned -/
theorem safe_scan (i : Inv B G H R) (s : Ct G H.ws M A D) (c : Co R M A D) (sn : Snap M A R) (hm : H.mrk = true) (hA : A z) (hb : M.cell z ∈ R 12) (ht : mtask (gv H.ws (M.cell z)) = 1) :
    Ct G (H.scan G (M.cell z) (gv H.ws (M.cell z))).ws M A D ∧ Co (H.scanR G R (M.cell z)) M A D ∧ Snap M A (H.scanR G R (M.cell z)) ∧ (H.scan G (M.cell z) (gv H.ws (M.cell z))).mrk = true ∧
      (H.mis = 0 → (H.scan G (M.cell z) (gv H.ws (M.cell z))).mis = 0) ∧ (∀ t, A t → M.form t = 3 → Bk (H.scanR G R (M.cell z)) (M.cell t) → Bk R (M.cell t)) := by
  have hd' := (inv_scan i hb ht).2
  obtain ⟨e1, e2⟩ := s.mark z hA
  have hC := G.cls_lt (M.cell z)
  refine ⟨s.dat i.ok hd', ?_⟩
  rcases (s.kind z hA).1 with hf | hf | hf
  · have n3 : ¬ mform (gv H.ws (M.cell z)) = 3 := by omega
    have n1 : mform (gv H.ws (M.cell z)) = 1 := by omega
    rw [Hp.scan, if_neg n3, if_pos n1, Hp.scanR, if_neg n3, if_pos n1, e2, Int.toNat_natCast]
    clear n3 n1
    obtain ⟨s1, c1, n1, b1, f1, m1⟩ := safe_shadeUp i s c hm hA hb hf (M.len z) (by omega)
    obtain ⟨i1, -, hb1, -, r1, -⟩ := inv_shadeUp i hb (M.len z)
    obtain ⟨c2, n2, b2⟩ := c1.moved (R' := mvR (H.shadeUpR G R (M.cell z) (M.len z)) 12 (8 + G.cls (M.cell z)) (M.cell z)) hb1 (k := 8 + G.cls (M.cell z)) (by omega) (fun j x hj => mem_mvR i1.rg (by omega) hb1 (by omega) hj)
    refine ⟨c2, sn.black z (fun t ta h => (n2 _).2 (n1 _ h)) (fun t ta h => ?_) (fun _ j hj t et => ⟨?_, (n2 _).2 (f1 j hj t et)⟩) (fun h => by omega), r1.trans hm, m1, fun t ta tf h => ?_⟩
    · rcases b2 _ h with h | ⟨h, -⟩
      · exact .inl ((b1 _).1 h)
      · exact .inr (s.inj t z (s.sub t ta) (s.sub z hA) h)
    · have := s.closed.plain z hA hf j hj
      rw [et] at this
      exact this
    · rcases b2 _ h with h | ⟨h, -⟩
      · exact (b1 _).1 h
      · have := s.inj t z (s.sub t ta) (s.sub z hA) h
        subst this
        omega
  · have n3 : ¬ mform (gv H.ws (M.cell z)) = 3 := by omega
    have n1 : ¬ mform (gv H.ws (M.cell z)) = 1 := by omega
    rw [Hp.scan, if_neg n3, if_neg n1, if_pos (by omega), Hp.scanR, if_neg n3, if_neg n1]
    clear n3 n1
    obtain ⟨c2, n2, b2⟩ := c.moved (R' := mvR R 12 (8 + G.cls (M.cell z)) (M.cell z)) hb (k := 8 + G.cls (M.cell z)) (by omega) (fun j x hj => mem_mvR i.rg (by omega) hb (by omega) hj)
    refine ⟨c2, sn.black z (fun t ta h => (n2 _).2 h) (fun t ta h => ?_) (fun h => by omega) (fun h => by omega), hm, fun h => h, fun t ta tf h => ?_⟩
    · rcases b2 _ h with h | ⟨h, -⟩
      · exact .inl h
      · exact .inr (s.inj t z (s.sub t ta) (s.sub z hA) h)
    · rcases b2 _ h with h | ⟨h, -⟩
      · exact h
      · have := s.inj t z (s.sub t ta) (s.sub z hA) h
        subst this
        omega
  · have n3 : mform (gv H.ws (M.cell z)) = 3 := by omega
    rw [Hp.scan, if_pos n3, Hp.scanR, if_pos n3]
    obtain ⟨c2, n2, b2⟩ := c.moved (R' := mvL R 12 12 (M.cell z)) hb (k := 12) (by omega) (fun j x hj => mem_mvL i.rg (by omega) hb (by omega) hj)
    exact ⟨c2, sn.more (fun t ta h => (n2 _).2 h) (fun t ta h => (b2 _ h).elim (fun h => h) (fun h => by omega)), hm, fun h => h, fun t _ _ h => (b2 _ h).elim (fun h => h) (fun h => by omega)⟩

/-- What is known of those that wait. -/
structure Mw (G : Geo) (H : Hp) (R : Nat → List Int) : Prop where
  grey : ∀ x, x ∈ R 12 → mtask (gv H.ws x) = 1 → H.mis = 0
  lost : ∀ l1 l2, R 12 = l1 ++ l2 → (l2.length : Int) ≤ H.mis → ∀ x, x ∈ l2 → H.namesWhite G (gv H.ws (x + 3)) = true
theorem Mw.zero (h : H.mis = 0) : Mw G H R :=
  ⟨fun _ _ _ => h, fun l1 l2 _ hl x hx => by
    have e : l2 = [] := List.eq_nil_of_length_eq_zero (by omega)
    rw [e] at hx
    simp at hx⟩
theorem Mw.none (h : R 12 = []) : Mw G H R :=
  ⟨fun x hx => by rw [h] at hx; simp at hx, fun l1 l2 e hl x hx => by
    rw [h] at e
    have := List.append_eq_nil_iff.1 e.symm
    rw [this.2] at hx
    simp at hx⟩

/-- a white thing's cell names a thing that isn't in the rings of the others -/
theorem Ct.white_key (s : Ct G H.ws M A D) (i : Inv B G H R) {v : V} (hv : v.ok) (hD : v.Has D) (h : H.namesWhite G (v.wd M.cell) = true) : ∃ t, v = .t t ∧ D t ∧ ¬ Nw R (M.cell t) ∧ H.isWhite (gv H.ws (M.cell t)) = true := by
  obtain ⟨-, -, ⟨x, -, e⟩ | ⟨t, e, hd, e2⟩⟩ := s.wd i.ok hv hD
  · unfold Hp.namesWhite at h
    rw [e] at h
    simp at h
  · unfold Hp.namesWhite at h
    rw [e2] at h
    have hw : H.isWhite (gv H.ws (M.cell t)) = true := by simpa using h
    refine ⟨t, e, hd, fun ⟨k, h8, hk, hx⟩ => ?_, hw⟩
    rw [i.not_white hk hx (.inr h8)] at hw
    cases hw
theorem Ct.black_key (s : Ct G H.ws M A D) (c : Co R M A D) (i : Inv B G H R) {v : V} (hv : v.ok) (hD : v.Has D) (h : H.namesWhite G (v.wd M.cell) = false) : v.Has A := by
  obtain ⟨-, -, ⟨x, e, -⟩ | ⟨t, e, hd, e2⟩⟩ := s.wd i.ok hv hD
  · rw [e]
    trivial
  · unfold Hp.namesWhite at h
    rw [e2] at h
    have hw : H.isWhite (gv H.ws (M.cell t)) = false := by simpa using h
    obtain ⟨k, h4, hk, hx⟩ := c.had t hd
    have h8 : 8 ≤ k := by
      by_cases h8 : 8 ≤ k
      · exact h8
      · rw [i.white_of h4 (by omega) hx] at hw
        cases hw
    obtain ⟨t', ha, e'⟩ := c.prec _ ⟨k, h8, hk, hx⟩
    rw [e, s.inj t t' hd (s.sub t' ha) e'.symm]
    exact ha
end
end Go.Proofs.YtagedholocgahaaGreatDoor
