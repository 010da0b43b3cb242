/- Safety, over a plain model of things: what is reached from the registers stays had. Plain mathematics: the invariant, and shading. -/
import Derived.Test.YtclcnepkgjcmcaaDoorQ12
namespace Go.Proofs.YtclcnepkgjcmcaaDoor

/-- what a field or a register is: a word that names no cell, or a thing -/
inductive V where
  | w (x : Int)
  | t (i : Nat)
def V.wd (cell : Nat → Int) : V → Int
  | .w x => x
  | .t i => 8 * cell i + 1
def V.Has (A : Nat → Prop) : V → Prop
  | .w _ => True
  | .t i => A i
def V.ok : V → Prop
  | .w x => 0 ≤ x ∧ x < 18446744073709551616 ∧ WM.kd x ≠ 2
  | .t _ => True
theorem V.Has.mono {A D : Nat → Prop} (h : ∀ i, A i → D i) : ∀ {v : V}, v.Has A → v.Has D
  | .w _, _ => trivial
  | .t i, k => h i k

/-- The things that were made, and the registers. -/
structure Md where
  form : Nat → Int
  len : Nat → Nat
  fld : Nat → Nat → V
  cell : Nat → Int
  reg : Nat → V
/-- the registers' things, the fields of plain ones, and the things of weak ones whose keys are in A, are in A -/
structure Closed (M : Md) (A : Nat → Prop) : Prop where
  reg : ∀ r, r < 8 → (M.reg r).Has A
  plain : ∀ i, A i → M.form i = 1 → ∀ j, j < M.len i → (M.fld i j).Has A
  weak : ∀ i, A i → M.form i = 3 → (M.fld i 0).Has A → (M.fld i 1).Has A

/-- What the heap's words are to the things: A those that may be reached, D those whose cells nobody else has got. -/
structure Ct (G : Geo) (ws : List Int) (M : Md) (A D : Nat → Prop) : Prop where
  place : ∀ i, D i → G.C (M.cell i)
  inj : ∀ i j, D i → D j → M.cell i = M.cell j → i = j
  sub : ∀ i, A i → D i
  kind : ∀ i, A i → (M.form i = 1 ∨ M.form i = 2 ∨ M.form i = 3) ∧ (M.form i = 3 → M.len i = 2)
  mark : ∀ i, A i → mform (gv ws (M.cell i)) = M.form i ∧ msize (gv ws (M.cell i)) = M.len i
  room : ∀ i, A i → (M.len i : Int) + 3 ≤ ln (G.cls (M.cell i))
  flds : ∀ i, A i → M.form i ≠ 3 → ∀ j : Nat, j < M.len i → gv ws (M.cell i + 3 + j) = (M.fld i j).wd M.cell
  weak : ∀ i, A i → M.form i = 3 → (gv ws (M.cell i + 3) = (M.fld i 0).wd M.cell ∧ gv ws (M.cell i + 4) = (M.fld i 1).wd M.cell ∧ (M.fld i 0).Has D) ∨
    (gv ws (M.cell i + 3) = 3 ∧ gv ws (M.cell i + 4) = 3 ∧ ¬ (M.fld i 0).Has A)
  regs : ∀ r : Nat, r < 8 → gv ws r = (M.reg r).wd M.cell
  rest : ∀ r : Int, 8 ≤ r → r < 12 → gv ws r = 12
  goodf : ∀ i, A i → M.form i ≠ 2 → ∀ j, j < M.len i → (M.fld i j).ok
  goodr : ∀ r, r < 8 → (M.reg r).ok
  closed : Closed M A

/-- in a ring of those that aren't white, of the black, had -/
def Nw (R : Nat → List Int) (x : Int) : Prop := ∃ k, 8 ≤ k ∧ k < 13 ∧ x ∈ R k
def Bk (R : Nat → List Int) (x : Int) : Prop := ∃ k, 8 ≤ k ∧ k < 12 ∧ x ∈ R k
def Hd (R : Nat → List Int) (x : Int) : Prop := ∃ k, 4 ≤ k ∧ k < 13 ∧ x ∈ R k
theorem Bk.nw {R : Nat → List Int} {x : Int} : Bk R x → Nw R x
  | ⟨k, h8, h12, hx⟩ => ⟨k, h8, by omega, hx⟩
theorem Nw.hd {R : Nat → List Int} {x : Int} : Nw R x → Hd R x
  | ⟨k, h8, h12, hx⟩ => ⟨k, by omega, h12, hx⟩

/-- Whatever holds all that isn't white, and the fields of what isn't black, holds all of A. -/
def Snap (M : Md) (A : Nat → Prop) (R : Nat → List Int) : Prop :=
  ∀ C : Nat → Prop, (∀ i, C i → A i) → (∀ i, A i → Nw R (M.cell i) → C i) →
    (∀ i, C i → ¬ Bk R (M.cell i) → M.form i = 1 → ∀ j, j < M.len i → (M.fld i j).Has C) →
    (∀ i, C i → ¬ Bk R (M.cell i) → M.form i = 3 → (M.fld i 0).Has C → (M.fld i 1).Has C) → ∀ i, A i → C i

/-- The colours. -/
structure Co (R : Nat → List Int) (M : Md) (A D : Nat → Prop) : Prop where
  had : ∀ i, D i → Hd R (M.cell i)
  prec : ∀ x, Nw R x → ∃ i, A i ∧ M.cell i = x

section
variable {M : Md} {A D : Nat → Prop} {R R' : Nat → List Int} {G : Geo} {ws ws' : List Int}

theorem Snap.more (s : Snap M A R) (hn : ∀ i, A i → Nw R (M.cell i) → Nw R' (M.cell i)) (hb : ∀ i, A i → Bk R' (M.cell i) → Bk R (M.cell i)) : Snap M A R' :=
  fun C h1 h2 h3 h4 => s C h1 (fun i ha hw => h2 i ha (hn i ha hw)) (fun i hc hk => h3 i hc (fun h => hk (hb i (h1 i hc) h))) (fun i hc hk => h4 i hc (fun h => hk (hb i (h1 i hc) h)))
/-- the thing z has become black: its fields aren't white, or it is a weak one whose key isn't in A -/
theorem Snap.black (s : Snap M A R) (z : Nat) (hn : ∀ i, A i → Nw R (M.cell i) → Nw R' (M.cell i)) (hb : ∀ i, A i → Bk R' (M.cell i) → Bk R (M.cell i) ∨ i = z)
    (h1 : M.form z = 1 → ∀ j, j < M.len z → ∀ t, M.fld z j = .t t → A t ∧ Nw R' (M.cell t))
    (h3 : M.form z = 3 → ¬ (M.fld z 0).Has A ∨ ∀ t, M.fld z 1 = .t t → A t ∧ Nw R' (M.cell t)) : Snap M A R' := by
  intro C c1 c2 c3 c4
  refine s C c1 (fun i ha hw => c2 i ha (hn i ha hw)) (fun i hc hk hf j hj => ?_) (fun i hc hk hf h0 => ?_)
  · by_cases e : i = z
    · subst e
      cases ev : M.fld i j with
      | w x => trivial
      | t t =>
        obtain ⟨a, b⟩ := h1 hf j hj t ev
        exact c2 t a b
    · exact c3 i hc (fun h => (hb i (c1 i hc) h).elim hk e) hf j hj
  · by_cases e : i = z
    · subst e
      rcases h3 hf with h | h
      · exact absurd (V.Has.mono c1 h0) h
      · cases ev : M.fld i 1 with
        | w x => trivial
        | t t =>
          obtain ⟨a, b⟩ := h t ev
          exact c2 t a b
    · exact c4 i hc (fun h => (hb i (c1 i hc) h).elim hk e) hf h0

/-- no task is left: all of A is black -/
theorem Snap.done (s : Snap M A R) (h12 : R 12 = []) : ∀ i, A i → Bk R (M.cell i) := by
  have nb : ∀ x, Nw R x → Bk R x := fun x ⟨k, h8, hk, hx⟩ => by
    by_cases e : k = 12
    · rw [e, h12] at hx
      simp at hx
    · exact ⟨k, h8, by omega, hx⟩
  have := s (fun i => A i ∧ Bk R (M.cell i)) (fun i h => h.1) (fun i ha hw => ⟨ha, nb _ hw⟩) (fun i hc hk => absurd hc.2 hk) (fun i hc hk => absurd hc.2 hk)
  exact fun i ha => (this i ha).2
/-- none is grey, and the keys of all that wait are white: no thing of A is such a key -/
theorem Snap.lost (s : Snap M A R) (h : ∀ i, A i → M.cell i ∈ R 12 → M.form i = 3 ∧ ∃ t, M.fld i 0 = .t t ∧ ¬ Nw R (M.cell t)) : ∀ i, A i → Nw R (M.cell i) := by
  have T : ∀ i, A i → Nw R (M.cell i) → ¬ Bk R (M.cell i) → M.cell i ∈ R 12 := fun i _ ⟨k, h8, hk, hx⟩ hb => by
    by_cases e : k = 12
    · rw [← e]
      exact hx
    · exact absurd ⟨k, h8, by omega, hx⟩ hb
  have := s (fun i => A i ∧ Nw R (M.cell i)) (fun i h => h.1) (fun i ha hw => ⟨ha, hw⟩) (fun i hc hk hf j hj => by
      have := (h i hc.1 (T i hc.1 hc.2 hk)).1
      omega) (fun i hc hk hf h0 => by
      obtain ⟨-, t, et, hn⟩ := h i hc.1 (T i hc.1 hc.2 hk)
      rw [et] at h0
      exact absurd h0.2 hn)
  exact fun i ha => (this i ha).2

/-- what is neither fields nor registers has turned -/
theorem Ct.dat (s : Ct G ws M A D) (g : G.ok) (d : Dat G ws ws') : Ct G ws' M A D := by
  have P : ∀ i, A i → ∀ j : Int, 0 ≤ j → j < M.len i → gv ws' (M.cell i + 3 + j) = gv ws (M.cell i + 3 + j) := fun i ha j j0 j1 =>
    d.dat _ (Geo.ok.field g (s.place i (s.sub i ha)) j0 (by have := s.room i ha; omega))
  refine ⟨s.place, s.inj, s.sub, s.kind, fun i ha => ?_, s.room, fun i ha hf j hj => ?_, fun i ha hf => ?_, fun r hr => ?_, fun r r8 r12 => ?_, s.goodf, s.goodr, s.closed⟩
  · obtain ⟨e1, -, e2⟩ := form_shp (d.shp _ (s.place i (s.sub i ha)))
    rw [e1, e2]
    exact s.mark i ha
  · rw [P i ha j (by omega) (by omega)]
    exact s.flds i ha hf j hj
  · have hl := (s.kind i ha).2 hf
    have e0 := P i ha 0 (by omega) (by omega)
    have e1 := P i ha 1 (by omega) (by omega)
    rw [show M.cell i + 3 + 0 = M.cell i + 3 by omega] at e0
    rw [show M.cell i + 3 + 1 = M.cell i + 4 by omega] at e1
    rw [e0, e1]
    exact s.weak i ha hf
  · rw [d.dat _ (g.register (by omega) (by omega))]
    exact s.regs r hr
  · rw [d.dat _ (g.register (by omega) (by omega))]
    exact s.rest r r8 r12

theorem Ct.weak_dat (s : Ct G ws M A D) (g : G.ok) (d : Dat G ws ws') {i : Nat} (ha : A i) (hf : M.form i = 3) : gv ws' (M.cell i + 3) = gv ws (M.cell i + 3) ∧ gv ws' (M.cell i + 4) = gv ws (M.cell i + 4) := by
  have hl := (s.kind i ha).2 hf
  have hr := s.room i ha
  have a := Geo.ok.field g (s.place i (s.sub i ha)) (i := 0) (by omega) (by omega)
  have b := Geo.ok.field g (s.place i (s.sub i ha)) (i := 1) (by omega) (by omega)
  rw [show M.cell i + 3 + 0 = M.cell i + 3 by omega] at a
  rw [show M.cell i + 3 + 1 = M.cell i + 4 by omega] at b
  exact ⟨d.dat _ a, d.dat _ b⟩
/-- black weak things are broken, or their keys are in A -/
def Kw (M : Md) (A : Nat → Prop) (R : Nat → List Int) (ws : List Int) : Prop :=
  ∀ i, A i → M.form i = 3 → Bk R (M.cell i) → (M.fld i 0).Has A ∨ (gv ws (M.cell i + 3) = 3 ∧ gv ws (M.cell i + 4) = 3)
theorem Kw.dat (kw : Kw M A R ws) (s : Ct G ws M A D) (g : G.ok) (d : Dat G ws ws') (h : ∀ i, A i → M.form i = 3 → Bk R' (M.cell i) → Bk R (M.cell i)) : Kw M A R' ws' := fun i ha hf hb => by
  obtain ⟨a, b⟩ := s.weak_dat g d ha hf
  rw [a, b]
  exact kw i ha hf (h i ha hf hb)

theorem Ct.wd (s : Ct G ws M A D) (g : G.ok) {v : V} (hv : v.ok) (hA : v.Has D) : 0 ≤ v.wd M.cell ∧ v.wd M.cell < 18446744073709551616 ∧
    ((∃ x, v = .w x ∧ (G.plc (v.wd M.cell)).2 = false) ∨ ∃ t, v = .t t ∧ D t ∧ G.plc (v.wd M.cell) = (M.cell t, true)) := by
  cases v with
  | w x => exact ⟨hv.1, hv.2.1, .inl ⟨x, rfl, plc_kd hv.2.2⟩⟩
  | t t =>
    have hC := s.place t hA
    have hx := Geo.extent g hC
    have hl := ln_lo (G.cls (M.cell t))
    have := g.lines
    refine ⟨?_, ?_, .inr ⟨t, rfl, hA, plc_of_cell g hC⟩⟩
    · simp only [V.wd]
      omega
    · simp only [V.wd]
      omega
end

section
variable {M : Md} {A D : Nat → Prop} {R : Nat → List Int} {B : Int} {G : Geo} {H : Hp}
/-- what is reached is shaded -/
theorem safe_shade (i : Inv B G H R) (s : Ct G H.ws M A D) (c : Co R M A D) {v : V} (hv : v.ok) (hA : v.Has A) :
    Ct G (H.shade G (v.wd M.cell)).ws M A D ∧ Co (H.shadeR G R (v.wd M.cell)) M A D ∧
      (∀ x, Nw R x → Nw (H.shadeR G R (v.wd M.cell)) x) ∧ (∀ x, Bk (H.shadeR G R (v.wd M.cell)) x ↔ Bk R x) ∧
      (H.mrk = true → ∀ t, v = .t t → Nw (H.shadeR G R (v.wd M.cell)) (M.cell t)) := by
  obtain ⟨v0, v1, hp⟩ := s.wd i.ok hv (V.Has.mono s.sub hA)
  obtain ⟨i1, d1, -⟩ := inv_shade i v0 v1
  obtain ⟨f1, f2, f3, f4, f5, f6, f7, f8, f9⟩ := shade_facts i v0 v1
  have hn : ∀ x, Nw R x → Nw (H.shadeR G R (v.wd M.cell)) x := fun x ⟨k, h8, hk, hx⟩ => ⟨k, h8, hk, (shade_task i v0 v1 h8 hk hx).1⟩
  have hb : ∀ x, Bk (H.shadeR G R (v.wd M.cell)) x ↔ Bk R x := fun x => by
    constructor
    · rintro ⟨k, h8, hk, hx⟩
      rcases (f1 k x (by omega)).1 hx with ⟨-, -, e⟩ | ⟨-, h⟩
      · omega
      · exact ⟨k, h8, hk, h⟩
    · rintro ⟨k, h8, hk, hx⟩
      exact ⟨k, h8, hk, (shade_task i v0 v1 h8 (by omega) hx).1⟩
  have hw : H.mrk = true → ∀ t, v = .t t → Nw (H.shadeR G R (v.wd M.cell)) (M.cell t) := fun hm t e => by
    subst e
    rcases hp with ⟨x, e, -⟩ | ⟨t', e, hD, e2⟩
    · cases e
    · cases e
      by_cases hsh : H.shaded G ((V.t t).wd M.cell) = true
      · refine ⟨12, by omega, by omega, (f1 12 _ (by omega)).2 (.inl ⟨hsh, ?_, rfl⟩)⟩
        rw [e2]
      · obtain ⟨k, h4, hk, hx⟩ := c.had t hD
        by_cases h8 : 8 ≤ k
        · exact hn _ ⟨k, h8, hk, hx⟩
        · exfalso
          apply hsh
          unfold Hp.shaded
          rw [e2]
          simp only
          rw [hm, i.white_of h4 (by omega) hx]
          rfl
  refine ⟨s.dat i.ok d1, ⟨fun t ht => ?_, fun x ⟨k, h8, hk, hx⟩ => ?_⟩, hn, hb, hw⟩
  · obtain ⟨k, h4, hk, hx⟩ := c.had t ht
    by_cases e : H.shaded G (v.wd M.cell) = true ∧ M.cell t = (G.plc (v.wd M.cell)).1
    · exact ⟨12, by omega, by omega, (f1 12 _ (by omega)).2 (.inl ⟨e.1, e.2, rfl⟩)⟩
    · exact ⟨k, h4, hk, (f1 k _ hk).2 (.inr ⟨e, hx⟩)⟩
  · rcases (f1 k x hk).1 hx with ⟨hs, e, -⟩ | ⟨-, h⟩
    · rcases hp with ⟨y, -, e3⟩ | ⟨t, e3, hD, e2⟩
      · have := hs
        unfold Hp.shaded at this
        rw [e3] at this
        simp at this
      · subst e3
        exact ⟨t, hA, by rw [e, e2]⟩
    · exact c.prec x ⟨k, h8, hk, h⟩
end
end Go.Proofs.YtclcnepkgjcmcaaDoor

/- Safety: what the collector does with a task. Plain mathematics. -/
namespace Go.Proofs.YtclcnepkgjcmcaaDoor

section
variable {M : Md} {A D : Nat → Prop} {R R' : Nat → List Int} {B : Int} {G : Geo} {H : Hp} {z k : Nat} {ws : List Int}

/-- a task's cell goes to the ring k -/
theorem Co.moved (c : Co R M A D) (hb : M.cell z ∈ R 12) (hk : 8 ≤ k ∧ k < 13) (hR : ∀ j x, j < 13 → (x ∈ R' j ↔ (x = M.cell z ∧ j = k) ∨ (x ≠ M.cell z ∧ x ∈ R j))) :
    Co R' M A D ∧ (∀ x, Nw R' x ↔ Nw R x) ∧ (∀ x, Bk R' x → Bk R x ∨ (x = M.cell z ∧ k < 12)) := by
  have hn : ∀ x, Nw R' x ↔ Nw R x := fun x => by
    constructor
    · rintro ⟨j, h8, hj, hx⟩
      rcases (hR j x hj).1 hx with ⟨e, -⟩ | ⟨-, h⟩
      · rw [e]
        exact ⟨12, by omega, by omega, hb⟩
      · exact ⟨j, h8, hj, h⟩
    · rintro ⟨j, h8, hj, hx⟩
      by_cases e : x = M.cell z
      · exact ⟨k, hk.1, hk.2, (hR k x hk.2).2 (.inl ⟨e, rfl⟩)⟩
      · exact ⟨j, h8, hj, (hR j x hj).2 (.inr ⟨e, hx⟩)⟩
  refine ⟨⟨fun i hi => ?_, fun x hx => c.prec x ((hn x).1 hx)⟩, hn, fun x hx => ?_⟩
  · obtain ⟨j, h4, hj, hx⟩ := c.had i hi
    by_cases e : M.cell i = M.cell z
    · exact ⟨k, by omega, hk.2, (hR k _ hk.2).2 (.inl ⟨e, rfl⟩)⟩
    · exact ⟨j, h4, hj, (hR j _ hj).2 (.inr ⟨e, hx⟩)⟩
  · obtain ⟨j, h8, hj, hx⟩ := hx
    rcases (hR j x (by omega)).1 hx with ⟨e, e2⟩ | ⟨-, h⟩
    · exact .inr ⟨e, by omega⟩
    · exact .inl ⟨j, h8, hj, h⟩

/-- a plain thing's fields are shaded -/
theorem safe_shadeUp (i : Inv B G H R) (s : Ct G H.ws M A D) (c : Co R M A D) (hm : H.mrk = true) (hA : A z) (hb : M.cell z ∈ R 12) (hf : M.form z = 1) : ∀ n, n ≤ M.len z →
    Ct G (H.shadeUp G (M.cell z) n).ws M A D ∧ Co (H.shadeUpR G R (M.cell z) n) M A D ∧ (∀ x, Nw R x → Nw (H.shadeUpR G R (M.cell z) n) x) ∧ (∀ x, Bk (H.shadeUpR G R (M.cell z) n) x ↔ Bk R x) ∧
      (∀ j, j < n → ∀ t, M.fld z j = .t t → Nw (H.shadeUpR G R (M.cell z) n) (M.cell t)) ∧ (H.mis = 0 → (H.shadeUp G (M.cell z) n).mis = 0)
  | 0, _ => ⟨s, c, fun _ h => h, fun _ => Iff.rfl, fun j hj => absurd hj (by omega), fun h => h⟩
  | n + 1, hn => by
    obtain ⟨s1, c1, n1, b1, f1, m1⟩ := safe_shadeUp i s c hm hA hb hf n (by omega)
    obtain ⟨i1, -, -, -, r1, -⟩ := inv_shadeUp i hb n
    have ew : gv (H.shadeUp G (M.cell z) n).ws (M.cell z + 3 + n) = (M.fld z n).wd M.cell := s1.flds z hA (by omega) n (by omega)
    obtain ⟨s2, c2, n2, b2, w2⟩ := safe_shade i1 s1 c1 (s1.goodf z hA (by omega) n (by omega)) (s1.closed.plain z hA hf n (by omega))
    obtain ⟨v0, v1, -⟩ := s1.wd i1.ok (s1.goodf z hA (by omega) n (by omega)) (V.Has.mono s1.sub (s1.closed.plain z hA hf n (by omega)))
    obtain ⟨-, -, -, -, -, -, -, g8, -⟩ := shade_facts i1 v0 v1
    rw [Hp.shadeUp, Hp.shadeUpR, ew]
    refine ⟨s2, c2, fun x hx => n2 x (n1 x hx), fun x => (b2 x).trans (b1 x), fun j hj t et => ?_, fun h => ?_⟩
    · by_cases e : j = n
      · subst e
        exact w2 (r1.trans hm) t et
      · exact n2 _ (f1 j (by omega) t et)
    · rw [g8, m1 h]
      split <;> rfl

/-- a grey thing is scanned -/
theorem safe_scan (i : Inv B G H R) (s : Ct G H.ws M A D) (c : Co R M A D) (sn : Snap M A R) (hm : H.mrk = true) (hA : A z) (hb : M.cell z ∈ R 12) (ht : mtask (gv H.ws (M.cell z)) = 1) :
    Ct G (H.scan G (M.cell z) (gv H.ws (M.cell z))).ws M A D ∧ Co (H.scanR G R (M.cell z)) M A D ∧ Snap M A (H.scanR G R (M.cell z)) ∧ (H.scan G (M.cell z) (gv H.ws (M.cell z))).mrk = true ∧
      (H.mis = 0 → (H.scan G (M.cell z) (gv H.ws (M.cell z))).mis = 0) ∧ (∀ t, A t → M.form t = 3 → Bk (H.scanR G R (M.cell z)) (M.cell t) → Bk R (M.cell t)) := by
  have hd' := (inv_scan i hb ht).2
  obtain ⟨e1, e2⟩ := s.mark z hA
  have hC := G.cls_lt (M.cell z)
  refine ⟨s.dat i.ok hd', ?_⟩
  rcases (s.kind z hA).1 with hf | hf | hf
  · have n3 : ¬ mform (gv H.ws (M.cell z)) = 3 := by omega
    have n1 : mform (gv H.ws (M.cell z)) = 1 := by omega
    rw [Hp.scan, if_neg n3, if_pos n1, Hp.scanR, if_neg n3, if_pos n1, e2, Int.toNat_natCast]
    clear n3 n1
    obtain ⟨s1, c1, n1, b1, f1, m1⟩ := safe_shadeUp i s c hm hA hb hf (M.len z) (by omega)
    obtain ⟨i1, -, hb1, -, r1, -⟩ := inv_shadeUp i hb (M.len z)
    obtain ⟨c2, n2, b2⟩ := c1.moved (R' := mvR (H.shadeUpR G R (M.cell z) (M.len z)) 12 (8 + G.cls (M.cell z)) (M.cell z)) hb1 (k := 8 + G.cls (M.cell z)) (by omega) (fun j x hj => mem_mvR i1.rg (by omega) hb1 (by omega) hj)
    refine ⟨c2, sn.black z (fun t ta h => (n2 _).2 (n1 _ h)) (fun t ta h => ?_) (fun _ j hj t et => ⟨?_, (n2 _).2 (f1 j hj t et)⟩) (fun h => by omega), r1.trans hm, m1, fun t ta tf h => ?_⟩
    · rcases b2 _ h with h | ⟨h, -⟩
      · exact .inl ((b1 _).1 h)
      · exact .inr (s.inj t z (s.sub t ta) (s.sub z hA) h)
    · have := s.closed.plain z hA hf j hj
      rw [et] at this
      exact this
    · rcases b2 _ h with h | ⟨h, -⟩
      · exact (b1 _).1 h
      · have := s.inj t z (s.sub t ta) (s.sub z hA) h
        subst this
        omega
  · have n3 : ¬ mform (gv H.ws (M.cell z)) = 3 := by omega
    have n1 : ¬ mform (gv H.ws (M.cell z)) = 1 := by omega
    rw [Hp.scan, if_neg n3, if_neg n1, if_pos (by omega), Hp.scanR, if_neg n3, if_neg n1]
    clear n3 n1
    obtain ⟨c2, n2, b2⟩ := c.moved (R' := mvR R 12 (8 + G.cls (M.cell z)) (M.cell z)) hb (k := 8 + G.cls (M.cell z)) (by omega) (fun j x hj => mem_mvR i.rg (by omega) hb (by omega) hj)
    refine ⟨c2, sn.black z (fun t ta h => (n2 _).2 h) (fun t ta h => ?_) (fun h => by omega) (fun h => by omega), hm, fun h => h, fun t ta tf h => ?_⟩
    · rcases b2 _ h with h | ⟨h, -⟩
      · exact .inl h
      · exact .inr (s.inj t z (s.sub t ta) (s.sub z hA) h)
    · rcases b2 _ h with h | ⟨h, -⟩
      · exact h
      · have := s.inj t z (s.sub t ta) (s.sub z hA) h
        subst this
        omega
  · have n3 : mform (gv H.ws (M.cell z)) = 3 := by omega
    rw [Hp.scan, if_pos n3, Hp.scanR, if_pos n3]
    obtain ⟨c2, n2, b2⟩ := c.moved (R' := mvL R 12 12 (M.cell z)) hb (k := 12) (by omega) (fun j x hj => mem_mvL i.rg (by omega) hb (by omega) hj)
    exact ⟨c2, sn.more (fun t ta h => (n2 _).2 h) (fun t ta h => (b2 _ h).elim (fun h => h) (fun h => by omega)), hm, fun h => h, fun t _ _ h => (b2 _ h).elim (fun h => h) (fun h => by omega)⟩

/-- What is known of those that wait. -/
structure Mw (G : Geo) (H : Hp) (R : Nat → List Int) : Prop where
  grey : ∀ x, x ∈ R 12 → mtask (gv H.ws x) = 1 → H.mis = 0
  lost : ∀ l1 l2, R 12 = l1 ++ l2 → (l2.length : Int) ≤ H.mis → ∀ x, x ∈ l2 → H.namesWhite G (gv H.ws (x + 3)) = true
theorem Mw.zero (h : H.mis = 0) : Mw G H R :=
  ⟨fun _ _ _ => h, fun l1 l2 _ hl x hx => by
    have e : l2 = [] := List.eq_nil_of_length_eq_zero (by omega)
    rw [e] at hx
    simp at hx⟩
theorem Mw.none (h : R 12 = []) : Mw G H R :=
  ⟨fun x hx => by rw [h] at hx; simp at hx, fun l1 l2 e hl x hx => by
    rw [h] at e
    have := List.append_eq_nil_iff.1 e.symm
    rw [this.2] at hx
    simp at hx⟩

/-- a white thing's cell names a thing that isn't in the rings of the others -/
theorem Ct.white_key (s : Ct G H.ws M A D) (i : Inv B G H R) {v : V} (hv : v.ok) (hD : v.Has D) (h : H.namesWhite G (v.wd M.cell) = true) : ∃ t, v = .t t ∧ D t ∧ ¬ Nw R (M.cell t) ∧ H.isWhite (gv H.ws (M.cell t)) = true := by
  obtain ⟨-, -, ⟨x, -, e⟩ | ⟨t, e, hd, e2⟩⟩ := s.wd i.ok hv hD
  · unfold Hp.namesWhite at h
    rw [e] at h
    simp at h
  · unfold Hp.namesWhite at h
    rw [e2] at h
    have hw : H.isWhite (gv H.ws (M.cell t)) = true := by simpa using h
    refine ⟨t, e, hd, fun ⟨k, h8, hk, hx⟩ => ?_, hw⟩
    rw [i.not_white hk hx (.inr h8)] at hw
    cases hw
theorem Ct.black_key (s : Ct G H.ws M A D) (c : Co R M A D) (i : Inv B G H R) {v : V} (hv : v.ok) (hD : v.Has D) (h : H.namesWhite G (v.wd M.cell) = false) : v.Has A := by
  obtain ⟨-, -, ⟨x, e, -⟩ | ⟨t, e, hd, e2⟩⟩ := s.wd i.ok hv hD
  · rw [e]
    trivial
  · unfold Hp.namesWhite at h
    rw [e2] at h
    have hw : H.isWhite (gv H.ws (M.cell t)) = false := by simpa using h
    obtain ⟨k, h4, hk, hx⟩ := c.had t hd
    have h8 : 8 ≤ k := by
      by_cases h8 : 8 ≤ k
      · exact h8
      · rw [i.white_of h4 (by omega) hx] at hw
        cases hw
    obtain ⟨t', ha, e'⟩ := c.prec _ ⟨k, h8, hk, hx⟩
    rw [e, s.inj t t' hd (s.sub t' ha) e'.symm]
    exact ha
end
end Go.Proofs.YtclcnepkgjcmcaaDoor
