/- Safety: what a program does with its registers and its fields. Plain mathematics. -/
import Derived.Test.YtclcnepkgjcmcaaDoorQ15
namespace Go.Proofs.YtclcnepkgjcmcaaDoor
open Go.RowKit

def Md.setReg (M : Md) (r : Nat) (v : V) : Md := { M with reg := fun k => if k = r then v else M.reg k }
def Md.setFld (M : Md) (z j : Nat) (v : V) : Md := { M with fld := fun i k => if i = z ∧ k = j then v else M.fld i k }

section
variable {M : Md} {A D : Nat → Prop} {R R' : Nat → List Int} {B : Int} {G : Geo} {H H' : Hp} {ws : List Int} {z j : Nat}

theorem Mw.keep (w : Mw G H R) (i : Inv B G H R) (e12 : R' 12 = R 12) (e1 : H'.mrk = H.mrk) (e2 : H'.cyc = H.cyc) (e3 : H'.mis = H.mis) (hm : ∀ y, G.C y → Hd R y → gv H'.ws y = gv H.ws y) (hd' : ∀ x, x ∈ R 12 → gv H'.ws (x + 3) = gv H.ws (x + 3)) : Mw G H' R' := by
  refine ⟨fun x hx h => ?_, fun l1 l2 e hle x hx => ?_⟩
  · rw [e12] at hx
    rw [hm x (i.rg.place 12 (by omega) x hx) ⟨12, by omega, by omega, hx⟩] at h
    rw [e3]
    exact w.grey x hx h
  · rw [e12] at e
    rw [e3] at hle
    have hx12 : x ∈ R 12 := by rw [e]; simp [hx]
    rw [hd' x hx12]
    have hwr := i.wrd (x + 3)
    refine namesWhite_keep (H := H) i.ok hwr.1 hwr.2 e1 e2 (fun y hy hw => hm y hy ?_) (w.lost l1 l2 e hle x hx)
    have := G.cls_lt y
    exact ⟨_, by omega, by omega, (i.white_at hy hw).2⟩
theorem Mw.shade (w : Mw G H R) (i : Inv B G H R) {v : Int} (v0 : 0 ≤ v) (v1 : v < 18446744073709551616) : Mw G (H.shade G v) (H.shadeR G R v) := by
  obtain ⟨-, -, -, ⟨-, g4⟩, g5, -, -, g8, -⟩ := shade_facts i v0 v1
  by_cases hs : H.shaded G v = true
  · exact Mw.zero (by rw [g8, if_pos hs])
  · obtain ⟨e1, e2⟩ := g4 (by simpa using hs)
    rw [e1, e2]
    exact w

/-- shading what may be reached keeps all -/
theorem Safe.shade (s : Safe B G H R M A D) {v : V} (hv : v.ok) (hA : v.Has A) : Safe B G (H.shade G (v.wd M.cell)) (H.shadeR G R (v.wd M.cell)) M A D ∧ (H.shade G (v.wd M.cell)).mrk = H.mrk ∧
    (∀ x, Nw R x → Nw (H.shadeR G R (v.wd M.cell)) x) ∧ (∀ x, Bk (H.shadeR G R (v.wd M.cell)) x ↔ Bk R x) ∧ (H.mrk = true → ∀ t, v = .t t → Nw (H.shadeR G R (v.wd M.cell)) (M.cell t)) ∧ Dat G H.ws (H.shade G (v.wd M.cell)).ws := by
  obtain ⟨a1, a2, a3, a4, a5⟩ := safe_shade s.inv s.ct s.co hv hA
  obtain ⟨v0, v1, -⟩ := s.ct.wd s.inv.ok hv (V.Has.mono s.ct.sub hA)
  obtain ⟨i1, d1, -⟩ := inv_shade s.inv v0 v1
  obtain ⟨-, -, -, -, g5, -⟩ := shade_facts s.inv v0 v1
  refine ⟨⟨i1, a1, a2, fun h => ?_, fun h => ?_, fun h => ?_, fun h => ?_⟩, g5, a3, a4, a5, d1⟩
  · rw [g5] at h
    exact (s.snap h).more (fun t _ => a3 _) (fun t _ => (a4 _).1)
  · rw [g5] at h
    exact s.idle h
  · rw [g5] at h
    exact (s.mw h).shade s.inv v0 v1
  · rw [g5] at h
    exact (s.kw h).dat s.ct s.inv.ok d1 fun t _ _ => (a4 _).1

/-- a register is set -/
theorem Safe.setRoot (s : Safe B G H R M A D) {r : Nat} (hr : r < 8) {v : V} (hv : v.ok) (hA : v.Has A) : Safe B G (H.setRoot G r (v.wd M.cell)) (H.shadeR G R (v.wd M.cell)) (M.setReg r v) A D := by
  obtain ⟨s1, -⟩ := s.shade hv hA
  obtain ⟨v0, v1, -⟩ := s.ct.wd s.inv.ok hv (V.Has.mono s.ct.sub hA)
  have hi := inv_setRoot s.inv (j := (r : Int)) (by omega) (by omega) v0 v1
  have hl := s1.inv.len
  have hln := s.inv.ok.lines
  have hin : inside (H.shade G (v.wd M.cell)).ws.length (r : Int) = true := inside_mk (by omega) (by omega)
  have E := fun y => gv_sv (v.wd M.cell) y hin
  have far : ∀ y : Int, 12 ≤ y → gv (sv (H.shade G (v.wd M.cell)).ws (r : Int) (v.wd M.cell)) y = gv (H.shade G (v.wd M.cell)).ws y := fun y hy => by rw [E, if_neg (by omega)]
  have hC : ∀ i, A i → 51 ≤ M.cell i := fun i ha => (Geo.extent s.inv.ok (s.ct.place i (s.ct.sub i ha))).1
  have c := s1.ct
  refine ⟨hi, ⟨c.place, c.inj, c.sub, c.kind, fun i ha => ?_, c.room, fun i ha hf k hk => ?_, fun i ha hf => ?_, fun k hk => ?_, fun k k8 k12 => ?_, c.goodf, fun k hk => ?_, ⟨fun k hk => ?_, c.closed.plain, c.closed.weak⟩⟩, ⟨s1.co.had, s1.co.prec⟩, s1.snap, s1.idle, fun h => ?_, fun h i ha hf hb => ?_⟩
  · show mform (gv (sv _ _ _) (M.cell i)) = _ ∧ msize (gv (sv _ _ _) (M.cell i)) = _
    rw [far _ (by have := hC i ha; omega)]
    exact c.mark i ha
  · show gv (sv _ _ _) (M.cell i + 3 + k) = _
    rw [far _ (by have := hC i ha; omega)]
    exact c.flds i ha hf k hk
  · show gv (sv _ _ _) (M.cell i + 3) = _ ∧ gv (sv _ _ _) (M.cell i + 4) = _ ∧ _ ∨ gv (sv _ _ _) (M.cell i + 3) = _ ∧ gv (sv _ _ _) (M.cell i + 4) = _ ∧ _
    rw [far _ (by have := hC i ha; omega), far _ (by have := hC i ha; omega)]
    exact c.weak i ha hf
  · show gv (sv _ _ _) (k : Int) = V.wd M.cell (if k = r then v else M.reg k)
    rw [E]
    by_cases e : k = r
    · rw [if_pos (by omega), if_pos e]
    · rw [if_neg (by omega), if_neg e]
      exact c.regs k hk
  · show gv (sv _ _ _) k = 12
    rw [E, if_neg (by omega)]
    exact c.rest k k8 k12
  · show V.ok (if k = r then v else M.reg k)
    split
    · exact hv
    · exact c.goodr k hk
  · show V.Has A (if k = r then v else M.reg k)
    split
    · exact hA
    · exact c.closed.reg k hk
  · have hx51 : ∀ x, x ∈ H.shadeR G R (v.wd M.cell) 12 → 51 ≤ x := fun x hx => (Geo.extent s.inv.ok (s1.inv.rg.place 12 (by omega) x hx)).1
    exact (s1.mw h).keep s1.inv rfl rfl rfl rfl (fun y hy _ => far y (by have := (Geo.extent s.inv.ok hy).1; omega)) (fun x hx => far _ (by have := hx51 x hx; omega))
  · have := s1.kw h i ha hf hb
    show (M.fld i 0).Has A ∨ gv (sv _ _ _) (M.cell i + 3) = 3 ∧ gv (sv _ _ _) (M.cell i + 4) = 3
    rw [far _ (by have := hC i ha; omega), far _ (by have := hC i ha; omega)]
    exact this
end
end Go.Proofs.YtclcnepkgjcmcaaDoor

/- Safety: a field is set. Plain mathematics. -/
namespace Go.Proofs.YtclcnepkgjcmcaaDoor
open Go.RowKit

section
variable {M : Md} {A D : Nat → Prop} {R R' : Nat → List Int} {B : Int} {G : Geo} {H H' : Hp} {ws : List Int} {z j : Nat}

/-- a plain thing, or a weak one that is new -/
def SetOk (mrk : Bool) (R : Nat → List Int) (M : Md) (A : Nat → Prop) (z j : Nat) : Prop :=
  (M.form z = 1 ∧ (mrk = true → ∀ t, M.fld z j = .t t → Nw R (M.cell t))) ∨ (M.form z = 3 ∧ (mrk = true → Bk R (M.cell z)) ∧ (M.fld z 0).Has A ∧ (M.fld z 1).Has A)

/-- the barrier -/
theorem Safe.guard (s : Safe B G H R M A D) (hz : A z) (hj : j < M.len z) {v : V} (hv : v.ok) (hA : v.Has A)
    (hf : M.form z = 1 ∨ (M.form z = 3 ∧ (H.mrk = true → Bk R (M.cell z)) ∧ (M.fld z 0).Has A ∧ (M.fld z 1).Has A)) :
    Safe B G (H.guard G (gv H.ws (M.cell z)) (gv H.ws (M.cell z + 3 + j)) (v.wd M.cell)) (H.guardR G R (gv H.ws (M.cell z)) (gv H.ws (M.cell z + 3 + j)) (v.wd M.cell)) M A D ∧
      SetOk (H.guard G (gv H.ws (M.cell z)) (gv H.ws (M.cell z + 3 + j)) (v.wd M.cell)).mrk (H.guardR G R (gv H.ws (M.cell z)) (gv H.ws (M.cell z + 3 + j)) (v.wd M.cell)) M A z j ∧
      (H.guard G (gv H.ws (M.cell z)) (gv H.ws (M.cell z + 3 + j)) (v.wd M.cell)).mrk = H.mrk := by
  have em := (s.ct.mark z hz).1
  rcases hf with h1 | ⟨h3, hb, k0, k1⟩
  · have e1 : mform (gv H.ws (M.cell z)) = 1 := by omega
    simp only [Hp.guard, Hp.guardR, if_pos e1]
    rw [s.ct.flds z hz (by omega) j hj]
    have ho := s.ct.goodf z hz (by omega) j hj
    have hoA := s.ct.closed.plain z hz h1 j hj
    obtain ⟨s1, m1, n1, b1, w1, -⟩ := s.shade ho hoA
    by_cases hbl : H.isBlack (gv H.ws (M.cell z)) = true
    · simp only [if_pos hbl]
      obtain ⟨s2, m2, n2, b2, w2, -⟩ := s1.shade hv hA
      exact ⟨s2, .inl ⟨h1, fun h t et => n2 _ (w1 (by rw [m2, m1] at h; exact h) t et)⟩, m2.trans m1⟩
    · simp only [if_neg hbl]
      exact ⟨s1, .inl ⟨h1, fun h t et => w1 (by rw [m1] at h; exact h) t et⟩, m1⟩
  · have e1 : ¬ mform (gv H.ws (M.cell z)) = 1 := by omega
    have e3 : mform (gv H.ws (M.cell z)) = 3 := by omega
    simp only [Hp.guard, Hp.guardR, if_neg e1, if_pos e3]
    by_cases hbl : H.isBlack (gv H.ws (M.cell z)) = true
    · simp only [if_pos hbl]
      obtain ⟨s2, m2, n2, b2, w2, -⟩ := s.shade hv hA
      exact ⟨s2, .inr ⟨h3, fun h => (b2 _).2 (hb (by rw [m2] at h; exact h)), k0, k1⟩, m2⟩
    · simp only [if_neg hbl]
      exact ⟨s, .inr ⟨h3, hb, k0, k1⟩, trivial⟩

/-- the word is written -/
theorem Safe.put (s : Safe B G H R M A D) (hz : A z) (hj : j < M.len z) {v : V} (hv : v.ok) (hA : v.Has A) (hf : SetOk H.mrk R M A z j) :
    Safe B G { H with ws := sv H.ws (M.cell z + 3 + j) (v.wd M.cell) } R (M.setFld z j v) A D := by
  have c := s.ct
  obtain ⟨v0, v1, -⟩ := c.wd s.inv.ok hv (V.Has.mono c.sub hA)
  have hC := c.place z (c.sub z hz)
  have hdat := Geo.ok.field s.inv.ok hC (i := (j : Int)) (by omega) (by have := c.room z hz; omega)
  have hi := inv_data s.inv hdat v0 v1
  obtain ⟨a1, a2, a3⟩ := c.put s.inv.ok s.inv.len hz hj (v.wd M.cell)
  have hform : M.form z = 1 ∨ M.form z = 3 := hf.elim (fun h => .inl h.1) (fun h => .inr h.1)
  have W : ∀ i, A i → M.form i = 3 → gv (sv H.ws (M.cell z + 3 + j) (v.wd M.cell)) (M.cell i + 3) = (if i = z ∧ 0 = j then v.wd M.cell else gv H.ws (M.cell i + 3)) ∧
      gv (sv H.ws (M.cell z + 3 + j) (v.wd M.cell)) (M.cell i + 4) = (if i = z ∧ 1 = j then v.wd M.cell else gv H.ws (M.cell i + 4)) := fun i ha h3 => by
    have hl := (c.kind i ha).2 h3
    have x0 := a2 i ha 0 (by omega)
    have x1 := a2 i ha 1 (by omega)
    rw [show M.cell i + 3 + ((0 : Nat) : Int) = M.cell i + 3 by omega] at x0
    rw [show M.cell i + 3 + ((1 : Nat) : Int) = M.cell i + 4 by omega] at x1
    exact ⟨x0, x1⟩
  refine ⟨hi, ⟨c.place, c.inj, c.sub, c.kind, fun i ha => ?_, c.room, fun i ha h3 k hk => ?_, fun i ha h3 => ?_, fun k hk => ?_, fun k k8 k12 => ?_, fun i ha h2 k hk => ?_, c.goodr, ⟨c.closed.reg, fun i ha h1 k hk => ?_, fun i ha h3 h0 => ?_⟩⟩,
    ⟨s.co.had, s.co.prec⟩, fun h => ?_, s.idle, fun h => ?_, fun h i ha h3 hb => ?_⟩
  · show mform (gv (sv _ _ _) (M.cell i)) = _ ∧ msize (gv (sv _ _ _) (M.cell i)) = _
    rw [a1 _ (c.place i (c.sub i ha))]
    exact c.mark i ha
  · show gv (sv _ _ _) (M.cell i + 3 + k) = V.wd M.cell (if i = z ∧ k = j then v else M.fld i k)
    rw [a2 i ha k hk]
    split
    · rfl
    · exact c.flds i ha h3 k hk
  · show gv (sv _ _ _) (M.cell i + 3) = V.wd M.cell (if i = z ∧ 0 = j then v else M.fld i 0) ∧ gv (sv _ _ _) (M.cell i + 4) = V.wd M.cell (if i = z ∧ 1 = j then v else M.fld i 1) ∧ V.Has D (if i = z ∧ 0 = j then v else M.fld i 0) ∨
      gv (sv _ _ _) (M.cell i + 3) = 3 ∧ gv (sv _ _ _) (M.cell i + 4) = 3 ∧ ¬ V.Has A (if i = z ∧ 0 = j then v else M.fld i 0)
    obtain ⟨x0, x1⟩ := W i ha h3
    rw [x0, x1]
    by_cases e : i = z
    · subst e
      rcases hf with h | ⟨-, -, k0, k1⟩
      · have := h.1
        have h3' : M.form i = 3 := h3
        omega
      · rcases c.weak i ha h3 with ⟨b0, b1, b2⟩ | ⟨-, -, b2⟩
        · left
          refine ⟨?_, ?_, ?_⟩
          · split
            · rfl
            · exact b0
          · split
            · rfl
            · exact b1
          · split
            · exact V.Has.mono c.sub hA
            · exact b2
        · exact absurd k0 b2
    · rw [if_neg (fun h => e h.1), if_neg (fun h => e h.1), if_neg (fun h => e h.1), if_neg (fun h => e h.1)]
      exact c.weak i ha h3
  · show gv (sv _ _ _) (k : Int) = _
    rw [a3 k (by omega) (by omega)]
    exact c.regs k hk
  · show gv (sv _ _ _) k = 12
    rw [a3 k (by omega) (by omega)]
    exact c.rest k k8 k12
  · show V.ok (if i = z ∧ k = j then v else M.fld i k)
    split
    · exact hv
    · exact c.goodf i ha h2 k hk
  · show V.Has A (if i = z ∧ k = j then v else M.fld i k)
    split
    · exact hA
    · exact c.closed.plain i ha h1 k hk
  · show V.Has A (if i = z ∧ 1 = j then v else M.fld i 1)
    by_cases e : i = z
    · subst e
      rcases hf with h | ⟨-, -, k0, k1⟩
      · have := h.1
        have h3' : M.form i = 3 := h3
        omega
      · split
        · exact hA
        · exact k1
    · rw [if_neg (fun h => e h.1)]
      have h0' : V.Has A (if i = z ∧ 0 = j then v else M.fld i 0) := h0
      rw [if_neg (fun h => e h.1)] at h0'
      exact c.closed.weak i ha h3 h0'
  · intro C c1 c2 c3 c4
    refine s.snap h C c1 c2 (fun i hc hk h1 k hkl => ?_) (fun i hc hk h3 h0 => ?_)
    · have := c3 i hc hk h1 k hkl
      have : V.Has C (if i = z ∧ k = j then v else M.fld i k) := this
      by_cases e : i = z ∧ k = j
      · obtain ⟨rfl, rfl⟩ := e
        rcases hf with ⟨-, w⟩ | ⟨h3, -⟩
        · cases et : M.fld i k with
          | w x => trivial
          | t t =>
            have ht := c.closed.plain i hz h1 k hj
            rw [et] at ht
            exact c2 t ht (w h t et)
        · have h1' : M.form i = 1 := h1
          omega
      · rw [if_neg e] at this
        exact this
    · by_cases e : i = z
      · subst e
        rcases hf with ⟨h1, -⟩ | ⟨-, hb, -⟩
        · omega
        · exact absurd (hb h) hk
      · have := c4 i hc hk h3 (by
          show V.Has C (if i = z ∧ 0 = j then v else M.fld i 0)
          rw [if_neg (fun h => e h.1)]
          exact h0)
        have : V.Has C (if i = z ∧ 1 = j then v else M.fld i 1) := this
        rw [if_neg (fun h => e h.1)] at this
        exact this
  · have w := s.mw h
    by_cases h12 : M.cell z ∈ R 12
    · refine Mw.zero ?_
      show H.mis = 0
      obtain ⟨-, ht | ht⟩ := s.inv.mem12 h12
      · exact w.grey _ h12 ht
      · have := (s.inv.weak h12 ht).1
        have := (c.mark z hz).1
        rcases hf with ⟨h1, -⟩ | ⟨-, hb, -⟩
        · omega
        · obtain ⟨k, h8, hk, hx⟩ := hb h
          have := s.inv.rg.apart k 12 (by omega) (by omega) _ hx h12
          omega
    · refine w.keep s.inv rfl rfl rfl rfl (fun y hy _ => a1 y hy) (fun x hx => ?_)
      obtain ⟨y, ya, rfl⟩ := s.co.prec x ⟨12, by omega, by omega, hx⟩
      have hyz : y ≠ z := fun e => h12 (by rw [← e]; exact hx)
      have hCy := c.place y (c.sub y ya)
      have hin : inside H.ws.length (M.cell z + 3 + j) = true := by
        have := Geo.extent s.inv.ok hC
        have := c.room z hz
        have := s.inv.len
        exact inside_mk (by omega) (by omega)
      have hne : M.cell y ≠ M.cell z := fun h => hyz (c.inj y z (c.sub y ya) (c.sub z hz) h)
      show gv (sv _ _ _) (M.cell y + 3) = _
      rw [gv_sv _ _ hin, if_neg (by
        have := Geo.far s.inv.ok hCy hC hne
        have := ln_lo (G.cls (M.cell y))
        have := c.room z hz
        omega)]
  · show V.Has A (if i = z ∧ 0 = j then v else M.fld i 0) ∨ gv (sv _ _ _) (M.cell i + 3) = 3 ∧ gv (sv _ _ _) (M.cell i + 4) = 3
    obtain ⟨x0, x1⟩ := W i ha h3
    rw [x0, x1]
    by_cases e : i = z
    · subst e
      rcases hf with ⟨h1, -⟩ | ⟨-, -, k0, -⟩
      · have h3' : M.form i = 3 := h3
        omega
      · left
        split
        · exact hA
        · exact k0
    · rw [if_neg (fun h => e h.1), if_neg (fun h => e h.1), if_neg (fun h => e h.1)]
      exact s.kw h i ha h3 hb

/-- a field is set -/
theorem Safe.setF (s : Safe B G H R M A D) (hz : A z) (hj : j < M.len z) {v : V} (hv : v.ok) (hA : v.Has A)
    (hf : M.form z = 1 ∨ (M.form z = 3 ∧ (H.mrk = true → Bk R (M.cell z)) ∧ (M.fld z 0).Has A ∧ (M.fld z 1).Has A)) :
    Safe B G (H.setF G (M.cell z) j (v.wd M.cell)) (H.setFR G R (M.cell z) j (v.wd M.cell)) (M.setFld z j v) A D := by
  obtain ⟨s1, f1, -⟩ := s.guard hz hj hv hA hf
  exact s1.put hz hj hv hA f1
end
end Go.Proofs.YtclcnepkgjcmcaaDoor
