/- Safety: the flip, the end, an increment. Plain mathematics. -/
import Derived.Test.YtclcnepkgjcmcaaDoorQ14
namespace Go.Proofs.YtclcnepkgjcmcaaDoor
open Go.RowKit

/-- What is reached from the registers. -/
def Reach (M : Md) (i : Nat) : Prop := ∀ C : Nat → Prop, Closed M C → C i
theorem V.Has.all {P : (Nat → Prop) → Prop} : ∀ {v : V}, (∀ C, P C → v.Has C) → v.Has (fun i => ∀ C, P C → C i)
  | .w _, _ => trivial
  | .t _, h => h
theorem Reach.closed (M : Md) : Closed M (Reach M) :=
  ⟨fun r hr => V.Has.all fun _ hC => hC.reg r hr, fun i hi hf j hj => V.Has.all fun C hC => hC.plain i (hi C hC) hf j hj,
    fun i hi hf h0 => V.Has.all fun C hC => hC.weak i (hi C hC) hf (V.Has.mono (fun _ h => h C hC) h0)⟩

section
variable {M : Md} {A D A' : Nat → Prop} {R : Nat → List Int} {B : Int} {G : Geo} {H : Hp} {ws : List Int}
/-- of fewer things -/
theorem Ct.less (s : Ct G ws M A D) (h : ∀ i, A' i → A i) (hc : Closed M A') : Ct G ws M A' D :=
  ⟨s.place, s.inj, fun i hi => s.sub i (h i hi), fun i hi => s.kind i (h i hi), fun i hi => s.mark i (h i hi), fun i hi => s.room i (h i hi), fun i hi => s.flds i (h i hi),
    fun i hi hf => (s.weak i (h i hi) hf).imp (fun x => x) fun ⟨a, b, c⟩ => ⟨a, b, fun k => c (V.Has.mono h k)⟩, s.regs, s.rest, fun i hi => s.goodf i (h i hi), s.goodr, hc⟩

theorem twelve_none : (V.w 12).ok := ⟨by omega, by omega, by decide +kernel⟩

/-- the registers are shaded -/
theorem safe_regs (i : Inv B G H R) (hm : H.mrk = true) (s : Ct G H.ws M A D) (c : Co R M A D) (hb : ∀ x, ¬ Bk R x) (h12 : R 12 = []) : ∀ n, n ≤ 12 →
    Ct G (H.shadeRegs G n).ws M A D ∧ Co (H.shadeRegsR G R n) M A D ∧ (∀ x, ¬ Bk (H.shadeRegsR G R n) x) ∧ (∀ r, r < n → r < 8 → ∀ t, M.reg r = .t t → Nw (H.shadeRegsR G R n) (M.cell t)) ∧
      (H.shadeRegs G n).mrk = true ∧ ((H.shadeRegs G n).mis = 0 ∨ H.shadeRegsR G R n 12 = [])
  | 0, _ => ⟨s, c, hb, fun r hr => absurd hr (by omega), hm, .inr h12⟩
  | n + 1, hn => by
    obtain ⟨s1, c1, b1, f1, m1, z1⟩ := safe_regs i hm s c hb h12 n (by omega)
    obtain ⟨i1, -⟩ := inv_regs i n
    obtain ⟨v, hv, hvA, ev, er⟩ : ∃ v : V, v.ok ∧ v.Has A ∧ gv (H.shadeRegs G n).ws n = v.wd M.cell ∧ (n < 8 → v = M.reg n) := by
      by_cases h8 : n < 8
      · exact ⟨_, s1.goodr n h8, s1.closed.reg n h8, s1.regs n h8, fun _ => rfl⟩
      · exact ⟨.w 12, twelve_none, trivial, s1.rest n (by omega) (by omega), fun h => absurd h h8⟩
    obtain ⟨s2, c2, n2, b2, w2⟩ := safe_shade i1 s1 c1 hv hvA
    obtain ⟨v0, v1, -⟩ := s1.wd i1.ok hv (V.Has.mono s1.sub hvA)
    obtain ⟨-, -, -, ⟨-, g4⟩, g5, -, -, g8, -⟩ := shade_facts i1 v0 v1
    rw [Hp.shadeRegs, Hp.shadeRegsR, ev]
    refine ⟨s2, c2, fun x hx => b1 x ((b2 x).1 hx), fun r hr h8 t et => ?_, g5.trans m1, ?_⟩
    · by_cases e : r = n
      · subst e
        exact w2 m1 t ((er h8).trans et)
      · exact n2 _ (f1 r (by omega) h8 t et)
    · by_cases hs : (H.shadeRegs G n).shaded G (v.wd M.cell) = true
      · left
        rw [g8, if_pos hs]
      · have hs' : (H.shadeRegs G n).shaded G (v.wd M.cell) = false := by simpa using hs
        obtain ⟨e1, e2⟩ := g4 hs'
        rw [e1, e2]
        exact z1

/-- the flip -/
theorem safe_flip (i : Inv B G H R) (hm : H.mrk = false) (s : Ct G H.ws M A D) (c : Co R M A D) :
    Ct G (H.flip G).ws M (Reach M) D ∧ Co (H.flipR G R) M (Reach M) D ∧ Snap M (Reach M) (H.flipR G R) ∧ (H.flip G).mrk = true ∧ Mw G (H.flip G) (H.flipR G R) ∧ ∀ x, ¬ Bk (H.flipR G R) x := by
  obtain ⟨i0, d0, -⟩ := inv_flip0 i hm
  obtain ⟨hw, h12, -⟩ := i.idle hm
  have F := flipsR_at R 4 (by omega)
  have F12 : flipsR R 4 12 = [] := by rw [F, if_neg (by omega), if_neg (by omega)]; exact h12
  have F8 : ∀ j, 8 ≤ j → j < 12 → flipsR R 4 j = [] := fun j h8 hj => by rw [F, if_neg (by omega), if_pos ⟨h8, by omega⟩]
  have s0 : Ct G ({ H.flips G 4 with mrk := true } : Hp).ws M (Reach M) D := (s.dat i.ok d0).less (fun t h => h A s.closed) (Reach.closed M)
  have c0 : Co (flipsR R 4) M (Reach M) D := by
    refine ⟨fun t ht => ?_, fun x ⟨k, h8, hk, hx⟩ => ?_⟩
    · obtain ⟨k, h4, hk, hx⟩ := c.had t ht
      by_cases h8 : k < 8
      · rw [hw k h4 h8] at hx
        simp at hx
      · by_cases h13 : k = 12
        · rw [h13, h12] at hx
          simp at hx
        · refine ⟨k - 4, by omega, by omega, ?_⟩
          rw [F, if_pos (by omega), show k - 4 + 4 = k by omega]
          exact List.mem_append.2 (.inr hx)
    · exfalso
      by_cases e : k = 12
      · rw [e, F12] at hx
        simp at hx
      · rw [F8 k h8 (by omega)] at hx
        simp at hx
  have nb : ∀ x, ¬ Bk (flipsR R 4) x := fun x ⟨k, h8, hk, hx⟩ => by
    rw [F8 k h8 hk] at hx
    simp at hx
  obtain ⟨s1, c1, b1, f1, m1, z1⟩ := safe_regs i0 rfl s0 c0 nb F12 12 (by omega)
  refine ⟨s1, c1, fun C h1 h2 h3 h4 => ?_, m1, z1.elim Mw.zero Mw.none, b1⟩
  have hC : Closed M C := by
    refine ⟨fun r hr => ?_, fun t ht hf j hj => h3 t ht (b1 _) hf j hj, fun t ht hf h0 => h4 t ht (b1 _) hf h0⟩
    have := (Reach.closed M).reg r hr
    cases e : M.reg r with
    | w x => trivial
    | t t =>
      rw [e] at this
      exact h2 t this (f1 r (by omega) hr t e)
  exact fun t ht => ht C hC

/-- the end -/
theorem safe_end (i : Inv B G H R) (hm : H.mrk = true) (h12 : R 12 = []) (s : Ct G H.ws M A D) (c : Co R M A D) (sn : Snap M A R) (kw : Kw M A R H.ws) (hB : B + 1 ≤ 1000000000) :
    Ct G H.end_.ws M A A ∧ Co (endsR R 4) M A A ∧ H.end_.mrk = false := by
  obtain ⟨i1, d1, -⟩ := inv_end i hm h12 hB
  have F := endsR_at R 4 (by omega)
  have hb := sn.done h12
  have s0 : Ct G H.ws M A A :=
    ⟨fun t h => s.place t (s.sub t h), fun t u h k => s.inj t u (s.sub t h) (s.sub u k), fun _ h => h, s.kind, s.mark, s.room, s.flds, fun t ht hf => by
      rcases s.weak t ht hf with ⟨a, b, -⟩ | h
      · rcases kw t ht hf (hb t ht) with k | ⟨k1, k2⟩
        · exact .inl ⟨a, b, k⟩
        · by_cases hA : (M.fld t 0).Has A
          · exact .inl ⟨a, b, hA⟩
          · exact .inr ⟨k1, k2, hA⟩
      · exact .inr h, s.regs, s.rest, s.goodf, s.goodr, s.closed⟩
  have E8 : ∀ k, 8 ≤ k → endsR R 4 k = R k := fun k h8 => by rw [F, if_neg (by omega), if_neg (by omega)]
  refine ⟨s0.dat i.ok d1, ⟨fun t ht => ?_, fun x ⟨k, h8, hk, hx⟩ => ?_⟩, rfl⟩
  · obtain ⟨k, h8, hk, hx⟩ := hb t ht
    exact ⟨k, by omega, by omega, by rw [E8 k h8]; exact hx⟩
  · rw [E8 k h8] at hx
    exact c.prec x ⟨k, h8, hk, hx⟩

/-- What holds between the heap and the things, all the while. -/
structure Safe (B : Int) (G : Geo) (H : Hp) (R : Nat → List Int) (M : Md) (A D : Nat → Prop) : Prop where
  inv : Inv B G H R
  ct : Ct G H.ws M A D
  co : Co R M A D
  snap : H.mrk = true → Snap M A R
  idle : H.mrk = false → ∀ i, D i → A i
  mw : H.mrk = true → Mw G H R
  kw : H.mrk = true → Kw M A R H.ws

theorem Safe.reach (s : Safe B G H R M A D) {i : Nat} (h : Reach M i) : A i := h A s.ct.closed

/-- An increment. -/
theorem safe_inc (s : Safe B G H R M A D) (hB : B + 1 ≤ 1000000000) : ∃ A' D', Safe (B + 1) G (H.inc G) (H.incR G R) M A' D' ∧
    (H.mrk = true → A' = A ∧ (((H.inc G).mrk = true ∧ D' = D) ∨ ((H.inc G).mrk = false ∧ D' = A))) ∧ (H.mrk = false → A' = Reach M ∧ D' = D ∧ (H.inc G).mrk = true) := by
  obtain ⟨i, ct, co, sn, idle, mw, kw⟩ := s
  have ii := inv_inc i hB
  cases hm : H.mrk
  · obtain ⟨a1, a2, a3, a4, a5, a6⟩ := safe_flip i hm ct co
    have e1 : H.inc G = H.flip G := by rw [Hp.inc, hm]; rfl
    have e2 : H.incR G R = H.flipR G R := by rw [Hp.incR, hm]; rfl
    rw [e1, e2] at ii
    rw [e1, e2]
    exact ⟨Reach M, D, ⟨ii, a1, a2, fun _ => a3, (fun h => by rw [a4] at h; cases h), fun _ => a5, fun _ t ht hf hb => absurd hb (a6 _)⟩, (fun h => by cases h), fun _ => ⟨rfl, rfl, a4⟩⟩
  · rcases i.first with ⟨h12, hf⟩ | ⟨x, l, h12, hf, hne⟩
    · obtain ⟨a1, a2, a3⟩ := safe_end i hm h12 ct co (sn hm) (kw hm) hB
      have e1 : H.inc G = H.end_ := by rw [Hp.inc, hm, if_pos rfl, if_pos hf]
      have e2 : H.incR G R = endsR R 4 := by rw [Hp.incR, hm, if_pos rfl, if_pos hf]
      rw [e1, e2] at ii
      rw [e1, e2]
      exact ⟨A, A, ⟨ii, a1, a2, (fun h => by rw [a3] at h; cases h), fun _ _ h => h, (fun h => by rw [a3] at h; cases h), (fun h => by rw [a3] at h; cases h)⟩, fun _ => ⟨rfl, .inr ⟨a3, rfl⟩⟩, fun h => by cases h⟩
    · have hx : x ∈ R 12 := by rw [h12]; simp
      obtain ⟨z, hA, rfl⟩ := co.prec x ⟨12, by omega, by omega, hx⟩
      obtain ⟨-, ht | ht⟩ := i.mem12 hx
      · obtain ⟨a1, a2, a3, a4, a5, a6⟩ := safe_scan i ct co (sn hm) hm hA hx ht
        have dd := (inv_scan i hx ht).2
        have e1 : H.inc G = H.scan G (M.cell z) (gv H.ws (M.cell z)) := by rw [Hp.inc, hm, if_pos rfl, hf, if_neg hne, if_pos ht]
        have e2 : H.incR G R = H.scanR G R (M.cell z) := by rw [Hp.incR, hm, if_pos rfl, hf, if_neg hne, if_pos ht]
        rw [e1, e2] at ii
        rw [e1, e2]
        exact ⟨A, D, ⟨ii, a1, a2, fun _ => a3, (fun h => by rw [a4] at h; cases h), fun _ => Mw.zero (a5 ((mw hm).grey _ hx ht)), fun _ => (kw hm).dat ct i.ok dd a6⟩, fun _ => ⟨rfl, .inl ⟨a4, rfl⟩⟩, fun h => by cases h⟩
      · obtain ⟨a1, a2, a3, a4, a5, a6⟩ := safe_look i ct co (sn hm) (mw hm) hm hA h12 ht hB
        have e1 : H.inc G = H.look G (M.cell z) (gv H.ws (M.cell z)) := by rw [Hp.inc, hm, if_pos rfl, hf, if_neg hne, if_neg (by omega), if_pos ht]
        have e2 : H.incR G R = H.lookR G R (M.cell z) := by rw [Hp.incR, hm, if_pos rfl, hf, if_neg hne, if_neg (by omega)]
        rw [e1, e2] at ii
        rw [e1, e2]
        exact ⟨A, D, ⟨ii, a1, a2, fun _ => a3, (fun h => by rw [a4] at h; cases h), fun _ => a5, fun _ => a6 (kw hm)⟩, fun _ => ⟨rfl, .inl ⟨a4, rfl⟩⟩, fun h => by cases h⟩
/-- Increments. -/
theorem safe_incs (s : Safe B G H R M A D) : ∀ n : Nat, B + n ≤ 1000000000 → ∃ A' D', Safe (B + n) G (H.incs G n) (H.incsR G R n) M A' D' ∧ ∀ i, A' i → A i
  | 0, _ => ⟨A, D, by rw [show B + ((0 : Nat) : Int) = B by omega]; exact s, fun _ h => h⟩
  | n + 1, hn => by
    obtain ⟨A1, D1, s1, h1⟩ := safe_incs s n (by omega)
    obtain ⟨A2, D2, s2, k1, k2⟩ := safe_inc s1 (by omega)
    refine ⟨A2, D2, by rw [show B + ((n + 1 : Nat) : Int) = B + n + 1 by omega]; exact s2, fun t ht => h1 t ?_⟩
    cases hm : (H.incs G n).mrk
    · rw [(k2 hm).1] at ht
      exact s1.reach ht
    · rw [(k1 hm).1] at ht
      exact ht
end
end Go.Proofs.YtclcnepkgjcmcaaDoor
