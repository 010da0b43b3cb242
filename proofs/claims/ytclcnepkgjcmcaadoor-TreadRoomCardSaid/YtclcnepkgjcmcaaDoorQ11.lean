/- A new heap: all its cells are free. Plain mathematics. -/
import Derived.Test.YtclcnepkgjcmcaaDoorQ10
namespace Go.Proofs.YtclcnepkgjcmcaaDoor

def Geo.place (G : Geo) (c i : Nat) : Int := G.bas.at_ c + i * ln c
def layRegs (ws : List Int) : Nat → List Int
  | 0 => ws
  | i + 1 => sv (layRegs ws i) i 12
def layHeads (ws : List Int) : Nat → List Int
  | 0 => ws
  | r + 1 => ini (layHeads ws r) (hd r)
/-- the one behind which the cell i of a size is put -/
def Geo.layAt (G : Geo) (c : Nat) : Nat → Int
  | 0 => hd c
  | i + 1 => G.place c i
def Geo.layCells (G : Geo) (c : Nat) (ws : List Int) : Nat → List Int
  | 0 => ws
  | i + 1 => ins (G.layCells c ws i) (G.layAt c i) (G.place c i)
def Geo.cnt (G : Geo) (c : Nat) : Nat := (G.n.at_ c).toNat
def Geo.layAll (G : Geo) (ws : List Int) : Nat → List Int
  | 0 => ws
  | c + 1 => G.layCells c (G.layAll ws c) (G.cnt c)
def Geo.ground (G : Geo) : List Int := layHeads (layRegs (List.replicate G.top.toNat 0) 12) 13
/-- a new heap -/
def Geo.fresh (G : Geo) : Hp := ⟨G.layAll G.ground 4, G.n, ⟨0, 0, 0, 0⟩, 0, 0, false, 0⟩
/-- the first i cells of a size -/
def Geo.cellsOf (G : Geo) (c i : Nat) : List Int := (List.range i).map (G.place c)
def Geo.layR (G : Geo) (c i : Nat) : Nat → List Int := fun k => if k < c then G.cellsOf k (G.cnt k) else if k = c then G.cellsOf c i else []

section
variable {G : Geo} {b : Int} {c i : Nat}

theorem Geo.ok.cnt (g : G.ok) (hc : c < 4) : (G.cnt c : Int) = G.n.at_ c ∧ G.cnt c ≤ 4000 := by
  obtain ⟨h0, h1, h2, h3, m0, m1, m2, m3, -, -, -⟩ := g
  unfold Geo.cnt
  rcases lt4 hc with rfl | rfl | rfl | rfl <;> simp [Q4.at_] <;> omega
/-- a cell, by its size and its number -/
theorem Geo.ok.place_cell (g : G.ok) (hc : c < 4) (hi : i < G.cnt c) : G.C (G.place c i) ∧ G.cls (G.place c i) = c := by
  obtain ⟨l1, l2, l3, l4, -⟩ := g.lines
  have e1 : G.b1 = 51 + 6 * G.n.a := rfl
  have e2 : G.b2 = G.b1 + 10 * G.n.b := rfl
  have e3 : G.b3 = G.b2 + 34 * G.n.c := rfl
  have e4 : G.top = G.b3 + 130 * G.n.d := rfl
  have hn := (g.cnt hc).1
  unfold Geo.C
  rw [Geo.cell_iff]
  rcases lt4 hc with rfl | rfl | rfl | rfl
  · have e : G.place 0 i = 51 + i * 6 := rfl
    have hn' : (G.cnt 0 : Int) = G.n.a := hn
    rw [e]
    exact ⟨.inl ⟨by omega, by omega, by omega⟩, by rw [Geo.cls, if_pos (by omega)]⟩
  · have e : G.place 1 i = G.b1 + i * 10 := rfl
    have hn' : (G.cnt 1 : Int) = G.n.b := hn
    rw [e]
    exact ⟨.inr (.inl ⟨by omega, by omega, by omega⟩), by rw [Geo.cls, if_neg (by omega), if_pos (by omega)]⟩
  · have e : G.place 2 i = G.b2 + i * 34 := rfl
    have hn' : (G.cnt 2 : Int) = G.n.c := hn
    rw [e]
    exact ⟨.inr (.inr (.inl ⟨by omega, by omega, by omega⟩)), by rw [Geo.cls, if_neg (by omega), if_neg (by omega), if_pos (by omega)]⟩
  · have e : G.place 3 i = G.b3 + i * 130 := rfl
    have hn' : (G.cnt 3 : Int) = G.n.d := hn
    rw [e]
    exact ⟨.inr (.inr (.inr ⟨by omega, by omega, by omega⟩)), by rw [Geo.cls, if_neg (by omega), if_neg (by omega), if_neg (by omega)]⟩
theorem place_inj {j : Nat} (h : G.place c i = G.place c j) : i = j := by
  unfold Geo.place at h
  have hl := ln_lo c
  have h' : (i : Int) * ln c = j * ln c := by omega
  have := Int.eq_of_mul_eq_mul_right (by omega) h'
  omega
theorem Geo.ok.cell_place (g : G.ok) (hb : G.C b) : ∃ i, i < G.cnt (G.cls b) ∧ b = G.place (G.cls b) i := by
  obtain ⟨l1, l2, l3, l4, -⟩ := g.lines
  have e1 : G.b1 = 51 + 6 * G.n.a := rfl
  have e2 : G.b2 = G.b1 + 10 * G.n.b := rfl
  have e3 : G.b3 = G.b2 + 34 * G.n.c := rfl
  have e4 : G.top = G.b3 + 130 * G.n.d := rfl
  have n0 : (G.cnt 0 : Int) = G.n.a := (g.cnt (c := 0) (by omega)).1
  have n1 : (G.cnt 1 : Int) = G.n.b := (g.cnt (c := 1) (by omega)).1
  have n2 : (G.cnt 2 : Int) = G.n.c := (g.cnt (c := 2) (by omega)).1
  have n3 : (G.cnt 3 : Int) = G.n.d := (g.cnt (c := 3) (by omega)).1
  rcases Geo.cell_iff.1 hb with ⟨a, c, d⟩ | ⟨a, c, d⟩ | ⟨a, c, d⟩ | ⟨a, c, d⟩
  · have e : G.cls b = 0 := by rw [Geo.cls, if_pos c]
    rw [e]
    refine ⟨((b - 51) / 6).toNat, by omega, ?_⟩
    show b = 51 + (((b - 51) / 6).toNat : Int) * 6
    omega
  · have e : G.cls b = 1 := by rw [Geo.cls, if_neg (by omega), if_pos c]
    rw [e]
    refine ⟨((b - G.b1) / 10).toNat, by omega, ?_⟩
    show b = G.b1 + (((b - G.b1) / 10).toNat : Int) * 10
    omega
  · have e : G.cls b = 2 := by rw [Geo.cls, if_neg (by omega), if_neg (by omega), if_pos c]
    rw [e]
    refine ⟨((b - G.b2) / 34).toNat, by omega, ?_⟩
    show b = G.b2 + (((b - G.b2) / 34).toNat : Int) * 34
    omega
  · have e : G.cls b = 3 := by rw [Geo.cls, if_neg (by omega), if_neg (by omega), if_neg (by omega)]
    rw [e]
    refine ⟨((b - G.b3) / 130).toNat, by omega, ?_⟩
    show b = G.b3 + (((b - G.b3) / 130).toNat : Int) * 130
    omega

theorem mem_cellsOf : b ∈ G.cellsOf c i ↔ ∃ j, j < i ∧ G.place c j = b := by
  unfold Geo.cellsOf
  simp
theorem cellsOf_succ : G.cellsOf c (i + 1) = G.cellsOf c i ++ [G.place c i] := by
  unfold Geo.cellsOf
  rw [List.range_succ, List.map_append]
  rfl
theorem layAt_last : G.layAt c i = (hd c :: G.cellsOf c i).getLast (by simp) := by
  cases i with
  | zero => rfl
  | succ i =>
    rw [List.getLast_cons (by rw [cellsOf_succ]; simp)]
    simp [cellsOf_succ, Geo.layAt]
theorem layR_next : updR (G.layR c i) c (G.cellsOf c i ++ [G.place c i]) = G.layR c (i + 1) := by
  funext k
  unfold updR Geo.layR
  by_cases e : k = c
  · subst e
    rw [if_pos rfl, if_neg (by omega), if_pos rfl, cellsOf_succ]
  · rw [if_neg e, if_neg e, if_neg e]
theorem layR_full : G.layR c (G.cnt c) = G.layR (c + 1) 0 := by
  funext k
  unfold Geo.layR
  by_cases e : k = c
  · subst e
    rw [if_neg (by omega), if_pos rfl, if_pos (by omega)]
  · by_cases e2 : k < c
    · rw [if_pos e2, if_pos (by omega)]
    · rw [if_neg e2, if_neg e, if_neg (by omega)]
      by_cases e3 : k = c + 1
      · rw [if_pos e3]; rfl
      · rw [if_neg e3]
theorem mem_layR {k : Nat} (h : b ∈ G.layR c i k) : ∃ j, G.place k j = b ∧ (k < c ∧ j < G.cnt k ∨ k = c ∧ j < i) := by
  unfold Geo.layR at h
  split at h
  · obtain ⟨j, hj, e⟩ := mem_cellsOf.1 h
    exact ⟨j, e, .inl ⟨by assumption, hj⟩⟩
  · split at h
    · next e =>
      subst e
      obtain ⟨j, hj, e⟩ := mem_cellsOf.1 h
      exact ⟨j, e, .inr ⟨rfl, hj⟩⟩
    · cases h

/-- the words ahead of the cells' being laid -/
theorem gv_replicate (n : Nat) (j : Int) : gv (List.replicate n 0) j = 0 := by
  unfold gv
  split
  · simp [List.getD_eq_getElem?_getD, List.getElem?_replicate]
    split <;> rfl
  · rfl
theorem layRegs_len (ws : List Int) : ∀ n, (layRegs ws n).length = ws.length
  | 0 => rfl
  | n + 1 => by rw [layRegs, sv_length, layRegs_len]
theorem layHeads_len (ws : List Int) : ∀ n, (layHeads ws n).length = ws.length
  | 0 => rfl
  | n + 1 => by rw [layHeads, ini_length, layHeads_len]
theorem layRegs_at {ws : List Int} (hl : 51 ≤ ws.length) : ∀ n, n ≤ 12 → ∀ j, gv (layRegs ws n) j = if 0 ≤ j ∧ j < n then 12 else gv ws j
  | 0, _, j => by rw [layRegs, if_neg (by omega)]
  | n + 1, hn, j => by
    rw [layRegs, gv_sv _ _ (by rw [layRegs_len]; exact inside_mk (by omega) (by omega)), layRegs_at hl n (by omega)]
    by_cases e : j = n
    · rw [if_pos e, if_pos (by omega)]
    · rw [if_neg e]
      by_cases e2 : 0 ≤ j ∧ j < n
      · rw [if_pos e2, if_pos (by omega)]
      · rw [if_neg e2, if_neg (by omega)]
theorem hd_pl {n r : Nat} (hl : 51 ≤ n) (hr : r < 13) : Pl n (hd r) := ⟨by unfold hd; omega, by unfold hd; omega⟩
theorem layHeads_facts {ws : List Int} (hl : 51 ≤ ws.length) : ∀ n, n ≤ 13 → (∀ j, j < n → Path (layHeads ws n) (hd j) [] (hd j)) ∧ ∀ j, (j < 13 ∨ 51 ≤ j) → gv (layHeads ws n) j = gv ws j
  | 0, _ => ⟨fun j hj => absurd hj (by omega), fun _ _ => rfl⟩
  | n + 1, hn => by
    obtain ⟨h1, h2⟩ := layHeads_facts hl n (by omega)
    have p := hd_pl (n := ws.length) hl (r := n) (by omega)
    refine ⟨fun j hj => ?_, fun j hj => ?_⟩
    · by_cases e : j = n
      · subst e
        exact ini_path (layHeads_len ws j) p
      · exact ini_far (layHeads_len ws n) p (h1 j (by omega)) (by unfold hd; omega)
    · rw [layHeads, gv_ini (layHeads_len ws n) p, if_neg (by unfold hd; omega), if_neg (by unfold hd; omega)]
      exact h2 j hj

theorem layRegs_rng {ws : List Int} (r : Rng ws) : ∀ n, Rng (layRegs ws n)
  | 0 => r
  | n + 1 => (layRegs_rng r n).sv _ (by omega) (by omega)
theorem layHeads_rng {ws : List Int} (r : Rng ws) : ∀ n, n ≤ 13 → Rng (layHeads ws n)
  | 0, _ => r
  | n + 1, h => by
    have := hd_word n (by omega)
    exact (layHeads_rng r n (by omega)).ini this.1 this.2

theorem Geo.ok.ground (g : G.ok) : Rg G.top.toNat G.C G.ground (G.layR 0 0) ∧ Rng G.ground ∧ (∀ j, 0 ≤ j → j < 12 → gv G.ground j = 12) ∧ (∀ j, 51 ≤ j → gv G.ground j = 0) := by
  have hl := g.lines
  have h51 : 51 ≤ (List.replicate G.top.toNat (0 : Int)).length := by rw [List.length_replicate]; omega
  have hlen : (layRegs (List.replicate G.top.toNat 0) 12).length = G.top.toNat := by rw [layRegs_len, List.length_replicate]
  obtain ⟨f1, f2⟩ := layHeads_facts (ws := layRegs (List.replicate G.top.toNat 0) 12) (by rw [hlen]; omega) 13 (by omega)
  have hR : G.layR 0 0 = fun _ => [] := by
    funext k
    unfold Geo.layR
    rw [if_neg (by omega)]
    split <;> rfl
  refine ⟨?_, ?_, fun j j0 j1 => ?_, fun j hj => ?_⟩
  · rw [hR]
    exact rg_start (by unfold Geo.ground; rw [layHeads_len, hlen]) f1
  · refine layHeads_rng (layRegs_rng (fun j => ?_) 12) 13 (by omega)
    rw [gv_replicate]
    omega
  · unfold Geo.ground
    rw [f2 j (by omega), layRegs_at h51 12 (by omega), if_pos (by omega)]
  · unfold Geo.ground
    rw [f2 j (by omega), layRegs_at h51 12 (by omega), if_neg (by omega), gv_replicate]

/-- what a step of laying asks of the words -/
structure InsOk (ws : List Int) (at_ b : Int) : Prop where
  short : ws.length ≤ 1048576
  pa : Pl ws.length at_
  pb : Pl ws.length b
  px : Pl ws.length (gv ws (at_ + 2))

theorem lay_cells (g : G.ok) (hc : c < 4) {ws : List Int} (h : Rg G.top.toNat G.C ws (G.layR c 0)) (r : Rng ws) : ∀ i, i ≤ G.cnt c → Rg G.top.toNat G.C (G.layCells c ws i) (G.layR c i) ∧ Keep G.C ws (G.layCells c ws i) ∧ Rng (G.layCells c ws i) ∧
    (i < G.cnt c → InsOk (G.layCells c ws i) (G.layAt c i) (G.place c i)) := by
  have hl := g.lines
  have p : Plc G.top.toNat G.C := g.plc (by omega)
  have step : ∀ (i : Nat) (ws' : List Int), i < G.cnt c → Rg G.top.toNat G.C ws' (G.layR c i) →
      Rg G.top.toNat G.C (ins ws' (G.layAt c i) (G.place c i)) (G.layR c (i + 1)) ∧ Keep G.C ws' (ins ws' (G.layAt c i) (G.place c i)) ∧ Pl G.top.toNat (G.layAt c i) ∧ Pl G.top.toNat (G.place c i) ∧ Pl G.top.toNat (gv ws' (G.layAt c i + 2)) := by
    intro i ws' hi h'
    have hR : G.layR c i c = G.cellsOf c i := by unfold Geo.layR; rw [if_neg (by omega), if_pos rfl]
    obtain ⟨pc, pcl⟩ := g.place_cell hc hi
    have := rg_ins p h' (h := c) (by omega) (at_ := G.layAt c i) (l1 := G.cellsOf c i) (l2 := []) (by rw [hR, List.append_nil]) layAt_last pc (fun k hk hm => by
      obtain ⟨j, e, hj⟩ := mem_layR hm
      have hk4 : k < 4 := by omega
      have hjk : j < G.cnt k := by
        rcases hj with ⟨-, hj⟩ | ⟨rfl, hj⟩
        · exact hj
        · omega
      have := (g.place_cell hk4 hjk).2
      rw [e, pcl] at this
      subst this
      have := place_inj e
      omega)
    rw [layR_next] at this
    exact this
  intro i
  induction i with
  | zero =>
    intro _
    refine ⟨h, Keep.refl _ _, r, fun hi => ?_⟩
    obtain ⟨-, -, a1, a2, a3⟩ := step 0 ws hi h
    have e := h.len
    exact ⟨by show ws.length ≤ _; omega, by show Pl ws.length _; rw [e]; exact a1, by show Pl ws.length _; rw [e]; exact a2, by show Pl ws.length _; rw [e]; exact a3⟩
  | succ i ih =>
    intro hi
    obtain ⟨h1, k1, r1, -⟩ := ih (by omega)
    obtain ⟨h2, k2, a1, a2, -⟩ := step i _ (by omega) h1
    have w1 := Pl.word a1 (by omega)
    have w2 := Pl.word a2 (by omega)
    refine ⟨h2, k1.trans k2, r1.ins w1.1 w1.2 w2.1 w2.2, fun hi => ?_⟩
    obtain ⟨-, -, a1, a2, a3⟩ := step (i + 1) _ hi h2
    have e := h2.len
    exact ⟨by show (ins _ _ _).length ≤ _; omega, by show Pl (ins _ _ _).length _; rw [e]; exact a1, by show Pl (ins _ _ _).length _; rw [e]; exact a2, by show Pl (ins _ _ _).length _; rw [e]; exact a3⟩

theorem lay_all (g : G.ok) : ∀ c, c ≤ 4 → Rg G.top.toNat G.C (G.layAll G.ground c) (G.layR c 0) ∧ Keep G.C G.ground (G.layAll G.ground c) ∧ Rng (G.layAll G.ground c)
  | 0, _ => ⟨g.ground.1, Keep.refl _ _, g.ground.2.1⟩
  | c + 1, hc => by
    obtain ⟨h1, k1, r1⟩ := lay_all g c (by omega)
    obtain ⟨h2, k2, r2, -⟩ := lay_cells g (by omega) h1 r1 (G.cnt c) (Nat.le_refl _)
    rw [layR_full] at h2
    exact ⟨h2, k1.trans k2, r2⟩

theorem inv_fresh (g : G.ok) : Inv 0 G G.fresh (G.layR 4 0) ∧ (∀ j, 0 ≤ j → j < 12 → gv G.fresh.ws j = 12) := by
  have hl := g.lines
  obtain ⟨h1, k1, r1⟩ := lay_all g 4 (by omega)
  obtain ⟨-, -, hr, hz⟩ := g.ground
  have p : Plc G.top.toNat G.C := g.plc (by omega)
  have hlen : G.fresh.ws.length = G.top.toNat := h1.len
  have M : ∀ x, G.C x → gv G.fresh.ws x = 0 := fun x hx => by
    show gv (G.layAll G.ground 4) x = 0
    rw [k1 x fun u hu => Mem.mark p hx hu, hz x (p.low x hx)]
  have hR : ∀ k, k < 4 → G.layR 4 0 k = G.cellsOf k (G.cnt k) := fun k hk => by unfold Geo.layR; rw [if_pos hk]
  have hR' : ∀ k, 4 ≤ k → G.layR 4 0 k = [] := fun k hk => by
    unfold Geo.layR
    rw [if_neg (by omega)]
    split <;> rfl
  have hcl : ∀ k x, k < 4 → x ∈ G.cellsOf k (G.cnt k) → G.cls x = k := fun k x hk hx => by
    obtain ⟨j, hj, e⟩ := mem_cellsOf.1 hx
    rw [← e]
    exact (g.place_cell hk hj).2
  have hlk : ∀ k, (G.cellsOf k (G.cnt k)).length = G.cnt k := fun k => by unfold Geo.cellsOf; simp
  refine ⟨⟨g, by rw [hlen]; omega, by rw [hlen]; exact h1, r1, ?_, ?_, by show (0 : Int) ≤ 0 ∧ (0 : Int) ≤ 0 ∧ (0 : Int) ≤ 0 ∧ (0 : Int) ≤ 0 ∧ _; omega, ?_, ?_, ?_, ?_, ?_, ?_, ?_, ?_⟩, ?_⟩
  · intro x hx
    obtain ⟨j, hj, e⟩ := g.cell_place hx
    have := G.cls_lt x
    exact ⟨G.cls x, by omega, by rw [hR _ this]; exact mem_cellsOf.2 ⟨j, hj, e.symm⟩⟩
  · intro k x hk hx
    by_cases h4 : k < 4
    · rw [hR k h4] at hx
      rw [hcl k x h4 hx]
      omega
    · rw [hR' k (by omega)] at hx
      cases hx
  · intro k x k4 hk hx
    rw [hR' k k4] at hx
    cases hx
  · intro k x hk hx
    rw [M x (h1.place k (by omega) x hx)]
    show (0 : Int) / 32768 ≤ 0
    decide
  · intro c hc
    rw [hR c hc, hlk]
    exact (g.cnt hc).1.symm
  · intro k x k4 k8 hx
    rw [hR' k k4] at hx
    cases hx
  · intro h
    cases h
  · intro k x k8 k12 hx
    rw [hR' k (by omega)] at hx
    cases hx
  · exact ⟨[], [], by rw [hR' 12 (by omega)]; rfl, fun x hx => absurd hx (by simp), fun x hx => absurd hx (by simp), rfl, fun _ => ⟨rfl, rfl⟩⟩
  · intro c hc
    have own : ∀ k, k < 4 → G.fl c (G.layR 4 0 k) = if k = c then G.cnt c else 0 := fun k hk => by
      rw [hR k hk]
      split
      · next e => subst e; rw [fl_all G fun x hx => hcl k x hk hx, hlk]
      · next e => exact fl_none G (fun x hx => hcl k x hk hx) e
    have oth : ∀ k, 4 ≤ k → G.fl c (G.layR 4 0 k) = 0 := fun k hk => by rw [hR' k hk]; rfl
    have hn := (g.cnt hc).1
    simp only [sumTo]
    rw [own 0 (by omega), own 1 (by omega), own 2 (by omega), own 3 (by omega), oth 4 (by omega), oth 5 (by omega), oth 6 (by omega), oth 7 (by omega), oth 8 (by omega), oth 9 (by omega), oth 10 (by omega), oth 11 (by omega), oth 12 (by omega), ← hn]
    rcases lt4 hc with rfl | rfl | rfl | rfl <;> simp
  · intro j j0 j1
    show gv (G.layAll G.ground 4) j = 12
    rw [k1 j fun u hu => ?_, hr j j0 j1]
    have := (g.register j0 j1) u hu
    omega
end
end Go.Proofs.YtclcnepkgjcmcaaDoor
