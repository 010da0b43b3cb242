/- The flip and the end keep what holds of the heap; so does each increment. Plain mathematics. -/
import Derived.Test.YtclcnepkgjcmcaaDoorQ8
namespace Go.Proofs.YtclcnepkgjcmcaaDoor

theorem joR_at (R : Nat → List Int) (h k j : Nat) : joR R h k j = if j = k then [] else if j = h then R h ++ R k else R j := rfl
theorem flipsR_at (R : Nat → List Int) : ∀ c, c ≤ 4 → ∀ j, flipsR R c j = if 4 ≤ j ∧ j < 4 + c then R j ++ R (j + 4) else if 8 ≤ j ∧ j < 8 + c then [] else R j
  | 0, _, j => by rw [flipsR, if_neg (by omega), if_neg (by omega)]
  | c + 1, hc, j => by
    have ih := flipsR_at R c (by omega)
    rw [flipsR, joR_at, ih, ih, ih]
    by_cases e1 : j = 8 + c
    · rw [if_pos e1, if_neg (by omega), if_pos (by omega)]
    · rw [if_neg e1]
      by_cases e2 : j = 4 + c
      · rw [if_pos e2, if_neg (by omega), if_neg (by omega), if_neg (by omega), if_neg (by omega), if_pos (by omega), e2, show 4 + c + 4 = 8 + c by omega]
      · rw [if_neg e2]
        by_cases e3 : 4 ≤ j ∧ j < 4 + c
        · rw [if_pos e3, if_pos (by omega)]
        · by_cases e4 : 8 ≤ j ∧ j < 8 + c
          · rw [if_neg e3, if_pos e4, if_neg (by omega), if_pos (by omega)]
          · rw [if_neg e3, if_neg e4, if_neg (by omega), if_neg (by omega)]
theorem endsR_at (R : Nat → List Int) : ∀ c, c ≤ 4 → ∀ j, endsR R c j = if j < c then R j ++ R (j + 4) else if 4 ≤ j ∧ j < 4 + c then [] else R j
  | 0, _, j => by rw [endsR, if_neg (by omega), if_neg (by omega)]
  | c + 1, hc, j => by
    have ih := endsR_at R c (by omega)
    rw [endsR, joR_at, ih, ih, ih]
    by_cases e1 : j = 4 + c
    · rw [if_pos e1, if_neg (by omega), if_pos (by omega)]
    · rw [if_neg e1]
      by_cases e2 : j = c
      · rw [if_pos e2, if_neg (by omega), if_neg (by omega), if_neg (by omega), if_neg (by omega), if_pos (by omega), e2, show c + 4 = 4 + c by omega]
      · rw [if_neg e2]
        by_cases e3 : j < c
        · rw [if_pos e3, if_pos (by omega)]
        · by_cases e4 : 4 ≤ j ∧ j < 4 + c
          · rw [if_neg e3, if_pos e4, if_neg (by omega), if_pos (by omega)]
          · rw [if_neg e3, if_neg e4, if_neg (by omega), if_neg (by omega)]

section
variable {B : Int} {G : Geo} {H : Hp} {R : Nat → List Int} {b v : Int}

/-- a ring joined to another -/
theorem joined {n : Nat} {C : Int → Prop} {ws : List Int} {R : Nat → List Int} (p : Plc n C) (g : Rg n C ws R) (hs : n ≤ 1048576) (r : Rng ws) {h k : Nat} (hh : h < 13) (hk : k < 13) (hne : h ≠ k) :
    Rg n C (joi ws (hd h) (hd k)) (joR R h k) ∧ Keep C ws (joi ws (hd h) (hd k)) ∧ Rng (joi ws (hd h) (hd k)) ∧ JoinOk ws (hd h) (hd k) := by
  obtain ⟨g1, k1, a1, a2, a3, a4, a5⟩ := rg_joi p g hh hk hne
  have e := g.len
  have w1 := hd_word h hh
  have w2 := hd_word k hk
  exact ⟨g1, k1, r.joi w1.1 w1.2 w2.1 w2.2, ⟨by omega, by rw [e]; exact a1, by rw [e]; exact a2, by rw [e]; exact a3, by rw [e]; exact a4, by rw [e]; exact a5⟩⟩

theorem flips_facts (i : Inv B G H R) : ∀ c, c ≤ 4 → Rg H.ws.length G.C (H.flips G c).ws (flipsR R c) ∧ Keep G.C H.ws (H.flips G c).ws ∧ Rng (H.flips G c).ws ∧
    (∀ j, j < 4 → (H.flips G c).whi.at_ j = if j < c then G.n.at_ j - H.fre.at_ j else H.whi.at_ j) ∧ (H.flips G c).fre = H.fre ∧ (H.flips G c).wai = H.wai ∧ (H.flips G c).mis = H.mis ∧ (H.flips G c).mrk = H.mrk ∧ (H.flips G c).cyc = H.cyc ∧
    (c < 4 → JoinOk (H.flips G c).ws (hd (4 + c)) (hd (8 + c)))
  | 0, _ => ⟨i.rg, Keep.refl _ _, i.wrd, fun j _ => by rw [if_neg (by omega)]; rfl, rfl, rfl, rfl, rfl, rfl, fun _ => (joined i.plc i.rg i.short i.wrd (by omega) (by omega) (by omega)).2.2.2⟩
  | c + 1, hc => by
    obtain ⟨g1, k1, r1, w1, f1, f2, f3, f4, f5, -⟩ := flips_facts i c (by omega)
    obtain ⟨g2, k2, r2, -⟩ := joined i.plc g1 i.short r1 (h := 4 + c) (k := 8 + c) (by omega) (by omega) (by omega)
    refine ⟨g2, k1.trans k2, r2, fun j hj => ?_, f1, f2, f3, f4, f5, fun h => (joined i.plc g2 i.short r2 (by omega) (by omega) (by omega)).2.2.2⟩
    show ((H.flips G c).whi.put c (G.n.at_ c - (H.flips G c).fre.at_ c)).at_ j = _
    rw [Q4.at_put _ (by omega) hj, f1, w1 j hj]
    by_cases e : j = c
    · subst e
      rw [if_pos rfl, if_pos (by omega)]
    · rw [if_neg e]
      by_cases e2 : j < c
      · rw [if_pos e2, if_pos (by omega)]
      · rw [if_neg e2, if_neg (by omega)]
theorem ends_facts (i : Inv B G H R) : ∀ c, c ≤ 4 → Rg H.ws.length G.C (H.ends c).ws (endsR R c) ∧ Keep G.C H.ws (H.ends c).ws ∧ Rng (H.ends c).ws ∧
    (∀ j, j < 4 → (H.ends c).fre.at_ j = if j < c then H.fre.at_ j + H.whi.at_ j else H.fre.at_ j) ∧ (H.ends c).whi = H.whi ∧ (H.ends c).wai = H.wai ∧ (H.ends c).mis = H.mis ∧ (H.ends c).mrk = H.mrk ∧ (H.ends c).cyc = H.cyc ∧
    (c < 4 → JoinOk (H.ends c).ws (hd c) (hd (4 + c)))
  | 0, _ => ⟨i.rg, Keep.refl _ _, i.wrd, fun j _ => by rw [if_neg (by omega)]; rfl, rfl, rfl, rfl, rfl, rfl, fun _ => (joined i.plc i.rg i.short i.wrd (by omega) (by omega) (by omega)).2.2.2⟩
  | c + 1, hc => by
    obtain ⟨g1, k1, r1, w1, f1, f2, f3, f4, f5, -⟩ := ends_facts i c (by omega)
    obtain ⟨g2, k2, r2, -⟩ := joined i.plc g1 i.short r1 (h := c) (k := 4 + c) (by omega) (by omega) (by omega)
    refine ⟨g2, k1.trans k2, r2, fun j hj => ?_, f1, f2, f3, f4, f5, fun h => (joined i.plc g2 i.short r2 (by omega) (by omega) (by omega)).2.2.2⟩
    show ((H.ends c).fre.put c ((H.ends c).fre.at_ c + (H.ends c).whi.at_ c)).at_ j = _
    rw [Q4.at_put _ (by omega) hj, f1, w1 j hj, w1 c (by omega)]
    by_cases e : j = c
    · subst e
      rw [if_pos rfl, if_neg (by omega), if_pos (by omega)]
    · rw [if_neg e]
      by_cases e2 : j < c
      · rw [if_pos e2, if_pos (by omega)]
      · rw [if_neg e2, if_neg (by omega)]

theorem tot_flips (G : Geo) (R : Nat → List Int) (d : Nat) : ∀ c, c ≤ 4 → sumTo (fun j => G.fl d (flipsR R c j)) 13 = sumTo (fun j => G.fl d (R j)) 13
  | 0, _ => rfl
  | c + 1, h => by
    have := tot_joR (R := flipsR R c) G d (h := 4 + c) (k := 8 + c) (by omega) (by omega) (by omega)
    exact this.trans (tot_flips G R d c (by omega))
theorem tot_ends (G : Geo) (R : Nat → List Int) (d : Nat) : ∀ c, c ≤ 4 → sumTo (fun j => G.fl d (endsR R c j)) 13 = sumTo (fun j => G.fl d (R j)) 13
  | 0, _ => rfl
  | c + 1, h => by
    have := tot_joR (R := endsR R c) G d (h := c) (k := 4 + c) (by omega) (by omega) (by omega)
    exact this.trans (tot_ends G R d c (by omega))

/-- how many are had of each size: all but the free -/
theorem Inv.count (i : Inv B G H R) {c : Nat} (hc : c < 4) : G.n.at_ c = ((R c).length + (R (4 + c)).length + (R (8 + c)).length + G.fl c (R 12) : Int) := by
  have h := i.tot c hc
  have own : ∀ j, j < 12 → j % 4 = c → G.fl c (R j) = (R j).length := fun j hj e => fl_all G fun x hx => by rw [i.cls j x hj hx, e]
  have oth : ∀ j, j < 12 → j % 4 ≠ c → G.fl c (R j) = 0 := fun j hj e => fl_none G (fun x hx => i.cls j x hj hx) e
  simp only [sumTo] at h
  rcases lt4 hc with rfl | rfl | rfl | rfl
  · rw [own 0 (by omega) rfl, oth 1 (by omega) (by decide), oth 2 (by omega) (by decide), oth 3 (by omega) (by decide), own 4 (by omega) rfl, oth 5 (by omega) (by decide), oth 6 (by omega) (by decide), oth 7 (by omega) (by decide), own 8 (by omega) rfl, oth 9 (by omega) (by decide), oth 10 (by omega) (by decide), oth 11 (by omega) (by decide)] at h
    rw [← h]; simp
  · rw [oth 0 (by omega) (by decide), own 1 (by omega) rfl, oth 2 (by omega) (by decide), oth 3 (by omega) (by decide), oth 4 (by omega) (by decide), own 5 (by omega) rfl, oth 6 (by omega) (by decide), oth 7 (by omega) (by decide), oth 8 (by omega) (by decide), own 9 (by omega) rfl, oth 10 (by omega) (by decide), oth 11 (by omega) (by decide)] at h
    rw [← h]; simp
  · rw [oth 0 (by omega) (by decide), oth 1 (by omega) (by decide), own 2 (by omega) rfl, oth 3 (by omega) (by decide), oth 4 (by omega) (by decide), oth 5 (by omega) (by decide), own 6 (by omega) rfl, oth 7 (by omega) (by decide), oth 8 (by omega) (by decide), oth 9 (by omega) (by decide), own 10 (by omega) rfl, oth 11 (by omega) (by decide)] at h
    rw [← h]; simp
  · rw [oth 0 (by omega) (by decide), oth 1 (by omega) (by decide), oth 2 (by omega) (by decide), own 3 (by omega) rfl, oth 4 (by omega) (by decide), oth 5 (by omega) (by decide), oth 6 (by omega) (by decide), own 7 (by omega) rfl, oth 8 (by omega) (by decide), oth 9 (by omega) (by decide), oth 10 (by omega) (by decide), own 11 (by omega) rfl] at h
    rw [← h]; simp

/-- when it is idle no cell is white, and there is no task -/
theorem Inv.idle (i : Inv B G H R) (hm : H.mrk = false) : (∀ j, 4 ≤ j → j < 8 → R j = []) ∧ R 12 = [] ∧ H.wai = 0 := by
  refine ⟨fun j h4 h8 => ?_, ?_⟩
  · cases hr : R j with
    | nil => rfl
    | cons x l =>
      have := (i.white j x h4 h8 (by rw [hr]; simp)).1
      rw [hm] at this
      cases this
  · obtain ⟨g, w, e, -, -, hl, hi⟩ := i.tasks
    obtain ⟨rfl, rfl⟩ := hi hm
    exact ⟨e, hl⟩

theorem inv_flip0 (i : Inv B G H R) (hm : H.mrk = false) : Inv B G { H.flips G 4 with mrk := true } (flipsR R 4) ∧ Dat G H.ws (H.flips G 4).ws ∧ ∀ x, G.C x → gv (H.flips G 4).ws x = gv H.ws x := by
  obtain ⟨g1, k1, r1, w1, f1, f2, f3, f4, f5, -⟩ := flips_facts i 4 (by omega)
  obtain ⟨hw, h12, hwai⟩ := i.idle hm
  have p := i.plc
  have hnext : H.next = H.cyc + 1 := by rw [Hp.next, hm]; rfl
  have M : ∀ x, G.C x → gv (H.flips G 4).ws x = gv H.ws x := fun x hx => k1 x fun u hu => Mem.mark p hx hu
  have A := flipsR_at R 4 (by omega)
  have A4 : ∀ j, 4 ≤ j → j < 8 → flipsR R 4 j = R (j + 4) := fun j h4 h8 => by rw [A, if_pos ⟨h4, by omega⟩, hw j h4 h8]; rfl
  have A8 : ∀ j, 8 ≤ j → j < 12 → flipsR R 4 j = [] := fun j h4 h8 => by rw [A, if_neg (by omega), if_pos ⟨h4, by omega⟩]
  have A0 : ∀ j, j < 4 ∨ 12 ≤ j → flipsR R 4 j = R j := fun j h => by rw [A, if_neg (by omega), if_neg (by omega)]
  have hnext' : ({ H.flips G 4 with mrk := true } : Hp).next = H.cyc + 2 := by unfold Hp.next; simp only [if_true]; rw [f5]
  have hlen : (H.flips G 4).ws.length = H.ws.length := g1.len
  refine ⟨⟨i.ok, by rw [show ({ H.flips G 4 with mrk := true } : Hp).ws.length = H.ws.length from hlen]; exact i.len, by rw [show ({ H.flips G 4 with mrk := true } : Hp).ws.length = H.ws.length from hlen]; exact g1, r1, ?_, ?_, ?_, ?_, ?_, ?_, ?_, ?_, ?_, ?_, ?_⟩, Keep.dat p hlen k1, M⟩
  · intro x hx
    obtain ⟨k, hk, hxk⟩ := i.cover x hx
    by_cases e : 8 ≤ k ∧ k < 12
    · exact ⟨k - 4, by omega, by rw [A4 _ (by omega) (by omega), show k - 4 + 4 = k by omega]; exact hxk⟩
    · by_cases e4 : 4 ≤ k ∧ k < 8
      · rw [hw k e4.1 e4.2] at hxk
        exact absurd hxk (by simp)
      · exact ⟨k, hk, by rw [A0 k (by omega)]; exact hxk⟩
  · intro k x hk hx
    by_cases e : 8 ≤ k
    · rw [A8 k e hk] at hx
      exact absurd hx (by simp)
    · by_cases e4 : 4 ≤ k
      · rw [A4 k e4 (by omega)] at hx
        have := i.cls (k + 4) x (by omega) hx
        omega
      · rw [A0 k (by omega)] at hx
        exact i.cls k x hk hx
  · show 0 ≤ (H.flips G 4).cyc ∧ (H.flips G 4).cyc ≤ B ∧ 0 ≤ (H.flips G 4).mis ∧ (H.flips G 4).mis ≤ B ∧ _
    rw [f5, f3]
    exact i.bnd
  · intro k x k4 hk hx
    show 1 ≤ mform (gv (H.flips G 4).ws x) ∧ mform (gv (H.flips G 4).ws x) ≤ 3 ∧ cln (msize (gv (H.flips G 4).ws x)) = G.cls x ∧ (mform (gv (H.flips G 4).ws x) = 3 → msize (gv (H.flips G 4).ws x) = 2)
    rw [M x (g1.place k hk x hx)]
    by_cases e : k < 8
    · rw [A4 k k4 e] at hx
      exact i.shp (k + 4) x (by omega) (by omega) hx
    · by_cases e2 : k < 12
      · rw [A8 k (by omega) e2] at hx
        exact absurd hx (by simp)
      · rw [A0 k (by omega)] at hx
        exact i.shp k x k4 hk hx
  · intro k x hk hx
    show mlast (gv (H.flips G 4).ws x) ≤ (H.flips G 4).cyc
    rw [M x (g1.place k (by omega) x hx), f5]
    rw [A0 k (by omega)] at hx
    exact i.fre k x hk hx
  · intro c hc
    show (H.flips G 4).fre.at_ c = _
    rw [f1, A0 c (by omega)]
    exact i.frec c hc
  · intro k x k4 k8 hx
    refine ⟨rfl, ?_⟩
    show mlast (gv (H.flips G 4).ws x) = (H.flips G 4).cyc + 1
    rw [M x (g1.place k (by omega) x hx), f5]
    rw [A4 k k4 k8] at hx
    rw [(i.black (k + 4) x (by omega) (by omega) hx).1, hnext]
  · intro _ c hc
    show (H.flips G 4).whi.at_ c = _
    rw [w1 c hc, if_pos hc, A4 (4 + c) (by omega) (by omega), i.frec c hc, i.count hc, hw (4 + c) (by omega) (by omega), h12, fl_nil, show 4 + c + 4 = 8 + c by omega]
    simp
    omega
  · intro k x k8 k12 hx
    rw [A8 k k8 k12] at hx
    exact absurd hx (by simp)
  · refine ⟨[], [], by rw [A0 12 (by omega), h12]; rfl, fun x hx => absurd hx (by simp), fun x hx => absurd hx (by simp), ?_, fun _ => ⟨rfl, rfl⟩⟩
    show (H.flips G 4).wai = _
    rw [f2, hwai]
    rfl
  · intro c hc
    rw [tot_flips G R c 4 (by omega)]
    exact i.tot c hc

theorem inv_end (i : Inv B G H R) (hm : H.mrk = true) (h12 : R 12 = []) (hB : B + 1 ≤ 1000000000) : Inv (B + 1) G H.end_ (endsR R 4) ∧ Dat G H.ws H.end_.ws ∧ ∀ x, G.C x → gv H.end_.ws x = gv H.ws x := by
  obtain ⟨g1, k1, r1, w1, f1, f2, f3, f4, f5, -⟩ := ends_facts i 4 (by omega)
  have p := i.plc
  have hbd := i.bnd
  have hnext : H.next = H.cyc + 2 := by rw [Hp.next, hm]; rfl
  have M : ∀ x, G.C x → gv (H.ends 4).ws x = gv H.ws x := fun x hx => k1 x fun u hu => Mem.mark p hx hu
  have A := endsR_at R 4 (by omega)
  have A0 : ∀ j, j < 4 → endsR R 4 j = R j ++ R (j + 4) := fun j h => by rw [A, if_pos h]
  have A4 : ∀ j, 4 ≤ j → j < 8 → endsR R 4 j = [] := fun j h4 h8 => by rw [A, if_neg (by omega), if_pos ⟨h4, by omega⟩]
  have A8 : ∀ j, 8 ≤ j → endsR R 4 j = R j := fun j h => by rw [A, if_neg (by omega), if_neg (by omega)]
  have hnext' : H.end_.next = H.cyc + 2 := by
    show (if false = true then H.cyc + 1 + 2 else H.cyc + 1 + 1) = _
    simp; omega
  have hlen : H.end_.ws.length = H.ws.length := g1.len
  refine ⟨⟨i.ok, by rw [hlen]; exact i.len, by rw [hlen]; exact g1, r1, ?_, ?_, ?_, ?_, ?_, ?_, ?_, ?_, ?_, ?_, ?_⟩, Keep.dat p hlen k1, M⟩
  · intro x hx
    obtain ⟨k, hk, hxk⟩ := i.cover x hx
    by_cases e : k < 4
    · exact ⟨k, by omega, by rw [A0 k e]; simp [hxk]⟩
    · by_cases e4 : k < 8
      · exact ⟨k - 4, by omega, by rw [A0 _ (by omega), show k - 4 + 4 = k by omega]; simp [hxk]⟩
      · exact ⟨k, hk, by rw [A8 k (by omega)]; exact hxk⟩
  · intro k x hk hx
    by_cases e : k < 4
    · rw [A0 k e] at hx
      rcases List.mem_append.1 hx with hx | hx
      · exact i.cls k x hk hx
      · have := i.cls (k + 4) x (by omega) hx
        omega
    · by_cases e4 : k < 8
      · rw [A4 k (by omega) e4] at hx
        exact absurd hx (by simp)
      · rw [A8 k (by omega)] at hx
        exact i.cls k x hk hx
  · show 0 ≤ H.cyc + 1 ∧ H.cyc + 1 ≤ B + 1 ∧ 0 ≤ (H.ends 4).mis ∧ (H.ends 4).mis ≤ B + 1 ∧ _
    rw [f3]
    omega
  · intro k x k4 hk hx
    show 1 ≤ mform (gv (H.ends 4).ws x) ∧ mform (gv (H.ends 4).ws x) ≤ 3 ∧ cln (msize (gv (H.ends 4).ws x)) = G.cls x ∧ (mform (gv (H.ends 4).ws x) = 3 → msize (gv (H.ends 4).ws x) = 2)
    rw [M x (g1.place k hk x hx)]
    by_cases e : k < 8
    · rw [A4 k k4 e] at hx
      exact absurd hx (by simp)
    · rw [A8 k (by omega)] at hx
      exact i.shp k x k4 hk hx
  · intro k x hk hx
    show mlast (gv (H.ends 4).ws x) ≤ H.cyc + 1
    rw [M x (g1.place k (by omega) x hx)]
    rw [A0 k hk] at hx
    rcases List.mem_append.1 hx with hx | hx
    · have := i.fre k x hk hx
      omega
    · have := (i.white (k + 4) x (by omega) (by omega) hx).2
      omega
  · intro c hc
    show (H.ends 4).fre.at_ c = _
    rw [w1 c hc, if_pos hc, A0 c hc, i.frec c hc, i.whic hm c hc, List.length_append, show 4 + c = c + 4 by omega]
    simp
  · intro k x k4 k8 hx
    rw [A4 k k4 k8] at hx
    exact absurd hx (by simp)
  · intro h
    cases h
  · intro k x k8 k12 hx
    rw [hnext']
    show mlast (gv (H.ends 4).ws x) = _ ∧ mtask (gv (H.ends 4).ws x) = 0
    rw [M x (g1.place k (by omega) x hx), ← hnext]
    rw [A8 k k8] at hx
    exact i.black k x k8 k12 hx
  · refine ⟨[], [], by rw [A8 12 (by omega), h12]; rfl, fun x hx => absurd hx (by simp), fun x hx => absurd hx (by simp), ?_, fun _ => ⟨rfl, rfl⟩⟩
    obtain ⟨g, w, e, -, -, hl, -⟩ := i.tasks
    rw [h12] at e
    have : w = [] := by
      have := congrArg List.length e
      simp at this
      exact List.eq_nil_of_length_eq_zero (by omega)
    show (H.ends 4).wai = _
    rw [f2, hl, this]
  · intro c hc
    rw [tot_ends G R c 4 (by omega)]
    exact i.tot c hc

/-- the first task, if there is one -/
theorem Inv.first (i : Inv B G H R) : (R 12 = [] ∧ gv H.ws (hd 12 + 2) = hd 12) ∨ ∃ x l, R 12 = x :: l ∧ gv H.ws (hd 12 + 2) = x ∧ x ≠ hd 12 := by
  have hp := i.rg.path 12 (by omega)
  cases hr : R 12 with
  | nil =>
    rw [hr] at hp
    exact .inl ⟨rfl, hp.1⟩
  | cons x l =>
    rw [hr] at hp
    exact .inr ⟨x, l, rfl, hp.1.1, i.rg.nothead i.plc (by omega) (k := 12) (by rw [hr]; simp) 12 (by omega)⟩

theorem inv_regs (i : Inv B G H R) : ∀ n, Inv B G (H.shadeRegs G n) (H.shadeRegsR G R n) ∧ Dat G H.ws (H.shadeRegs G n).ws
  | 0 => ⟨i, Dat.refl _ _⟩
  | n + 1 => by
    obtain ⟨i1, d1⟩ := inv_regs i n
    have hr := i1.wrd n
    obtain ⟨i2, d2, -⟩ := inv_shade i1 hr.1 hr.2
    exact ⟨i2, d1.trans d2⟩

/-- An increment. -/
theorem inv_inc (i : Inv B G H R) (hB : B + 1 ≤ 1000000000) : Inv (B + 1) G (H.inc G) (H.incR G R) := by
  have hbd := i.bnd
  cases hm : H.mrk
  · rw [Hp.inc, hm, Hp.incR, hm]
    simp only [Bool.false_eq_true, if_false]
    exact ((inv_regs (inv_flip0 i hm).1 12).1).raise (by omega) hB
  · rw [Hp.inc, hm, Hp.incR, hm]
    simp only [if_true]
    rcases i.first with ⟨h12, hf⟩ | ⟨x, l, h12, hf, hne⟩
    · rw [if_pos hf, if_pos hf]
      exact (inv_end i hm h12 hB).1
    · have hx : x ∈ R 12 := by rw [h12]; simp
      rw [hf, if_neg hne, if_neg hne]
      obtain ⟨-, ht | ht⟩ := i.mem12 hx
      · rw [if_pos ht, if_pos ht]
        exact ((inv_scan i hx ht).1).raise (by omega) hB
      · rw [if_neg (by omega), if_pos ht, if_neg (by omega)]
        exact inv_look i hx ht hB
theorem inv_incs (i : Inv B G H R) : ∀ n : Nat, B + n ≤ 1000000000 → Inv (B + n) G (H.incs G n) (H.incsR G R n)
  | 0, _ => by
    rw [show B + ((0 : Nat) : Int) = B by omega]
    exact i
  | n + 1, hn => by
    have := inv_inc (inv_incs i n (by omega)) (by omega)
    rw [show B + ((n + 1 : Nat) : Int) = B + n + 1 by omega]
    exact this
/-- the fields of a task lie within the words -/
theorem Inv.fields (i : Inv B G H R) {x : Int} {k : Nat} (h4 : 4 ≤ k) (hk : k < 13) (hx : x ∈ R k) {j : Int} (h0 : 0 ≤ j) (h1 : j < msize (gv H.ws x)) : inside H.ws.length (x + 3 + j) = true ∧ G.data (x + 3 + j) ∧ j + 3 < ln (G.cls x) := by
  have hC := i.rg.place k hk x hx
  obtain ⟨-, -, hs, -⟩ := i.shp k x h4 hk hx
  have hl : j + 3 < ln (G.cls x) := by
    rw [← hs]
    have := msize_bd (gv H.ws x)
    generalize msize (gv H.ws x) = n at *
    unfold cln ln
    (repeat' split) <;> omega
  have := Geo.extent i.ok hC
  have := i.len
  exact ⟨inside_mk (by omega) (by omega), i.ok.field hC h0 hl, hl⟩

end
end Go.Proofs.YtclcnepkgjcmcaaDoor
