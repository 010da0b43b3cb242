/- Safety: a look at a weak thing that waits. Plain mathematics. -/
import Derived.Test.YtclcnepkgjcmcaaDoorQ13
namespace Go.Proofs.YtclcnepkgjcmcaaDoor
open Go.RowKit

section
variable {M : Md} {A D : Nat → Prop} {R : Nat → List Int} {B : Int} {G : Geo} {H H' : Hp} {z k : Nat} {ws : List Int}

theorem namesWhite_keep (g : G.ok) {v : Int} (v0 : 0 ≤ v) (v1 : v < 18446744073709551616) (e1 : H'.mrk = H.mrk) (e2 : H'.cyc = H.cyc) (e : ∀ y, G.C y → H.isWhite (gv H.ws y) = true → gv H'.ws y = gv H.ws y)
    (h : H.namesWhite G v = true) : H'.namesWhite G v = true := by
  unfold Hp.namesWhite at h ⊢
  rw [Bool.and_eq_true] at h
  obtain ⟨h1, h2⟩ := h
  rw [h1, e _ (plc_cell g v0 v1 h1).1 h2]
  unfold Hp.isWhite at h2 ⊢
  rw [e1, e2, h2]
  rfl

/-- a field is written -/
theorem Ct.put (s : Ct G ws M A D) (g : G.ok) (hl : (ws.length : Int) = G.top) (hA : A z) {j0 : Nat} (h0 : j0 < M.len z) (x : Int) :
    (∀ b, G.C b → gv (sv ws (M.cell z + 3 + j0) x) b = gv ws b) ∧
    (∀ i, A i → ∀ j : Nat, j < M.len i → gv (sv ws (M.cell z + 3 + j0) x) (M.cell i + 3 + j) = if i = z ∧ j = j0 then x else gv ws (M.cell i + 3 + j)) ∧
    (∀ r : Int, 0 ≤ r → r < 12 → gv (sv ws (M.cell z + 3 + j0) x) r = gv ws r) := by
  have hz := s.place z (s.sub z hA)
  have hx := Geo.extent g hz
  have hr := s.room z hA
  have hin : inside ws.length (M.cell z + 3 + j0) = true := inside_mk (by omega) (by omega)
  have hd' := Geo.ok.field g hz (i := (j0 : Int)) (by omega) (by omega)
  have E := fun y => gv_sv x y hin
  refine ⟨fun b hb => ?_, fun i ha j hj => ?_, fun r r0 r1 => ?_⟩
  · rw [E, if_neg (fun e => (hd' b (.inr hb)).1 e.symm)]
  · rw [E]
    by_cases e : i = z
    · subst e
      by_cases e2 : j = j0
      · subst e2
        rw [if_pos rfl, if_pos ⟨rfl, rfl⟩]
      · rw [if_neg (by omega), if_neg (fun h => e2 h.2)]
    · have hne : M.cell i ≠ M.cell z := fun h => e (s.inj i z (s.sub i ha) (s.sub z hA) h)
      have hi := s.place i (s.sub i ha)
      have hri := s.room i ha
      rw [if_neg (by have := Geo.far g hi hz hne; omega), if_neg (fun h => e h.1)]
  · rw [E, if_neg (by omega)]

/-- both fields of a weak thing are written -/
theorem Ct.put2 (s : Ct G ws M A D) (g : G.ok) (hl : (ws.length : Int) = G.top) (hA : A z) (h2 : M.len z = 2) :
    (∀ b, G.C b → gv (sv (sv ws (M.cell z + 3) 3) (M.cell z + 4) 3) b = gv ws b) ∧
    (∀ i, A i → i ≠ z → ∀ j : Nat, j < M.len i → gv (sv (sv ws (M.cell z + 3) 3) (M.cell z + 4) 3) (M.cell i + 3 + j) = gv ws (M.cell i + 3 + j)) ∧
    (∀ r : Int, 0 ≤ r → r < 12 → gv (sv (sv ws (M.cell z + 3) 3) (M.cell z + 4) 3) r = gv ws r) ∧
    gv (sv (sv ws (M.cell z + 3) 3) (M.cell z + 4) 3) (M.cell z + 3) = 3 ∧ gv (sv (sv ws (M.cell z + 3) 3) (M.cell z + 4) 3) (M.cell z + 4) = 3 := by
  obtain ⟨a1, a2, a3⟩ := s.put g hl hA (j0 := 0) (by omega) 3
  rw [show M.cell z + 3 + ((0 : Nat) : Int) = M.cell z + 3 by omega] at a1 a2 a3
  have hz := s.place z (s.sub z hA)
  have hx := Geo.extent g hz
  have hr := s.room z hA
  have hin : inside (sv ws (M.cell z + 3) 3).length (M.cell z + 4) = true := by
    rw [sv_length]
    exact inside_mk (by omega) (by omega)
  have hd' := Geo.ok.field g hz (i := 1) (by omega) (by omega)
  have E := fun y => gv_sv 3 y hin
  have b1 : ∀ b, G.C b → gv (sv (sv ws (M.cell z + 3) 3) (M.cell z + 4) 3) b = gv ws b := fun b hb => by
    rw [E, if_neg (fun e => (hd' b (.inr hb)).1 (by omega)), a1 b hb]
  have b2 : ∀ i, A i → i ≠ z → ∀ j : Nat, j < M.len i → gv (sv (sv ws (M.cell z + 3) 3) (M.cell z + 4) 3) (M.cell i + 3 + j) = gv ws (M.cell i + 3 + j) := fun i ha e j hj => by
    have hne : M.cell i ≠ M.cell z := fun h => e (s.inj i z (s.sub i ha) (s.sub z hA) h)
    have hi := s.place i (s.sub i ha)
    have hri := s.room i ha
    rw [E, if_neg (by have := Geo.far g hi hz hne; omega), a2 i ha j hj, if_neg (fun h => e h.1)]
  have b3 : ∀ r : Int, 0 ≤ r → r < 12 → gv (sv (sv ws (M.cell z + 3) 3) (M.cell z + 4) 3) r = gv ws r := fun r r0 r1 => by
    rw [E, if_neg (by omega), a3 r r0 r1]
  refine ⟨b1, b2, b3, ?_, ?_⟩
  · rw [E, if_neg (by omega)]
    have := a2 z hA 0 (by omega)
    rw [if_pos ⟨rfl, rfl⟩, show M.cell z + 3 + ((0 : Nat) : Int) = M.cell z + 3 by omega] at this
    exact this
  · rw [E, if_pos rfl]
/-- a weak thing whose key isn't in A is broken -/
theorem Ct.broken (s : Ct G ws M A D) (g : G.ok) (hl : (ws.length : Int) = G.top) (hA : A z) (hf : M.form z = 3) (hk : ¬ (M.fld z 0).Has A) :
    Ct G (sv (sv ws (M.cell z + 3) 3) (M.cell z + 4) 3) M A D := by
  obtain ⟨b1, b2, b3, b4, b5⟩ := s.put2 g hl hA ((s.kind z hA).2 hf)
  refine ⟨s.place, s.inj, s.sub, s.kind, fun i ha => ?_, s.room, fun i ha hf' j hj => ?_, fun i ha hf' => ?_, fun r hr => ?_, fun r r8 r12 => ?_, s.goodf, s.goodr, s.closed⟩
  · rw [b1 _ (s.place i (s.sub i ha))]
    exact s.mark i ha
  · rw [b2 i ha (fun e => hf' (e ▸ hf)) j hj]
    exact s.flds i ha hf' j hj
  · by_cases e : i = z
    · subst e
      exact .inr ⟨b4, b5, hk⟩
    · have hl2 := (s.kind i ha).2 hf'
      have c0 := b2 i ha e 0 (by omega)
      have c1 := b2 i ha e 1 (by omega)
      rw [show M.cell i + 3 + ((0 : Nat) : Int) = M.cell i + 3 by omega] at c0
      rw [show M.cell i + 3 + ((1 : Nat) : Int) = M.cell i + 4 by omega] at c1
      rw [c0, c1]
      exact s.weak i ha hf'
  · rw [b3 r (by omega) (by omega)]
    exact s.regs r hr
  · rw [b3 r (by omega) (by omega)]
    exact s.rest r r8 r12

theorem only_waiting (i : Inv B G H R) {b : Int} {l : List Int} (h12 : R 12 = b :: l) (ht : mtask (gv H.ws b) = 2) : (∀ x, x ∈ R 12 → mtask (gv H.ws x) = 2 ∧ mform (gv H.ws x) = 3) ∧ H.wai = l.length + 1 := by
  obtain ⟨g, w, e, hg, hw, hwai, -⟩ := i.tasks
  have hg0 : g = [] := by
    cases g with
    | nil => rfl
    | cons y g' =>
      rw [h12] at e
      have : b = y := (List.cons.inj e).1
      have := (hg y (by simp)).1
      subst b
      omega
  subst hg0
  rw [List.nil_append] at e
  refine ⟨fun x hx => ?_, ?_⟩
  · rw [e] at hx
    exact ⟨(hw x hx).1, (hw x hx).2.2⟩
  · rw [hwai, ← e, h12]
    simp

theorem three_none : (V.w 3).ok := ⟨by omega, by omega, by decide +kernel⟩
/-- the keys of those that wait, by their things -/
theorem Ct.key_of (s : Ct G H.ws M A D) (i : Inv B G H R) (hA : A z) (hf : M.form z = 3) (h : H.namesWhite G (gv H.ws (M.cell z + 3)) = true) :
    gv H.ws (M.cell z + 3) = (M.fld z 0).wd M.cell ∧ ∃ t, M.fld z 0 = .t t ∧ D t ∧ ¬ Nw R (M.cell t) := by
  rcases s.weak z hA hf with ⟨e0, -, hD⟩ | ⟨e0, -⟩
  · rw [e0] at h
    obtain ⟨t, a, b, c, -⟩ := s.white_key i (s.goodf z hA (by omega) 0 (by have := (s.kind z hA).2 hf; omega)) hD h
    exact ⟨e0, t, a, b, c⟩
  · exfalso
    rw [e0] at h
    unfold Hp.namesWhite at h
    rw [plc_kd (v := 3) (by decide +kernel)] at h
    simp at h

/-- a weak thing that waits is looked at -/
theorem safe_look (i : Inv B G H R) (s : Ct G H.ws M A D) (c : Co R M A D) (sn : Snap M A R) (w : Mw G H R) (hm : H.mrk = true) (hA : A z) {l : List Int} (h12 : R 12 = M.cell z :: l)
    (ht : mtask (gv H.ws (M.cell z)) = 2) (hB : B + 1 ≤ 1000000000) :
    Ct G (H.look G (M.cell z) (gv H.ws (M.cell z))).ws M A D ∧ Co (H.lookR G R (M.cell z)) M A D ∧ Snap M A (H.lookR G R (M.cell z)) ∧ (H.look G (M.cell z) (gv H.ws (M.cell z))).mrk = true ∧
      Mw G (H.look G (M.cell z) (gv H.ws (M.cell z))) (H.lookR G R (M.cell z)) ∧ (Kw M A R H.ws → Kw M A (H.lookR G R (M.cell z)) (H.look G (M.cell z) (gv H.ws (M.cell z))).ws) := by
  have hb : M.cell z ∈ R 12 := by rw [h12]; simp
  obtain ⟨e1, e2⟩ := s.mark z hA
  have hCl := G.cls_lt (M.cell z)
  have hbd := i.bnd
  obtain ⟨f3, -, -⟩ := i.weak hb ht
  have hf : M.form z = 3 := by omega
  have hl2 := (s.kind z hA).2 hf
  have hC := s.place z (s.sub z hA)
  cases hn : H.namesWhite G (gv H.ws (M.cell z + 3))
  · rw [Hp.look, hn, Hp.lookR, hn]
    simp only [Bool.false_eq_true, if_false]
    have i0 := i.miss (y := 0) (by omega) (by omega)
    obtain ⟨v, hv, hvA, ev, hS, hK⟩ : ∃ v : V, v.ok ∧ v.Has A ∧ gv H.ws (M.cell z + 4) = v.wd M.cell ∧ (¬ (M.fld z 0).Has A ∨ (M.fld z 1).Has A ∧ v = M.fld z 1) ∧ ((M.fld z 0).Has A ∨ (gv H.ws (M.cell z + 3) = 3 ∧ gv H.ws (M.cell z + 4) = 3)) := by
      rcases s.weak z hA hf with ⟨e0, e1, hD⟩ | ⟨e0, e1, hk⟩
      · rw [e0] at hn
        have h0 := s.black_key c i (s.goodf z hA (by omega) 0 (by omega)) hD hn
        have h1 := s.closed.weak z hA hf h0
        exact ⟨_, s.goodf z hA (by omega) 1 (by omega), h1, e1, .inr ⟨h1, rfl⟩, .inl h0⟩
      · exact ⟨.w 3, three_none, trivial, e1, .inl hk, .inr ⟨e0, e1⟩⟩
    rw [ev]
    have s0 : Ct G ({ H with mis := 0 } : Hp).ws M A D := s
    obtain ⟨s1, c1, n1, b1, w1⟩ := safe_shade i0 s0 c hv hvA
    obtain ⟨v0, v1, -⟩ := s0.wd i0.ok hv (V.Has.mono s.sub hvA)
    obtain ⟨i1, d1, -⟩ := inv_shade i0 v0 v1
    obtain ⟨t1, t2⟩ := shade_task i0 v0 v1 (k := 12) (by omega) (by omega) hb
    obtain ⟨-, -, -, -, g5, -, -, g8, -⟩ := shade_facts i0 v0 v1
    have t2' : gv (({ H with mis := 0 } : Hp).shade G (v.wd M.cell)).ws (M.cell z) = gv H.ws (M.cell z) := t2
    have hbd1 := i1.bnd
    have m1 : (({ H with mis := 0 } : Hp).shade G (v.wd M.cell)).mis = 0 := by
      rw [g8]
      split <;> rfl
    obtain ⟨-, d2, -⟩ := inv_finish i1 t1 (x := (({ H with mis := 0 } : Hp).shade G (v.wd M.cell)).wai - 1) (y := (({ H with mis := 0 } : Hp).shade G (v.wd M.cell)).mis) (by rw [t2', if_pos ht]) ⟨hbd1.2.2.1, hbd1.2.2.2.1⟩
    rw [t2'] at d2
    obtain ⟨c2, n2, b2⟩ := c1.moved (R' := mvR (({ H with mis := 0 } : Hp).shadeR G R (v.wd M.cell)) 12 (8 + G.cls (M.cell z)) (M.cell z)) t1 (k := 8 + G.cls (M.cell z)) (by omega) (fun j x hj => mem_mvR i1.rg (by omega) t1 (by omega) hj)
    refine ⟨s1.dat i.ok d2, c2, sn.black z (fun t ta h => (n2 _).2 (n1 _ h)) (fun t ta h => ?_) (fun h => by omega) (fun _ => ?_), g5.trans hm, Mw.zero m1, fun kw t ta tf h => ?_⟩
    · rcases b2 _ h with h | ⟨h, -⟩
      · exact .inl ((b1 _).1 h)
      · exact .inr (s.inj t z (s.sub t ta) (s.sub z hA) h)
    · rcases hS with h | ⟨h, e⟩
      · exact .inl h
      · refine .inr fun t et => ⟨?_, (n2 _).2 (w1 hm t (e.trans et))⟩
        rw [et] at h
        exact h
    · obtain ⟨x1, x2⟩ := s0.weak_dat i.ok (d1.trans d2) ta tf
      have x1' := x1
      have x2' := x2
      rw [show gv ({ H with mis := 0 } : Hp).ws (M.cell t + 3) = gv H.ws (M.cell t + 3) from rfl] at x1'
      rw [show gv ({ H with mis := 0 } : Hp).ws (M.cell t + 4) = gv H.ws (M.cell t + 4) from rfl] at x2'
      rcases b2 _ h with h | ⟨h, -⟩
      · refine (kw t ta tf ((b1 _).1 h)).imp (fun h => h) fun h => ⟨x1'.trans h.1, x2'.trans h.2⟩
      · have e := s.inj t z (s.sub t ta) (s.sub z hA) h
        subst e
        exact hK.imp (fun h => h) fun h => ⟨x1'.trans h.1, x2'.trans h.2⟩
  · obtain ⟨e0, t, et, hDt, hnw⟩ := s.key_of i hA hf hn
    obtain ⟨hw2, hwai⟩ := only_waiting i h12 ht
    have hlost : ∀ x, x ∈ l → (l.length : Int) ≤ H.mis → H.namesWhite G (gv H.ws (x + 3)) = true := fun x hx hle => w.lost [M.cell z] l h12 hle x hx
    have hnd : M.cell z ∉ l := by
      have := i.rg.nodup 12 (by omega)
      rw [h12] at this
      exact (List.nodup_cons.1 this).1
    have hwz : H.isWhite (gv H.ws (M.cell z)) = false := i.not_white (k := 12) (by omega) hb (.inr (by omega))
    rw [Hp.look, hn, Hp.lookR, hn]
    simp only [if_true]
    by_cases hmis : H.mis + 1 ≥ H.wai
    · rw [if_pos hmis, if_pos hmis]
      have hall : ∀ x, x ∈ R 12 → H.namesWhite G (gv H.ws (x + 3)) = true := fun x hx => by
        rw [h12] at hx
        rcases List.mem_cons.1 hx with e | hx
        · rw [e]
          exact hn
        · exact hlost x hx (by omega)
      have hNw := sn.lost fun y ha hy => by
        obtain ⟨-, f⟩ := hw2 _ hy
        have fy : M.form y = 3 := by
          have := (s.mark y ha).1
          omega
        obtain ⟨-, t', a, -, b⟩ := s.key_of i ha fy (hall _ hy)
        exact ⟨fy, t', a, b⟩
      have hkA : ¬ (M.fld z 0).Has A := by
        rw [et]
        exact fun h => hnw (hNw t h)
      have s1 := s.broken i.ok i.len hA hf hkA
      have hx := Geo.extent i.ok hC
      have hr := s.room z hA
      have hlen := i.len
      have q3 : G.data (M.cell z + 3) := by simpa using i.ok.field hC (i := 0) (by omega) (by omega)
      have q4 : G.data (M.cell z + 4) := by
        have := i.ok.field hC (i := 1) (by omega) (by omega)
        rwa [show M.cell z + 3 + 1 = M.cell z + 4 by omega] at this
      have i1 := inv_data (v := 3) i q3 (by omega) (by omega)
      have i2 := inv_data (v := 3) i1 q4 (by omega) (by omega)
      have hti := i.time
      obtain ⟨m0, m1⟩ := mwith_bd (gv H.ws (M.cell z)) 0 H.next (by omega) (by omega) hti.1 (by omega)
      have hcln := cln_lt (msize (gv H.ws (M.cell z)))
      obtain ⟨b1, b2, -, b4, b5⟩ := s.put2 i.ok i.len hA hl2
      obtain ⟨-, mv0, -⟩ := Inv.mv i2 (h := 12) (by omega) hb (k := 8 + cln (msize (gv H.ws (M.cell z)))) (by omega) m0 m1
      have mv : Moved G (sv (sv H.ws (M.cell z + 3) 3) (M.cell z + 4) 3) (({ H with mis := H.mis + 1, wai := H.wai - 1, ws := sv (sv H.ws (M.cell z + 3) 3) (M.cell z + 4) 3 } : Hp).finish (M.cell z) (gv H.ws (M.cell z))).ws (M.cell z) (mwith (gv H.ws (M.cell z)) 0 H.next) := mv0
      obtain ⟨c2, n2, bb2⟩ := c.moved (R' := mvR R 12 (8 + G.cls (M.cell z)) (M.cell z)) hb (k := 8 + G.cls (M.cell z)) (by omega) (fun j x hj => mem_mvR i.rg (by omega) hb (by omega) hj)
      have hR : mvR R 12 (8 + G.cls (M.cell z)) (M.cell z) 12 = l := by
        rw [mvR_from _ (by omega), h12, List.filter_cons]
        simp only [bne_self_eq_false, Bool.false_eq_true, if_false]
        exact filter_id hnd
      have same : ∀ x, x ∈ l → gv (({ H with mis := H.mis + 1, wai := H.wai - 1, ws := sv (sv H.ws (M.cell z + 3) 3) (M.cell z + 4) 3 } : Hp).finish (M.cell z) (gv H.ws (M.cell z))).ws x = gv H.ws x ∧
          gv (({ H with mis := H.mis + 1, wai := H.wai - 1, ws := sv (sv H.ws (M.cell z + 3) 3) (M.cell z + 4) 3 } : Hp).finish (M.cell z) (gv H.ws (M.cell z))).ws (x + 3) = gv H.ws (x + 3) := fun x hx => by
        have hx12 : x ∈ R 12 := by rw [h12]; simp [hx]
        obtain ⟨y, hy, rfl⟩ := c.prec x ⟨12, by omega, by omega, hx12⟩
        have hne : M.cell y ≠ M.cell z := fun e => hnd (e ▸ hx)
        have hyz : y ≠ z := fun e => hne (by rw [e])
        have hCy := s.place y (s.sub y hy)
        have fy : M.form y = 3 := by
          have := (s.mark y hy).1
          have := (hw2 _ hx12).2
          omega
        have hly := (s.kind y hy).2 fy
        have ly := ln_lo (G.cls (M.cell y))
        refine ⟨by rw [mv.marks _ hCy, if_neg hne, b1 _ hCy], ?_⟩
        have hd0 := i.ok.field hCy (i := 0) (by omega) (by omega)
        have hb0 := b2 y hy hyz 0 (by omega)
        rw [show M.cell y + 3 + 0 = M.cell y + 3 by omega] at hd0
        rw [show M.cell y + 3 + ((0 : Nat) : Int) = M.cell y + 3 by omega] at hb0
        rw [mv.data _ hd0, hb0]
      refine ⟨s1.dat i.ok (mv.dat (by rw [mwith_shp, b1 _ hC])), c2, sn.black z (fun t ta h => (n2 _).2 h) (fun t ta h => ?_) (fun h => by omega) (fun _ => .inl hkA), hm, ⟨fun x hx h1 => ?_, fun l1 l2 e hle x hx => ?_⟩, fun kw t ta tf h => ?_⟩
      · rcases bb2 _ h with h | ⟨h, -⟩
        · exact .inl h
        · exact .inr (s.inj t z (s.sub t ta) (s.sub z hA) h)
      · rw [hR] at hx
        rw [(same x hx).1] at h1
        have := (hw2 x (by rw [h12]; simp [hx])).1
        omega
      · rw [hR] at e
        have hxl : x ∈ l := by rw [e]; simp [hx]
        rw [(same x hxl).2]
        have hwr := i.wrd (x + 3)
        refine namesWhite_keep (H := H) i.ok hwr.1 hwr.2 rfl rfl (fun y hy hw => ?_) (hlost x hxl (by omega))
        have hne : y ≠ M.cell z := fun e => by rw [e, hwz] at hw; cases hw
        rw [mv.marks _ hy, if_neg hne, b1 _ hy]
      · have d3 : Dat G (sv (sv H.ws (M.cell z + 3) 3) (M.cell z + 4) 3) (({ H with mis := H.mis + 1, wai := H.wai - 1, ws := sv (sv H.ws (M.cell z + 3) 3) (M.cell z + 4) 3 } : Hp).finish (M.cell z) (gv H.ws (M.cell z))).ws := mv.dat (by rw [mwith_shp, b1 _ hC])
        obtain ⟨x1, x2⟩ := s1.weak_dat i.ok d3 ta tf
        by_cases etz : t = z
        · subst etz
          exact .inr ⟨x1.trans b4, x2.trans b5⟩
        · rcases bb2 _ h with h | ⟨h, -⟩
          · have htl := (s.kind t ta).2 tf
            have y1 := b2 t ta etz 0 (by omega)
            have y2 := b2 t ta etz 1 (by omega)
            rw [show M.cell t + 3 + ((0 : Nat) : Int) = M.cell t + 3 by omega] at y1
            rw [show M.cell t + 3 + ((1 : Nat) : Int) = M.cell t + 4 by omega] at y2
            exact (kw t ta tf h).imp (fun h => h) fun h => ⟨(x1.trans y1).trans h.1, (x2.trans y2).trans h.2⟩
          · exact absurd (s.inj t z (s.sub t ta) (s.sub z hA) h) etz
    · rw [if_neg hmis, if_neg hmis]
      obtain ⟨-, d2, -⟩ := inv_wait (i.raise (B' := B + 1) (by omega) hB) hb ht (y := H.mis + 1) (by omega)
      obtain ⟨-, k2, -⟩ := rg_mvL i.plc i.rg i.short (h := 12) (by omega) hb
      have same : ∀ x, G.C x → gv (({ H with mis := H.mis + 1 } : Hp).wait (M.cell z)).ws x = gv H.ws x := fun x hx => k2 x fun u hu => Mem.mark i.plc hx hu
      obtain ⟨c2, n2, bb2⟩ := c.moved (R' := mvL R 12 12 (M.cell z)) hb (k := 12) (by omega) (fun j x hj => mem_mvL i.rg (by omega) hb (by omega) hj)
      have hR : mvL R 12 12 (M.cell z) 12 = l ++ [M.cell z] := by
        rw [mvL_same, h12, List.filter_cons]
        simp only [bne_self_eq_false, Bool.false_eq_true, if_false]
        rw [filter_id hnd]
      have in12 : ∀ x, x ∈ l ++ [M.cell z] → x ∈ R 12 := fun x hx => by
        rw [h12]
        rcases List.mem_append.1 hx with h | h
        · simp [h]
        · simp at h
          simp [h]
      refine ⟨s.dat i.ok d2, c2, sn.more (fun t ta h => (n2 _).2 h) (fun t ta h => (bb2 _ h).elim (fun h => h) (fun h => by omega)), hm, ⟨fun x hx h1 => ?_, fun l1 l2 e hle x hx => ?_⟩, fun kw => kw.dat s i.ok d2 fun t _ _ h => (bb2 _ h).elim (fun h => h) (fun h => by omega)⟩
      · rw [hR] at hx
        rw [same x (i.rg.place 12 (by omega) x (in12 x hx))] at h1
        have := (hw2 x (in12 x hx)).1
        omega
      · rw [hR] at e
        have hx12 : x ∈ R 12 := in12 x (by rw [e]; simp [hx])
        have hCx := i.rg.place 12 (by omega) x hx12
        have ly := ln_lo (G.cls x)
        have hd0 := i.ok.field hCx (i := 0) (by omega) (by omega)
        rw [show x + 3 + 0 = x + 3 by omega] at hd0
        rw [d2.dat _ hd0]
        have hwr := i.wrd (x + 3)
        refine namesWhite_keep (H := H) i.ok hwr.1 hwr.2 rfl rfl (fun y hy _ => same y hy) ?_
        by_cases ex : x = M.cell z
        · rw [ex]
          exact hn
        · -- behind the first place, among the last ones
          have hle' : (l2.length : Int) ≤ H.mis + 1 := hle
          rcases List.eq_nil_or_concat l2 with e2 | ⟨l3, y, e2⟩
          · rw [e2] at hx
            simp at hx
          · rw [List.concat_eq_append] at e2
            rw [e2, ← List.append_assoc] at e
            obtain ⟨e3, e4⟩ := List.append_inj' e rfl
            have hy : y = M.cell z := by simpa using e4.symm
            rw [e2] at hx hle'
            have hx3 : x ∈ l3 := by
              rcases List.mem_append.1 hx with h | h
              · exact h
              · simp at h
                exact absurd (h.trans hy) ex
            refine w.lost (M.cell z :: l1) l3 (by rw [h12, e3]; rfl) ?_ x hx3
            simp at hle'
            omega
end
end Go.Proofs.YtclcnepkgjcmcaaDoor
