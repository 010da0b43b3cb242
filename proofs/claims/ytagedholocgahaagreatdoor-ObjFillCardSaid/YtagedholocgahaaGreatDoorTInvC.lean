/- The collector's doings keep what holds of the heap. Plain mathematics. -/
import Derived.Test.YtagedholocgahaaGreatDoorTInvB
namespace Go.Proofs.YtagedholocgahaaGreatDoor

section
variable {B : Int} {G : Geo} {H : Hp} {R : Nat → List Int} {b v : Int}

/-- the tasks' ring is one list -/
theorem Inv.mem12 (i : Inv B G H R) {x : Int} (hx : x ∈ R 12) : mlast (gv H.ws x) = H.next ∧ (mtask (gv H.ws x) = 1 ∨ mtask (gv H.ws x) = 2) := by
  obtain ⟨g, w, e, hg, hw, -⟩ := i.tasks
  rw [e] at hx
  rcases List.mem_append.1 hx with hx | hx
  · exact ⟨(hg x hx).2, .inl (hg x hx).1⟩
  · exact ⟨(hw x hx).2.1, .inr (hw x hx).1⟩
theorem Inv.white_at (i : Inv B G H R) (hC : G.C b) (hw : H.isWhite (gv H.ws b) = true) : H.mrk = true ∧ b ∈ R (4 + G.cls b) := by
  have hm : H.mrk = true ∧ mlast (gv H.ws b) = H.cyc + 1 := by simpa [Hp.isWhite] using hw
  obtain ⟨hm, hl⟩ := hm
  have hnext : H.next = H.cyc + 2 := by rw [Hp.next, if_pos hm]
  obtain ⟨k, hk, hb⟩ := i.cover b hC
  refine ⟨hm, ?_⟩
  by_cases k4 : k < 4
  · have := i.fre k b k4 hb
    omega
  · by_cases k8 : k < 8
    · have := i.cls k b (by omega) hb
      rw [show 4 + G.cls b = k by omega]
      exact hb
    · by_cases k12 : k < 12
      · have := (i.black k b (by omega) k12 hb).1
        omega
      · obtain rfl : k = 12 := by omega
        have := (i.mem12 hb).1
        omega
theorem Inv.not_white (i : Inv B G H R) {k : Nat} (hk : k < 13) (hb : b ∈ R k) (hn : k < 4 ∨ 8 ≤ k) : H.isWhite (gv H.ws b) = false := by
  cases hw : H.isWhite (gv H.ws b)
  · rfl
  · exfalso
    have hC := i.rg.place k hk b hb
    obtain ⟨-, h⟩ := i.white_at hC hw
    have := G.cls_lt b
    have := i.rg.apart k (4 + G.cls b) hk (by omega) b hb h
    omega
theorem Inv.white_of (i : Inv B G H R) {k : Nat} (h4 : 4 ≤ k) (h8 : k < 8) (hb : b ∈ R k) : H.isWhite (gv H.ws b) = true := by
  obtain ⟨hm, hl⟩ := i.white k b h4 h8 hb
  simp [Hp.isWhite, hm, hl]

/-- the condition of shade -/
def Hp.shaded (G : Geo) (H : Hp) (v : Int) : Bool := (G.plc v).2 && H.mrk && H.isWhite (gv H.ws (G.plc v).1)
def Hp.shadeR (G : Geo) (H : Hp) (R : Nat → List Int) (v : Int) : Nat → List Int :=
  if H.shaded G v then mvR R (4 + G.cls (G.plc v).1) 12 (G.plc v).1 else R

theorem inv_shade (i : Inv B G H R) (h0 : 0 ≤ v) (h1 : v < 18446744073709551616) :
    Inv B G (H.shade G v) (H.shadeR G R v) ∧ Dat G H.ws (H.shade G v).ws ∧ (H.shaded G v = true → MoveOk (sv H.ws (G.plc v).1 (mwith (gv H.ws (G.plc v).1) 1 H.next)) (G.plc v).1 (hd 12)) := by
  cases hs : H.shaded G v
  · have e : H.shade G v = H := by
      unfold Hp.shaded at hs
      rw [Hp.shade, hs]
      rfl
    rw [e, Hp.shadeR, hs]
    exact ⟨i, Dat.refl _ _, fun h => by cases h⟩
  · have hs' := hs
    unfold Hp.shaded at hs
    obtain ⟨⟨hp, hm⟩, hw⟩ : ((G.plc v).2 = true ∧ H.mrk = true) ∧ H.isWhite (gv H.ws (G.plc v).1) = true := by simpa using hs
    obtain ⟨hC, -⟩ := plc_cell i.ok h0 h1 hp
    have e : H.shade G v = (((H.whiter (cln (msize (gv H.ws (G.plc v).1)))).setMark (G.plc v).1 (gv H.ws (G.plc v).1) 1).move (G.plc v).1 (hd 12)) := by
      rw [Hp.shade, hs]
      rfl
    rw [e, Hp.shadeR, hs', if_pos rfl]
    generalize (G.plc v).1 = b at *
    clear e hs hs' hp
    obtain ⟨-, hb⟩ := i.white_at hC hw
    have hc := G.cls_lt b
    have ht := i.time
    obtain ⟨m0, m1⟩ := mwith_bd (gv H.ws b) 1 H.next (by omega) (by omega) ht.1 (by omega)
    obtain ⟨g', mv, q⟩ := i.mv (h := 4 + G.cls b) (by omega) hb (k := 12) (by omega) m0 m1
    have hmem := fun j (hj : j < 13) x => mem_mvR i.rg (h := 4 + G.cls b) (by omega) hb (k := 12) (by omega) hj (x := x)
    have hcls := (i.shp (4 + G.cls b) b (by omega) (by omega) hb).2.2.1
    have hne : ∀ j, j < 12 → j ≠ 4 + G.cls b → b ∉ R j := fun j hj hjne hbj => hjne (i.rg.apart j _ (by omega) (by omega) b hbj hb)
    have hn12 : b ∉ R 12 := fun hbj => by have := i.rg.apart 12 _ (by omega) (by omega) b hbj hb; omega
    have hws : (((H.whiter (cln (msize (gv H.ws b)))).setMark b (gv H.ws b) 1).move b (hd 12)).ws = ins (rem (sv H.ws b (mwith (gv H.ws b) 1 H.next)) b) (hd 12) b := rfl
    have hM : ∀ x, G.C x → gv (((H.whiter (cln (msize (gv H.ws b)))).setMark b (gv H.ws b) 1).move b (hd 12)).ws x = if x = b then mwith (gv H.ws b) 1 H.next else gv H.ws x := mv.marks
    have oth : ∀ {k x}, k < 13 → x ∈ R k → x ≠ b → gv (((H.whiter (cln (msize (gv H.ws b)))).setMark b (gv H.ws b) 1).move b (hd 12)).ws x = gv H.ws x := fun hk hx hxb => by
      rw [hM _ (i.rg.place _ hk _ hx), if_neg hxb]
    have own : gv (((H.whiter (cln (msize (gv H.ws b)))).setMark b (gv H.ws b) 1).move b (hd 12)).ws b = mwith (gv H.ws b) 1 H.next := by rw [hM _ hC, if_pos rfl]
    have hlen : (((H.whiter (cln (msize (gv H.ws b)))).setMark b (gv H.ws b) 1).move b (hd 12)).ws.length = H.ws.length := mv.len
    have hdat : Dat G H.ws (((H.whiter (cln (msize (gv H.ws b)))).setMark b (gv H.ws b) 1).move b (hd 12)).ws := mv.dat (mwith_shp _ _ _)
    generalize hH : (((H.whiter (cln (msize (gv H.ws b)))).setMark b (gv H.ws b) 1).move b (hd 12)) = H' at *
    have hcyc : H'.cyc = H.cyc := by rw [← hH]; rfl
    have hmrk : H'.mrk = H.mrk := by rw [← hH]; rfl
    have hnext : H'.next = H.next := by rw [← hH]; rfl
    have hwai : H'.wai = H.wai := by rw [← hH]; rfl
    have hmis : H'.mis = 0 := by rw [← hH]; rfl
    have hfre : H'.fre = H.fre := by rw [← hH]; rfl
    have hwhi : H'.whi = H.whi.put (G.cls b) (H.whi.at_ (G.cls b) - 1) := by rw [← hH, ← hcls]; rfl
    obtain ⟨b1, b2, b3, b4, b5⟩ := i.bnd
    refine ⟨⟨i.ok, by rw [hlen]; exact i.len, by rw [hlen, hws]; exact g', by rw [hws]; exact mv.rng, ?_, ?_, by rw [hcyc, hmis]; omega, ?_, ?_, ?_, ?_, ?_, ?_, ?_, ?_⟩, hdat, fun _ => q⟩
    · intro x hx
      obtain ⟨k, hk, hxk⟩ := i.cover x hx
      by_cases e : x = b
      · exact ⟨12, by omega, (hmem 12 (by omega) x).2 (.inl ⟨e, rfl⟩)⟩
      · exact ⟨k, hk, (hmem k hk x).2 (.inr ⟨e, hxk⟩)⟩
    · intro k x hk hx
      rcases (hmem k (by omega) x).1 hx with ⟨-, e⟩ | ⟨-, hx⟩
      · omega
      · exact i.cls k x hk hx
    · intro k x k4 hk hx
      have hr : 1 ≤ mform (gv H.ws x) ∧ mform (gv H.ws x) ≤ 3 ∧ cln (msize (gv H.ws x)) = G.cls x ∧ (mform (gv H.ws x) = 3 → msize (gv H.ws x) = 2) := by
        rcases (hmem k hk x).1 hx with ⟨rfl, -⟩ | ⟨-, hx⟩
        · exact i.shp _ _ (by omega) (by omega) hb
        · exact i.shp k x k4 hk hx
      obtain ⟨f1, -, f3⟩ := form_shp (hdat.shp x (g'.place k hk x hx))
      rw [f1, f3]
      exact hr
    · intro k x hk hx
      rcases (hmem k (by omega) x).1 hx with ⟨-, e⟩ | ⟨e, hx⟩
      · omega
      · rw [oth (by omega) hx e, hcyc]
        exact i.fre k x hk hx
    · intro c hc'
      rw [hfre, mvR_far _ (by omega) (by omega)]
      exact i.frec c hc'
    · intro k x k4 k8 hx
      rcases (hmem k (by omega) x).1 hx with ⟨-, e⟩ | ⟨e, hx⟩
      · omega
      · rw [oth (by omega) hx e, hcyc, hmrk]
        exact i.white k x k4 k8 hx
    · intro _ c hc'
      rw [hwhi, Q4.at_put _ hc hc']
      have hw := i.whic hm c hc'
      by_cases e : c = G.cls b
      · subst e
        rw [if_pos rfl, mvR_from _ (by omega)]
        have := length_filter_ne (i.rg.nodup (4 + G.cls b) (by omega)) hb
        omega
      · rw [if_neg e, mvR_far _ (by omega) (by omega)]
        exact hw
    · intro k x k8 k12 hx
      rcases (hmem k (by omega) x).1 hx with ⟨-, e⟩ | ⟨e, hx⟩
      · omega
      · rw [oth (by omega) hx e, hnext]
        exact i.black k x k8 k12 hx
    · obtain ⟨g, w, e, hg, hw', hl, hi⟩ := i.tasks
      have q1 : ∀ x, x ∈ g → x ∈ R 12 := fun x hx => by rw [e]; simp [hx]
      have q2 : ∀ x, x ∈ w → x ∈ R 12 := fun x hx => by rw [e]; simp [hx]
      refine ⟨b :: g, w, ?_, ?_, ?_, by rw [hwai]; exact hl, fun h => by rw [hmrk, hm] at h; cases h⟩
      · rw [mvR_to _ (by omega), e]
        rfl
      · intro x hx
        rcases List.mem_cons.1 hx with rfl | hx
        · rw [own, hnext]
          exact ⟨mtask_with _ _ _ (by omega) (by omega), mlast_with _ _ _ (by omega) (by omega)⟩
        · rw [oth (k := 12) (by omega) (q1 x hx) (ne_mem (q1 x hx) hn12), hnext]
          exact hg x hx
      · intro x hx
        rw [oth (k := 12) (by omega) (q2 x hx) (ne_mem (q2 x hx) hn12), hnext]
        exact hw' x hx
    · intro c hc'
      rw [tot_mvR G c (by omega) (by omega) (i.rg.nodup _ (by omega)) hb]
      exact i.tot c hc'
end
end Go.Proofs.YtagedholocgahaaGreatDoor
