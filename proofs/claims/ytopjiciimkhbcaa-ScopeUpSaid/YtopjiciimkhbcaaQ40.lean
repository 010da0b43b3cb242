/- The plain mathematics of layer 15: where each local is bound, noted in the order of their numbers, finds what the ribs find. No dump is read here. -/
import Derived.Test.YtopjiciimkhbcaaQ35
import Derived.Test.YtopjiciimkhbcaaQ39
namespace Go.Proofs.Ytopjiciimkhbcaa.SC
open Go.RowKit TM

/-- where the locals of a procedure are bound that stands within so many others -/
def hom (a : Nat) (ps : List Int) : List (Nat × Nat) := (List.range ps.length).map fun i => (a, i)
theorem hom_len (a : Nat) (ps : List Int) : (hom a ps).length = ps.length := by simp [hom]
theorem hom_at (a : Nat) (ps : List Int) {i : Nat} (h : i < ps.length) : (hom a ps)[i]? = some (a, i) := by simp [hom, h]
/-- those of all that stand in these terms -/
def hms : Nat → Tl → List (Nat × Nat)
  | _, .nil => []
  | a, .cons k _ _ ps _ ks r => (if k = 8 then hom a ps else []) ++ (hms (if k = 8 then a + 1 else a) ks ++ hms a r)
def hm1 (a : Nat) (t : Tm) : List (Nat × Nat) := (if t.k = 8 then hom a t.ps else []) ++ hms (if t.k = 8 then a + 1 else a) t.ks
theorem hms_snoc (a : Nat) : ∀ (d : Tl) (x : Tm), hms a (d.snoc x) = hms a d ++ hm1 a x
  | .nil, x => by
    obtain ⟨k, n, s, ps, e, ks⟩ := x
    show hms a (.cons k n s ps e ks .nil) = _
    simp [hms, hm1]
  | .cons k n s ps e ks r, x => by
    show (_ ++ (_ ++ hms a (r.snoc x))) = _
    rw [hms_snoc a r x]; simp [hms]
theorem hms_len : ∀ {bd : List Int} {d : Tl} (a : Nat), rtl bd d = true → (hms a d).length = (prs d).length
  | _, .nil, _, _ => rfl
  | bd, .cons k n s ps d ks r, a, h => by
    simp only [rtl, Bool.and_eq_true] at h
    have h1 := hms_len (if k = 8 then a + 1 else a) h.1.2
    have h2 := hms_len a h.2
    rw [hms, prs, List.length_append, List.length_append, List.length_append, List.length_append, h1, h2]
    by_cases hk : k = 8
    · rw [if_pos hk, hom_len]
    · rw [if_neg hk, show ps = [] from fit_ps (t := ⟨k, n, s, ps, d, ks⟩) h.1.1 hk]
      rfl
/-- each local of the ribs is noted at its number -/
def HOk (R : List (List Int)) (H : List (Nat × Nat)) : Prop := ∀ (u : Nat) (r : List Int) (x : Int), R[u]? = some r → x ∈ r → 1 ≤ x ∧ H[(x - 1).toNat]? = some (R.length - 1 - u, r.idxOf x)
theorem HOk.nil (H : List (Nat × Nat)) : HOk [] H := fun u r x h => by simp at h
theorem HOk.app {R : List (List Int)} {H : List (Nat × Nat)} (h : HOk R H) (E : List (Nat × Nat)) : HOk R (H ++ E) := fun u r x hr hx => by
  obtain ⟨h1, h2⟩ := h u r x hr hx
  refine ⟨h1, ?_⟩
  rw [List.getElem?_append_left (List.getElem?_eq_some_iff.1 h2).1]
  exact h2
theorem HOk.push {R : List (List Int)} {H : List (Nat × Nat)} (h : HOk R H) {ps : List Int} (hp : ps = cnt (H.length + 1) ps.length) : HOk (ps :: R) (H ++ hom R.length ps) := by
  intro u r x hr hx
  cases u with
  | zero =>
    simp at hr; subst hr
    have hx2 := hx
    rw [hp, cnt_mem] at hx2
    obtain ⟨i, hi, rfl⟩ : ∃ i : Nat, i < ps.length ∧ x = (H.length : Int) + 1 + i := ⟨(x - (H.length + 1)).toNat, by omega, by omega⟩
    refine ⟨by omega, ?_⟩
    have e1 : ((H.length : Int) + 1 + i - 1).toNat = H.length + i := by omega
    have e2 : ps.idxOf ((H.length : Int) + 1 + i) = i := by rw [hp]; exact cnt_idx _ hi
    rw [e1, e2, List.getElem?_append_right (by omega), Nat.add_sub_cancel_left, hom_at _ _ hi]
    simp
  | succ u =>
    have hr' : R[u]? = some r := by simpa using hr
    obtain ⟨h1, h2⟩ := (h.app (hom R.length ps)) u r x hr' hx
    refine ⟨h1, ?_⟩
    rw [h2, List.length_cons, show R.length + 1 - 1 - (u + 1) = R.length - 1 - u by omega]
theorem first_rib (x : Int) : ∀ R : List (List Int), (∃ r ∈ R, x ∈ r) → ∃ (u : Nat) (r : List Int), R[u]? = some r ∧ x ∈ r ∧ ∀ i : Nat, i < u → ∀ r' : List Int, R[i]? = some r' → ¬ x ∈ r'
  | [], h => by obtain ⟨r, h, _⟩ := h; simp at h
  | r :: R, h => by
    by_cases hx : x ∈ r
    · exact ⟨0, r, by simp, hx, fun i hi => by omega⟩
    · obtain ⟨r', hr', hx'⟩ := h
      rcases List.mem_cons.1 hr' with e | e
      · subst e; exact absurd hx' hx
      · obtain ⟨u, q, h1, h2, h3⟩ := first_rib x R ⟨r', e, hx'⟩
        refine ⟨u + 1, q, by simpa using h1, h2, fun i hi r2 hr2 => ?_⟩
        cases i with
        | zero => simp at hr2; subst hr2; exact hx
        | succ i => exact h3 i (by omega) r2 (by simpa using hr2)
/-- a local that is bound is found by its number as the ribs find it -/
theorem HOk.found {R : List (List Int)} {H : List (Nat × Nat)} (h : HOk R H) {x : Int} (hx : ∃ r ∈ R, x ∈ r) : ∃ a i : Nat, 1 ≤ x ∧ H[(x - 1).toNat]? = some (a, i) ∧ a < R.length ∧ plu 0 R x = 32 * ((R.length : Int) - 1 - a) + i := by
  obtain ⟨u, r, h1, h2, h3⟩ := first_rib x R hx
  obtain ⟨h4, h5⟩ := h u r x h1 h2
  have hu := (List.getElem?_eq_some_iff.1 h1).1
  refine ⟨R.length - 1 - u, r.idxOf x, h4, h5, by omega, ?_⟩
  rw [plu_at x 0 R u r h1 h2 h3]
  omega
theorem cnt_split {a : Int} {l1 l2 : List Int} (h : l1 ++ l2 = cnt a (l1 ++ l2).length) : l1 = cnt a l1.length ∧ l2 = cnt (a + l1.length) l2.length := by
  rw [List.length_append, ← cnt_app] at h
  exact List.append_inj h (by rw [cnt_len])
theorem up1_cnt (n : Nat) : up1 n = cnt 1 n := by
  simp only [up1, cnt]
  refine List.map_congr_left fun i _ => ?_
  omega
/-- the Params of what Alpha answers are numbered in their order -/
theorem alpha_prs {t : Tm} (h : okt t = true) : (alpha t).ps ++ prs (alpha t).ks = cnt 1 (t.ps ++ prs t.ks).length := by
  have hL : (t.ps ++ prs t.ks).Nodup := by
    have h3 := (okt_parts h).2.2.1
    rw [frs_iff] at h3
    exact h3.2.1
  have e : (alpha t).ps ++ prs (alpha t).ks = (t.ps ++ prs t.ks).map (pl (t.ps ++ prs t.ks)) := by
    rw [alpha, nm1_ren]
    show t.ps.map _ ++ prs (ren _ t.ks) = _
    rw [ren_prs, List.map_append]
  rw [e]
  generalize t.ps ++ prs t.ks = L at hL
  refine List.ext_getElem (by rw [List.length_map, cnt_len]) fun i h1 h2 => ?_
  rw [List.length_map] at h1
  rw [List.getElem_map]
  have hi : L.idxOf (L[i]) = i := hL.idxOf_getElem i h1
  unfold pl
  rw [if_pos (by simp), hi]
  simp only [cnt, List.getElem_map, List.getElem_range]
  omega
def st1 (t : Tm) : List Int := (if t.k = 4 then [t.n] else []) ++ stl t.ks
theorem stl_snoc : ∀ (d : Tl) (x : Tm), stl (d.snoc x) = stl d ++ st1 x
  | .nil, x => by
    obtain ⟨k, n, s, ps, e, ks⟩ := x
    show stl (.cons k n s ps e ks .nil) = _
    simp [stl, st1]
  | .cons k n s ps e ks r, x => by
    show (_ ++ (_ ++ stl (r.snoc x))) = _
    rw [stl_snoc r x]; simp [stl]
end Go.Proofs.Ytopjiciimkhbcaa.SC
