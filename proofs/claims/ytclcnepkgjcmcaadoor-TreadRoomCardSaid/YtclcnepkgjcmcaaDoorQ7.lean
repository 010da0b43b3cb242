/- A task is finished, or waits; a field is set; what that keeps. Plain mathematics. -/
import Derived.Test.YtclcnepkgjcmcaaDoorQ6
namespace Go.Proofs.YtclcnepkgjcmcaaDoor

section
variable {B : Int} {G : Geo} {H : Hp} {R : Nat → List Int} {b v : Int}

/-- A task b goes elsewhere, with another mark of the same shape: all but the rings of what is black, the tasks and the count of those that wait. -/
theorem inv_from (i : Inv B G H R) (hb : b ∈ R 12) {H' : Hp} {R' : Nat → List Int} {k : Nat} {m : Int} (hk : 8 ≤ k ∧ k < 13) (hkc : k < 12 → k = 8 + G.cls b)
    (hR : ∀ j, j < 13 → ∀ x, x ∈ R' j ↔ (x = b ∧ j = k) ∨ (x ≠ b ∧ x ∈ R j)) (hRf : ∀ j, j < 12 → j ≠ k → R' j = R j) (ht : ∀ c, sumTo (fun j => G.fl c (R' j)) 13 = sumTo (fun j => G.fl c (R j)) 13)
    (g' : Rg H.ws.length G.C H'.ws R') (mv : Moved G H.ws H'.ws b m) (hm : m % 8192 = gv H.ws b % 8192) (hlast : mlast m = H.next) (htask : k < 12 → mtask m = 0)
    (hcyc : H'.cyc = H.cyc) (hmrk : H'.mrk = H.mrk) (hfre : H'.fre = H.fre) (hwhi : H'.whi = H.whi) (hmis : 0 ≤ H'.mis ∧ H'.mis ≤ B)
    (htasks : ∃ g w, R' 12 = g ++ w ∧ (∀ b, b ∈ g → mtask (gv H'.ws b) = 1 ∧ mlast (gv H'.ws b) = H'.next) ∧ (∀ b, b ∈ w → mtask (gv H'.ws b) = 2 ∧ mlast (gv H'.ws b) = H'.next ∧ mform (gv H'.ws b) = 3) ∧
      H'.wai = w.length ∧ (H'.mrk = false → g = [] ∧ w = [])) : Inv B G H' R' ∧ Dat G H.ws H'.ws := by
  have hC := i.rg.place 12 (by omega) b hb
  have hdat : Dat G H.ws H'.ws := mv.dat hm
  have hnext : H'.next = H.next := by unfold Hp.next; rw [hcyc, hmrk]
  have oth : ∀ {k x}, k < 13 → x ∈ R k → x ≠ b → gv H'.ws x = gv H.ws x := fun hk hx hxb => by
    rw [mv.marks _ (i.rg.place _ hk _ hx), if_neg hxb]
  have own : gv H'.ws b = m := by rw [mv.marks _ hC, if_pos rfl]
  obtain ⟨b1, b2, b3, b4, b5⟩ := i.bnd
  refine ⟨⟨i.ok, by rw [mv.len]; exact i.len, by rw [mv.len]; exact g', mv.rng, ?_, ?_, by rw [hcyc]; omega, ?_, ?_, ?_, ?_, ?_, ?_, htasks, ?_⟩, hdat⟩
  · intro x hx
    obtain ⟨j, hj, hxj⟩ := i.cover x hx
    by_cases e : x = b
    · exact ⟨k, hk.2, (hR k hk.2 x).2 (.inl ⟨e, rfl⟩)⟩
    · exact ⟨j, hj, (hR j hj x).2 (.inr ⟨e, hxj⟩)⟩
  · intro j x hj hx
    rcases (hR j (by omega) x).1 hx with ⟨rfl, e⟩ | ⟨-, hx⟩
    · have := hkc (by omega)
      have := G.cls_lt x
      omega
    · exact i.cls j x hj hx
  · intro j x j4 hj hx
    have hr : 1 ≤ mform (gv H.ws x) ∧ mform (gv H.ws x) ≤ 3 ∧ cln (msize (gv H.ws x)) = G.cls x ∧ (mform (gv H.ws x) = 3 → msize (gv H.ws x) = 2) := by
      rcases (hR j hj x).1 hx with ⟨rfl, -⟩ | ⟨-, hx⟩
      · exact i.shp 12 _ (by omega) (by omega) hb
      · exact i.shp j x j4 hj hx
    obtain ⟨f1, -, f3⟩ := form_shp (hdat.shp x (g'.place j hj x hx))
    rw [f1, f3]
    exact hr
  · intro j x hj hx
    rcases (hR j (by omega) x).1 hx with ⟨-, e⟩ | ⟨e, hx⟩
    · omega
    · rw [oth (by omega) hx e, hcyc]
      exact i.fre j x hj hx
  · intro c hc'
    rw [hfre, hRf c (by omega) (by omega)]
    exact i.frec c hc'
  · intro j x k4 k8 hx
    rcases (hR j (by omega) x).1 hx with ⟨-, e⟩ | ⟨e, hx⟩
    · omega
    · rw [oth (by omega) hx e, hcyc, hmrk]
      exact i.white j x k4 k8 hx
  · intro hm' c hc'
    rw [hwhi, hRf _ (by omega) (by omega)]
    exact i.whic (hmrk ▸ hm') c hc'
  · intro j x k8 k12 hx
    rcases (hR j (by omega) x).1 hx with ⟨rfl, e⟩ | ⟨e, hx⟩
    · rw [own, hnext]
      exact ⟨hlast, htask (by omega)⟩
    · rw [oth (by omega) hx e, hnext]
      exact i.black j x k8 k12 hx
  · intro c hc'
    rw [ht c]
    exact i.tot c hc'

theorem filter_id {l : List Int} (h : b ∉ l) : l.filter (fun x => x != b) = l := List.filter_eq_self.2 fun z hz => by simpa using ne_mem hz h
theorem cls_fin (i : Inv B G H R) (hb : b ∈ R 12) : cln (msize (gv H.ws b)) = G.cls b := (i.shp 12 b (by omega) (by omega) hb).2.2.1
/-- a task is finished -/
theorem inv_finish (i : Inv B G H R) (hb : b ∈ R 12) {x y : Int} (hx : x = if mtask (gv H.ws b) = 2 then H.wai - 1 else H.wai) (hy : 0 ≤ y ∧ y ≤ B) :
    Inv B G (({ H with wai := x, mis := y } : Hp).finish b (gv H.ws b)) (mvR R 12 (8 + G.cls b) b) ∧ Dat G H.ws (({ H with wai := x, mis := y } : Hp).finish b (gv H.ws b)).ws ∧
      MoveOk (sv H.ws b (mwith (gv H.ws b) 0 H.next)) b (hd (8 + cln (msize (gv H.ws b)))) := by
  have hcls := cls_fin i hb
  have hc := G.cls_lt b
  have hti := i.time
  obtain ⟨m0, m1⟩ := mwith_bd (gv H.ws b) 0 H.next (by omega) (by omega) hti.1 (by omega)
  obtain ⟨g', mv, q⟩ := i.mv (h := 12) (by omega) hb (k := 8 + G.cls b) (by omega) m0 m1
  have hws : (({ H with wai := x, mis := y } : Hp).finish b (gv H.ws b)).ws = ins (rem (sv H.ws b (mwith (gv H.ws b) 0 H.next)) b) (hd (8 + G.cls b)) b := by rw [← hcls]; rfl
  rw [← and_assoc, hcls]
  refine ⟨?_, q⟩
  refine inv_from i hb (k := 8 + G.cls b) (by omega) (fun _ => rfl) (fun j hj x => mem_mvR i.rg (by omega) hb (by omega) hj) (fun j hj hne => mvR_far _ (by omega) hne) (fun c => tot_mvR G c (by omega) (by omega) (i.rg.nodup _ (by omega)) hb)
    (by rw [hws]; exact g') (by rw [hws]; exact mv) (mwith_shp _ _ _) (mlast_with _ _ _ (by omega) (by omega)) (fun _ => mtask_with _ _ _ (by omega) (by omega)) rfl rfl rfl rfl hy ?_
  obtain ⟨g, w, e, hg, hw, hl, hi⟩ := i.tasks
  have hn : (g ++ w).Nodup := e ▸ i.rg.nodup 12 (by omega)
  have oth : ∀ {z}, z ∈ R 12 → z ≠ b → gv (({ H with wai := x, mis := y } : Hp).finish b (gv H.ws b)).ws z = gv H.ws z := fun hz hzb => by
    rw [hws, mv.marks _ (i.rg.place _ (by omega) _ hz), if_neg hzb]
  refine ⟨g.filter (fun z => z != b), w.filter (fun z => z != b), ?_, ?_, ?_, ?_, ?_⟩
  · rw [mvR_from _ (by omega), e, List.filter_append]
  · intro z hz
    obtain ⟨hz, hne⟩ := List.mem_filter.1 hz
    rw [oth (by rw [e]; simp [hz]) (by simpa using hne)]
    exact hg z hz
  · intro z hz
    obtain ⟨hz, hne⟩ := List.mem_filter.1 hz
    rw [oth (by rw [e]; simp [hz]) (by simpa using hne)]
    exact hw z hz
  · show x = _
    rw [e] at hb
    obtain ⟨n1, n2, n3⟩ := List.nodup_append.1 hn
    rcases List.mem_append.1 hb with hb | hb
    · have ht := (hg b hb).1
      have : b ∉ w := fun hw' => n3 b hb b hw' rfl
      rw [hx, if_neg (by omega), List.filter_eq_self.2 fun z hz => by simpa using ne_mem hz this]
      exact hl
    · have ht := (hw b hb).1
      have := length_filter_ne n2 hb
      rw [hx, if_pos ht]
      omega
  · intro hm
    obtain ⟨rfl, rfl⟩ := hi hm
    exact ⟨rfl, rfl⟩

/-- a grey weak cell waits -/
theorem inv_rest (i : Inv B G H R) (hb : b ∈ R 12) (ht : mtask (gv H.ws b) = 1) (hf : mform (gv H.ws b) = 3) :
    Inv B G ((({ H with wai := H.wai + 1 } : Hp).setMark b (gv H.ws b) 2).wait b) (mvL R 12 12 b) ∧ Dat G H.ws ((({ H with wai := H.wai + 1 } : Hp).setMark b (gv H.ws b) 2).wait b).ws ∧
      WaitOk (sv H.ws b (mwith (gv H.ws b) 2 H.next)) b := by
  have hti := i.time
  have hbd := i.bnd
  obtain ⟨m0, m1⟩ := mwith_bd (gv H.ws b) 2 H.next (by omega) (by omega) hti.1 (by omega)
  obtain ⟨g', mv, q⟩ := i.mvl (h := 12) (by omega) hb m0 m1
  have hws : ((({ H with wai := H.wai + 1 } : Hp).setMark b (gv H.ws b) 2).wait b).ws = ins (rem (sv H.ws b (mwith (gv H.ws b) 2 H.next)) b) (gv (rem (sv H.ws b (mwith (gv H.ws b) 2 H.next)) b) (hd 12 + 1)) b := rfl
  rw [← and_assoc]
  refine ⟨?_, q⟩
  refine inv_from i hb (k := 12) (by omega) (fun h => absurd h (by omega)) (fun j hj x => mem_mvL i.rg (by omega) hb (by omega) hj) (fun j hj hne => mvL_far _ hne hne) (fun c => tot_mvL G c (by omega) (by omega) (i.rg.nodup _ (by omega)) hb)
    (by rw [hws]; exact g') (by rw [hws]; exact mv) (mwith_shp _ _ _) (mlast_with _ _ _ (by omega) (by omega)) (fun h => absurd h (by omega)) rfl rfl rfl rfl (by show 0 ≤ H.mis ∧ H.mis ≤ B; omega) ?_
  obtain ⟨g, w, e, hg, hw, hl, hi⟩ := i.tasks
  have hn : (g ++ w).Nodup := e ▸ i.rg.nodup 12 (by omega)
  have oth : ∀ {z}, z ∈ R 12 → z ≠ b → gv ((({ H with wai := H.wai + 1 } : Hp).setMark b (gv H.ws b) 2).wait b).ws z = gv H.ws z := fun hz hzb => by
    rw [hws, mv.marks _ (i.rg.place _ (by omega) _ hz), if_neg hzb]
  have own : gv ((({ H with wai := H.wai + 1 } : Hp).setMark b (gv H.ws b) 2).wait b).ws b = mwith (gv H.ws b) 2 H.next := by rw [hws, mv.marks _ (i.rg.place _ (by omega) _ hb), if_pos rfl]
  have hbw : b ∉ w := fun h => by have := (hw b h).1; omega
  refine ⟨g.filter (fun z => z != b), w ++ [b], ?_, ?_, ?_, ?_, ?_⟩
  · rw [mvL_same, e, List.filter_append, filter_id hbw, List.append_assoc]
  · intro z hz
    obtain ⟨hz, hne⟩ := List.mem_filter.1 hz
    rw [oth (by rw [e]; simp [hz]) (by simpa using hne)]
    exact hg z hz
  · intro z hz
    rcases List.mem_append.1 hz with hz | hz
    · rw [oth (by rw [e]; simp [hz]) (ne_mem hz hbw)]
      exact hw z hz
    · obtain rfl : z = b := by simpa using hz
      rw [own]
      exact ⟨mtask_with _ _ _ (by omega) (by omega), mlast_with _ _ _ (by omega) (by omega), by rw [mform_with]; exact hf⟩
  · show H.wai + 1 = _
    rw [List.length_append, hl]
    rfl
  · intro hm
    obtain ⟨rfl, rfl⟩ := hi hm
    exact absurd (e ▸ hb) (by simp)

/-- a weak cell that waits goes behind the others -/
theorem inv_wait (i : Inv B G H R) (hb : b ∈ R 12) (ht : mtask (gv H.ws b) = 2) {y : Int} (hy : 0 ≤ y ∧ y ≤ B) :
    Inv B G (({ H with mis := y } : Hp).wait b) (mvL R 12 12 b) ∧ Dat G H.ws (({ H with mis := y } : Hp).wait b).ws ∧ WaitOk H.ws b := by
  have p := i.plc
  have hC := i.rg.place 12 (by omega) b hb
  obtain ⟨g', k2, q⟩ := rg_mvL p i.rg i.short (h := 12) (by omega) hb
  have hw0 := Pl.word (Mem.pl p (.inr hC)) i.short
  have r1 : Rng (rem H.ws b) := (show Rng H.ws from i.wrd).rem hw0.1 hw0.2
  have mv : Moved G H.ws (ins (rem H.ws b) (gv (rem H.ws b) (hd 12 + 1)) b) b (gv H.ws b) :=
    ⟨g'.len, r1.ins (r1 _).1 (r1 _).2 hw0.1 hw0.2, fun x hx => by
      rw [k2 x fun u hu => Mem.mark p hx hu]
      split
      · next e => rw [e]
      · rfl, fun j hj => k2 j fun u hu => (hj u hu).2⟩
  have hws : (({ H with mis := y } : Hp).wait b).ws = ins (rem H.ws b) (gv (rem H.ws b) (hd 12 + 1)) b := rfl
  rw [← and_assoc]
  refine ⟨?_, q⟩
  refine inv_from i hb (k := 12) (by omega) (fun h => absurd h (by omega)) (fun j hj x => mem_mvL i.rg (by omega) hb (by omega) hj) (fun j hj hne => mvL_far _ hne hne) (fun c => tot_mvL G c (by omega) (by omega) (i.rg.nodup _ (by omega)) hb)
    (by rw [hws]; exact g') (by rw [hws]; exact mv) rfl (i.mem12 hb).1 (fun h => absurd h (by omega)) rfl rfl rfl rfl hy ?_
  obtain ⟨g, w, e, hg, hw, hl, hi⟩ := i.tasks
  have hn : (g ++ w).Nodup := e ▸ i.rg.nodup 12 (by omega)
  obtain ⟨n1, n2, n3⟩ := List.nodup_append.1 hn
  have same : ∀ {z}, z ∈ R 12 → gv (({ H with mis := y } : Hp).wait b).ws z = gv H.ws z := fun hz => by
    rw [hws, mv.marks _ (i.rg.place _ (by omega) _ hz)]
    split
    · next e => rw [e]
    · rfl
  have hbg : b ∉ g := fun h => by have := (hg b h).1; omega
  have hbw : b ∈ w := by
    rw [e] at hb
    rcases List.mem_append.1 hb with h | h
    · exact absurd h hbg
    · exact h
  refine ⟨g, w.filter (fun z => z != b) ++ [b], ?_, ?_, ?_, ?_, ?_⟩
  · rw [mvL_same, e, List.filter_append, filter_id hbg, List.append_assoc]
  · intro z hz
    rw [same (by rw [e]; simp [hz])]
    exact hg z hz
  · intro z hz
    have hz' : z ∈ w := by
      rcases List.mem_append.1 hz with hz | hz
      · exact (List.mem_filter.1 hz).1
      · obtain rfl : z = b := by simpa using hz
        exact hbw
    rw [same (by rw [e]; simp [hz'])]
    exact hw z hz'
  · show H.wai = _
    have := length_filter_ne n2 hbw
    rw [List.length_append, hl]
    simp only [List.length_cons, List.length_nil]
    omega
  · intro hm
    obtain ⟨rfl, rfl⟩ := hi hm
    exact absurd hbw (by simp)

/-- a word that is neither a mark nor a link is set -/
theorem inv_data (i : Inv B G H R) {j : Int} (hj : G.data j) (h0 : 0 ≤ v) (h1 : v < 18446744073709551616) : Inv B G { H with ws := sv H.ws j v } R := by
  cases hin : inside H.ws.length j
  · have : sv H.ws j v = H.ws := by rw [sv, hin]; rfl
    rw [this]
    exact i
  · have E := fun x => gv_sv v x hin
    have hM : ∀ x, G.C x → gv (sv H.ws j v) x = gv H.ws x := fun x hx => by
      rw [E, if_neg fun e => (hj x (.inr hx)).1 e.symm]
    have same : ∀ {k x}, k < 13 → x ∈ R k → gv (sv H.ws j v) x = gv H.ws x := fun hk hx => hM _ (i.rg.place _ hk _ hx)
    have hl : (sv H.ws j v).length = H.ws.length := sv_length _ _ _
    refine ⟨i.ok, by show ((sv H.ws j v).length : Int) = _; rw [hl]; exact i.len, ?_, (show Rng H.ws from i.wrd).sv _ h0 h1, i.cover, i.cls, i.bnd, fun k x k4 hk hx => ?_, fun k x hk hx => ?_, i.frec, fun k x k4 k8 hx => ?_, i.whic, fun k x k8 k12 hx => ?_, ?_, i.tot⟩
    · show Rg (sv H.ws j v).length _ _ _
      rw [hl]
      exact i.rg.links hl fun u hu => by
        have := hj u hu
        rw [E, E, if_neg (by omega), if_neg (by omega)]
        exact ⟨rfl, rfl⟩
    · show 1 ≤ mform (gv (sv H.ws j v) x) ∧ mform (gv (sv H.ws j v) x) ≤ 3 ∧ cln (msize (gv (sv H.ws j v) x)) = _ ∧ (mform (gv (sv H.ws j v) x) = 3 → msize (gv (sv H.ws j v) x) = 2)
      rw [same hk hx]
      exact i.shp k x k4 hk hx
    · show mlast (gv (sv H.ws j v) x) ≤ H.cyc
      rw [same (by omega) hx]
      exact i.fre k x hk hx
    · show H.mrk = true ∧ mlast (gv (sv H.ws j v) x) = H.cyc + 1
      rw [same (by omega) hx]
      exact i.white k x k4 k8 hx
    · show mlast (gv (sv H.ws j v) x) = H.next ∧ mtask (gv (sv H.ws j v) x) = 0
      rw [same (by omega) hx]
      exact i.black k x k8 k12 hx
    · obtain ⟨g, w, e, hg, hw, hl, hi⟩ := i.tasks
      refine ⟨g, w, e, fun z hz => ?_, fun z hz => ?_, hl, hi⟩
      · show mtask (gv (sv H.ws j v) z) = 1 ∧ mlast (gv (sv H.ws j v) z) = H.next
        rw [same (k := 12) (by omega) (by rw [e]; simp [hz])]
        exact hg z hz
      · show mtask (gv (sv H.ws j v) z) = 2 ∧ mlast (gv (sv H.ws j v) z) = H.next ∧ mform (gv (sv H.ws j v) z) = 3
        rw [same (k := 12) (by omega) (by rw [e]; simp [hz])]
        exact hw z hz
end
end Go.Proofs.YtclcnepkgjcmcaaDoor
