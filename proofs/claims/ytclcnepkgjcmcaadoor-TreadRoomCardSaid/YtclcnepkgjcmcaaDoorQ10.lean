/- A cell is made, a field or a register is set: what that keeps. Plain mathematics. -/
import Derived.Test.YtclcnepkgjcmcaaDoorQ9
namespace Go.Proofs.YtclcnepkgjcmcaaDoor

/-- n fields from b on are v -/
def clearF (ws : List Int) (b v : Int) : Nat → List Int
  | 0 => ws
  | n + 1 => sv (clearF ws b v n) (b + 3 + n) v
/-- what a new field holds -/
def blank (form : Int) : Int := if form = 2 then 0 else 12
/-- the first free cell of a size -/
def Hp.firstFree (H : Hp) (c : Nat) : Int := gv H.ws (hd c + 2)
def Hp.take (H : Hp) (c : Nat) (m : Int) : Hp := ((({ H with fre := H.fre.put c (H.fre.at_ c - 1) } : Hp).move (H.firstFree c) (hd (8 + c))).setMark (H.firstFree c) m 0)
def Hp.alloc (H : Hp) (form tag n : Int) : Hp :=
  { H.take (cln n) (mshape form tag n) with ws := clearF (H.take (cln n) (mshape form tag n)).ws (H.firstFree (cln n)) (blank form) n.toNat }
def Hp.allocR (H : Hp) (R : Nat → List Int) (c : Nat) : Nat → List Int := mvR R c (8 + c) (H.firstFree c)
/-- the barrier -/
def Hp.guard (G : Geo) (H : Hp) (m old v : Int) : Hp :=
  if mform m = 1 then (if H.isBlack m then (H.shade G old).shade G v else H.shade G old)
  else if mform m = 3 then (if H.isBlack m then H.shade G v else H) else H
def Hp.guardR (G : Geo) (H : Hp) (R : Nat → List Int) (m old v : Int) : Nat → List Int :=
  if mform m = 1 then (if H.isBlack m then (H.shade G old).shadeR G (H.shadeR G R old) v else H.shadeR G R old)
  else if mform m = 3 then (if H.isBlack m then H.shadeR G R v else R) else R
def Hp.setF (G : Geo) (H : Hp) (x i v : Int) : Hp := let H1 := H.guard G (gv H.ws x) (gv H.ws (x + 3 + i)) v; { H1 with ws := sv H1.ws (x + 3 + i) v }
def Hp.setFR (G : Geo) (H : Hp) (R : Nat → List Int) (x i v : Int) : Nat → List Int := H.guardR G R (gv H.ws x) (gv H.ws (x + 3 + i)) v
def Hp.setRoot (G : Geo) (H : Hp) (i v : Int) : Hp := { H.shade G v with ws := sv (H.shade G v).ws i v }

section
variable {B : Int} {G : Geo} {H : Hp} {R : Nat → List Int} {b v : Int}

theorem clearF_len (ws : List Int) (b v : Int) : ∀ n, (clearF ws b v n).length = ws.length
  | 0 => rfl
  | n + 1 => by rw [clearF, sv_length, clearF_len]
theorem clearF_at (ws : List Int) (b v : Int) (h0 : 0 ≤ b) : ∀ n : Nat, b + 3 + n ≤ ws.length → ∀ j, gv (clearF ws b v n) j = if b + 3 ≤ j ∧ j < b + 3 + n then v else gv ws j
  | 0, _, j => by rw [clearF, if_neg (by omega)]
  | n + 1, hn, j => by
    have ih := clearF_at ws b v h0 n (by omega) j
    rw [clearF, gv_sv _ _ (by rw [clearF_len]; exact inside_mk (by omega) (by omega)), ih]
    by_cases e : j = b + 3 + n
    · rw [if_pos e, if_pos (by omega)]
    · rw [if_neg e]
      by_cases e2 : b + 3 ≤ j ∧ j < b + 3 + n
      · rw [if_pos e2, if_pos (by omega)]
      · rw [if_neg e2, if_neg (by omega)]

theorem mshape_form {f t n : Int} (f0 : 0 ≤ f) (f1 : f < 4) : mform (mshape f t n) = f := by unfold mform mshape; omega
theorem mshape_tag {f t n : Int} (f0 : 0 ≤ f) (f1 : f < 4) (t0 : 0 ≤ t) (t1 : t < 16) : mtag (mshape f t n) = t := by unfold mtag mshape; omega
theorem mshape_size {f t n : Int} (f0 : 0 ≤ f) (f1 : f < 4) (t0 : 0 ≤ t) (t1 : t < 16) (n0 : 0 ≤ n) (n1 : n < 128) : msize (mshape f t n) = n := by unfold msize mshape; omega
theorem mshape_bd {f t n : Int} (f0 : 0 ≤ f) (f1 : f < 4) (t0 : 0 ≤ t) (t1 : t < 16) (n0 : 0 ≤ n) (n1 : n < 128) : 0 ≤ mshape f t n ∧ mshape f t n < 8192 := by unfold mshape; omega

/-- a free cell is there -/
theorem Inv.free_cons (i : Inv B G H R) {c : Nat} (hc : c < 4) (h : H.fre.at_ c ≠ 0) : ∃ l, R c = H.firstFree c :: l := by
  have hp := i.rg.path c (by omega)
  cases hr : R c with
  | nil =>
    exfalso
    apply h
    rw [i.frec c hc, hr]
    rfl
  | cons x l =>
    rw [hr] at hp
    exact ⟨l, by rw [Hp.firstFree, hp.1.1]⟩
theorem Inv.first_pl (i : Inv B G H R) {c : Nat} (hc : c < 13) : Pl H.ws.length (gv H.ws (hd c + 2)) := by
  have h := i.rg.next (k := c) hc (u := hd c) (by simp)
  exact (i.rg.mem hc h).pl i.plc

theorem inv_take (i : Inv B G H R) {f t n : Int} (f0 : 1 ≤ f) (f1 : f ≤ 3) (t0 : 0 ≤ t) (t1 : t < 16) (n0 : 0 ≤ n) (n1 : n < 128) (hw : f = 3 → n = 2) (h : H.fre.at_ (cln n) ≠ 0) :
    Inv B G (H.take (cln n) (mshape f t n)) (H.allocR R (cln n)) ∧ (∀ j, G.data j → gv (H.take (cln n) (mshape f t n)).ws j = gv H.ws j) ∧ (∀ x, G.C x → x ≠ H.firstFree (cln n) → gv (H.take (cln n) (mshape f t n)).ws x = gv H.ws x) ∧
      gv (H.take (cln n) (mshape f t n)).ws (H.firstFree (cln n)) = mwith (mshape f t n) 0 H.next ∧ H.firstFree (cln n) ∈ R (cln n) ∧ MoveOk H.ws (H.firstFree (cln n)) (hd (8 + cln n)) := by
  have hc := cln_lt n
  obtain ⟨l, hl⟩ := i.free_cons hc h
  have hb : H.firstFree (cln n) ∈ R (cln n) := by rw [hl]; simp
  have hti := i.time
  have hcl : G.cls (H.firstFree (cln n)) = cln n := by
    have := i.cls (cln n) _ (by omega) hb
    omega
  have hsz := mshape_size (f := f) (t := t) (n := n) (by omega) (by omega) t0 t1 n0 n1
  have hfo := mshape_form (f := f) (t := t) (n := n) (by omega) (by omega)
  have hmb := mshape_bd (f := f) (t := t) (n := n) (by omega) (by omega) t0 t1 n0 n1
  generalize hc' : cln n = c at *
  have hnext : (({ H with fre := H.fre.put c (H.fre.at_ c - 1) } : Hp).move (H.firstFree c) (hd (8 + c))).next = H.next := rfl
  have hws : (H.take c (mshape f t n)).ws = sv (ins (rem H.ws (H.firstFree c)) (hd (8 + c)) (H.firstFree c)) (H.firstFree c) (mwith (mshape f t n) 0 H.next) := rfl
  have hTc : (H.take c (mshape f t n)).cyc = H.cyc := rfl
  have hTm : (H.take c (mshape f t n)).mrk = H.mrk := rfl
  have hTn : (H.take c (mshape f t n)).next = H.next := rfl
  have hTf : (H.take c (mshape f t n)).fre = H.fre.put c (H.fre.at_ c - 1) := rfl
  have hTw : (H.take c (mshape f t n)).whi = H.whi := rfl
  have hTa : (H.take c (mshape f t n)).wai = H.wai := rfl
  have hTi : (H.take c (mshape f t n)).mis = H.mis := rfl
  rw [Hp.allocR]
  generalize H.firstFree c = b at *
  obtain ⟨m0, m1⟩ := mwith_bd (mshape f t n) 0 H.next (by omega) (by omega) hti.1 (by omega)
  have p := i.plc
  have hC := i.rg.place c (by omega) b hb
  obtain ⟨g1, k1, q⟩ := rg_mv p i.rg i.short (h := c) (by omega) hb (k := 8 + c) (by omega)
  have hw0 := Pl.word (Mem.pl p (.inr hC)) i.short
  have hw1 := hd_word (8 + c) (by omega)
  have hin : inside (ins (rem H.ws b) (hd (8 + c)) b).length b = true := by rw [g1.len]; exact i.into hC
  have E := fun j => gv_sv (mwith (mshape f t n) 0 H.next) j hin
  have hM : ∀ x, G.C x → gv (H.take c (mshape f t n)).ws x = if x = b then mwith (mshape f t n) 0 H.next else gv H.ws x := fun x hx => by
    rw [hws, E]
    split
    · rfl
    · exact k1 x fun u hu => Mem.mark p hx hu
  have hD : ∀ j, G.data j → gv (H.take c (mshape f t n)).ws j = gv H.ws j := fun j hj => by
    rw [hws, E, if_neg (hj b (.inr hC)).1]
    exact k1 j fun u hu => (hj u hu).2
  have hlen : (H.take c (mshape f t n)).ws.length = H.ws.length := by rw [hws, sv_length, g1.len]
  have g2 : Rg H.ws.length G.C (H.take c (mshape f t n)).ws (mvR R c (8 + c) b) := by
    rw [hws]
    exact g1.links (by rw [sv_length, g1.len]) fun u hu => by
      have := Mem.mark p hC hu
      rw [E, E, if_neg (by omega), if_neg (by omega)]
      exact ⟨rfl, rfl⟩
  have hr : Rng (H.take c (mshape f t n)).ws := by
    rw [hws]
    exact ((((show Rng H.ws from i.wrd).rem hw0.1 hw0.2).ins hw1.1 hw1.2 hw0.1 hw0.2)).sv _ m0 m1
  have hmem := fun j (hj : j < 13) x => mem_mvR i.rg (h := c) (by omega) hb (k := 8 + c) (by omega) hj (x := x)
  have oth : ∀ {k x}, k < 13 → x ∈ R k → x ≠ b → gv (H.take c (mshape f t n)).ws x = gv H.ws x := fun hk hx hxb => by
    rw [hM _ (i.rg.place _ hk _ hx), if_neg hxb]
  have own : gv (H.take c (mshape f t n)).ws b = mwith (mshape f t n) 0 H.next := by rw [hM _ hC, if_pos rfl]
  have hbd := i.bnd
  refine ⟨⟨i.ok, by rw [hlen]; exact i.len, by rw [hlen]; exact g2, hr, ?_, ?_, by rw [hTc, hTi]; exact hbd, ?_, ?_, ?_, ?_, ?_, ?_, ?_, ?_⟩, hD, fun x hx hne => by rw [hM x hx, if_neg hne], own, hb, q⟩
  · intro x hx
    obtain ⟨k, hk, hxk⟩ := i.cover x hx
    by_cases e : x = b
    · exact ⟨8 + c, by omega, (hmem _ (by omega) x).2 (.inl ⟨e, rfl⟩)⟩
    · exact ⟨k, hk, (hmem k hk x).2 (.inr ⟨e, hxk⟩)⟩
  · intro k x hk hx
    rcases (hmem k (by omega) x).1 hx with ⟨rfl, e⟩ | ⟨-, hx⟩
    · omega
    · exact i.cls k x hk hx
  · intro k x k4 hk hx
    rcases (hmem k hk x).1 hx with ⟨rfl, -⟩ | ⟨e, hx⟩
    · rw [own, mform_with, msize_with, hsz, hfo, hcl]
      exact ⟨f0, f1, hc', hw⟩
    · rw [oth hk hx e]
      exact i.shp k x k4 hk hx
  · intro k x hk hx
    rcases (hmem k (by omega) x).1 hx with ⟨-, e⟩ | ⟨e, hx⟩
    · omega
    · rw [oth (by omega) hx e, hTc]
      exact i.fre k x hk hx
  · intro d hd'
    rw [hTf, Q4.at_put _ hc hd']
    by_cases e : d = c
    · subst e
      rw [if_pos rfl, mvR_from _ (by omega), i.frec d hd']
      have := length_filter_ne (i.rg.nodup d (by omega)) hb
      omega
    · rw [if_neg e, mvR_far _ e (by omega)]
      exact i.frec d hd'
  · intro k x k4 k8 hx
    rcases (hmem k (by omega) x).1 hx with ⟨-, e⟩ | ⟨e, hx⟩
    · omega
    · rw [oth (by omega) hx e, hTc, hTm]
      exact i.white k x k4 k8 hx
  · intro hm d hd'
    rw [hTw, mvR_far _ (by omega) (by omega)]
    exact i.whic (hTm ▸ hm) d hd'
  · intro k x k8 k12 hx
    rcases (hmem k (by omega) x).1 hx with ⟨rfl, e⟩ | ⟨e, hx⟩
    · rw [own, hTn]
      exact ⟨mlast_with _ _ _ (by omega) (by omega), mtask_with _ _ _ (by omega) (by omega)⟩
    · rw [oth (by omega) hx e, hTn]
      exact i.black k x k8 k12 hx
  · obtain ⟨g, w, e, hg, hw', hl', hi⟩ := i.tasks
    have hnb : b ∉ R 12 := fun hbj => by have := i.rg.apart 12 c (by omega) (by omega) b hbj hb; omega
    refine ⟨g, w, by rw [mvR_far _ (by omega) (by omega)]; exact e, fun z hz => ?_, fun z hz => ?_, by rw [hTa]; exact hl', fun h => hi (hTm ▸ h)⟩
    · have hz' : z ∈ R 12 := by rw [e]; simp [hz]
      rw [oth (k := 12) (by omega) hz' (ne_mem hz' hnb), hTn]
      exact hg z hz
    · have hz' : z ∈ R 12 := by rw [e]; simp [hz]
      rw [oth (k := 12) (by omega) hz' (ne_mem hz' hnb), hTn]
      exact hw' z hz
  · intro d hd'
    rw [tot_mvR G d (by omega) (by omega) (i.rg.nodup _ (by omega)) hb]
    exact i.tot d hd'

theorem inv_clear (i : Inv B G H R) {x : Int} {v : Int} (h0 : 0 ≤ v) (h1 : v < 18446744073709551616) : ∀ n : Nat, (∀ j : Nat, j < n → G.data (x + 3 + j)) → Inv B G { H with ws := clearF H.ws x v n } R
  | 0, _ => i
  | n + 1, hn => by
    have := inv_clear i (x := x) h0 h1 n (fun j hj => hn j (by omega))
    exact inv_data this (hn n (by omega)) h0 h1

/-- An allocation, when there is a free cell. -/
theorem inv_alloc (i : Inv B G H R) {f t n : Int} (f0 : 1 ≤ f) (f1 : f ≤ 3) (t0 : 0 ≤ t) (t1 : t < 16) (n0 : 0 ≤ n) (n1 : n < 128) (hw : f = 3 → n = 2) (h : H.fre.at_ (cln n) ≠ 0) :
    Inv B G (H.alloc f t n) (H.allocR R (cln n)) := by
  obtain ⟨i1, -, -, -, hb, -⟩ := inv_take i f0 f1 t0 t1 n0 n1 hw h
  have hc := cln_lt n
  have hC := i.rg.place _ (by omega) _ hb
  have hcl : G.cls (H.firstFree (cln n)) = cln n := by
    have := i.cls (cln n) _ (by omega) hb
    omega
  refine inv_clear i1 (by unfold blank; split <;> omega) (by unfold blank; split <;> omega) n.toNat fun j hj => i.ok.field hC (by omega) ?_
  rw [hcl]
  unfold cln ln
  (repeat' split) <;> omega

theorem inv_guard (i : Inv B G H R) (m : Int) {old : Int} (o0 : 0 ≤ old) (o1 : old < 18446744073709551616) (h0 : 0 ≤ v) (h1 : v < 18446744073709551616) :
    Inv B G (H.guard G m old v) (H.guardR G R m old v) ∧ Dat G H.ws (H.guard G m old v).ws := by
  unfold Hp.guard Hp.guardR
  obtain ⟨i1, d1, -⟩ := inv_shade i o0 o1
  split
  · split
    · obtain ⟨i2, d2, -⟩ := inv_shade i1 h0 h1
      exact ⟨i2, d1.trans d2⟩
    · exact ⟨i1, d1⟩
  · split
    · split
      · obtain ⟨i2, d2, -⟩ := inv_shade i h0 h1
        exact ⟨i2, d2⟩
      · exact ⟨i, Dat.refl _ _⟩
    · exact ⟨i, Dat.refl _ _⟩
theorem inv_setF (i : Inv B G H R) {x j : Int} (hj : G.data (x + 3 + j)) (h0 : 0 ≤ v) (h1 : v < 18446744073709551616) : Inv B G (H.setF G x j v) (H.setFR G R x j v) := by
  obtain ⟨i1, d1⟩ := inv_guard i (gv H.ws x) (i.wrd (x + 3 + j)).1 (i.wrd (x + 3 + j)).2 h0 h1
  exact inv_data i1 hj h0 h1
theorem inv_setRoot (i : Inv B G H R) {j : Int} (j0 : 0 ≤ j) (j1 : j < 12) (h0 : 0 ≤ v) (h1 : v < 18446744073709551616) : Inv B G (H.setRoot G j v) (H.shadeR G R v) := by
  obtain ⟨i1, d1, -⟩ := inv_shade i h0 h1
  exact inv_data i1 (i.ok.register j0 j1) h0 h1
end
end Go.Proofs.YtclcnepkgjcmcaaDoor
