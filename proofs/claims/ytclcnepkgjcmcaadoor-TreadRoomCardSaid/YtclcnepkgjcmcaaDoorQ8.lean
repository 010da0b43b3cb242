/- The collector's step keeps what holds of the heap. Plain mathematics. -/
import Derived.Test.YtclcnepkgjcmcaaDoorQ7
namespace Go.Proofs.YtclcnepkgjcmcaaDoor

/-- what a join asks of the words -/
structure JoinOk (ws : List Int) (a b : Int) : Prop where
  short : ws.length ≤ 1048576
  pa : Pl ws.length a
  pb : Pl ws.length b
  pf : Pl ws.length (gv ws (b + 2))
  pl : Pl ws.length (gv ws (b + 1))
  pz : Pl ws.length (gv ws (a + 1))

def Hp.shadeUpR (G : Geo) (H : Hp) (R : Nat → List Int) (b : Int) : Nat → (Nat → List Int)
  | 0 => R
  | n + 1 => (H.shadeUp G b n).shadeR G (H.shadeUpR G R b n) (gv (H.shadeUp G b n).ws (b + 3 + n))
def Hp.scanR (G : Geo) (H : Hp) (R : Nat → List Int) (b : Int) : Nat → List Int :=
  if mform (gv H.ws b) = 3 then mvL R 12 12 b
  else if mform (gv H.ws b) = 1 then mvR (H.shadeUpR G R b (msize (gv H.ws b)).toNat) 12 (8 + G.cls b) b
  else mvR R 12 (8 + G.cls b) b
def Hp.lookR (G : Geo) (H : Hp) (R : Nat → List Int) (b : Int) : Nat → List Int :=
  if H.namesWhite G (gv H.ws (b + 3)) then
    if H.mis + 1 ≥ H.wai then mvR R 12 (8 + G.cls b) b else mvL R 12 12 b
  else mvR (({ H with mis := 0 } : Hp).shadeR G R (gv H.ws (b + 4))) 12 (8 + G.cls b) b
def flipsR (R : Nat → List Int) : Nat → (Nat → List Int)
  | 0 => R
  | c + 1 => joR (flipsR R c) (4 + c) (8 + c)
def Hp.shadeRegsR (G : Geo) (H : Hp) (R : Nat → List Int) : Nat → (Nat → List Int)
  | 0 => R
  | i + 1 => (H.shadeRegs G i).shadeR G (H.shadeRegsR G R i) (gv (H.shadeRegs G i).ws i)
def Hp.flipR (G : Geo) (H : Hp) (R : Nat → List Int) : Nat → List Int := ({ H.flips G 4 with mrk := true } : Hp).shadeRegsR G (flipsR R 4) 12
def endsR (R : Nat → List Int) : Nat → (Nat → List Int)
  | 0 => R
  | c + 1 => joR (endsR R c) c (4 + c)
def Hp.incR (G : Geo) (H : Hp) (R : Nat → List Int) : Nat → List Int :=
  if H.mrk then
    if gv H.ws (hd 12 + 2) = hd 12 then endsR R 4
    else if mtask (gv H.ws (gv H.ws (hd 12 + 2))) = 1 then H.scanR G R (gv H.ws (hd 12 + 2))
    else H.lookR G R (gv H.ws (hd 12 + 2))
  else H.flipR G R
def Hp.incsR (G : Geo) (H : Hp) (R : Nat → List Int) : Nat → (Nat → List Int)
  | 0 => R
  | n + 1 => (H.incs G n).incR G (H.incsR G R n)

section
variable {B : Int} {G : Geo} {H : Hp} {R : Nat → List Int} {b v : Int}

/-- who stands where behind a shade, and which marks turn -/
theorem shade_facts (i : Inv B G H R) (h0 : 0 ≤ v) (h1 : v < 18446744073709551616) :
    (∀ j x, j < 13 → (x ∈ H.shadeR G R v j ↔ (H.shaded G v = true ∧ x = (G.plc v).1 ∧ j = 12) ∨ (¬ (H.shaded G v = true ∧ x = (G.plc v).1) ∧ x ∈ R j))) ∧
    (∀ x, G.C x → ¬ (H.shaded G v = true ∧ x = (G.plc v).1) → gv (H.shade G v).ws x = gv H.ws x) ∧
    (H.shaded G v = true → G.C (G.plc v).1 ∧ (G.plc v).1 ∈ R (4 + G.cls (G.plc v).1) ∧ v = 8 * (G.plc v).1 + 1) ∧
    ((H.shaded G v = true → H.shadeR G R v 12 = (G.plc v).1 :: R 12) ∧ (H.shaded G v = false → H.shadeR G R v = R ∧ H.shade G v = H)) ∧
    (H.shade G v).mrk = H.mrk ∧ (H.shade G v).cyc = H.cyc ∧ (H.shade G v).wai = H.wai ∧ ((H.shade G v).mis = if H.shaded G v then 0 else H.mis) ∧ (H.shade G v).fre = H.fre := by
  cases hs : H.shaded G v
  · have e : H.shade G v = H := by
      unfold Hp.shaded at hs
      rw [Hp.shade, hs]
      rfl
    rw [e, Hp.shadeR, hs]
    simp
  · have hs' := hs
    unfold Hp.shaded at hs
    obtain ⟨⟨hp, hm⟩, hw⟩ : ((G.plc v).2 = true ∧ H.mrk = true) ∧ H.isWhite (gv H.ws (G.plc v).1) = true := by simpa using hs
    obtain ⟨hC, hv⟩ := plc_cell i.ok h0 h1 hp
    have e : H.shade G v = (((H.whiter (cln (msize (gv H.ws (G.plc v).1)))).setMark (G.plc v).1 (gv H.ws (G.plc v).1) 1).move (G.plc v).1 (hd 12)) := by
      rw [Hp.shade, hs]
      rfl
    rw [e, Hp.shadeR, hs', if_pos rfl]
    obtain ⟨-, hb⟩ := i.white_at hC hw
    have hc := G.cls_lt (G.plc v).1
    have ht := i.time
    obtain ⟨m0, m1⟩ := mwith_bd (gv H.ws (G.plc v).1) 1 H.next (by omega) (by omega) ht.1 (by omega)
    obtain ⟨g', mv, q⟩ := i.mv (h := 4 + G.cls (G.plc v).1) (by omega) hb (k := 12) (by omega) m0 m1
    refine ⟨fun j x hj => ?_, fun x hx hne => ?_, fun _ => ⟨hC, hb, hv⟩, ⟨fun _ => mvR_to _ (by omega), fun h => by cases h⟩, rfl, rfl, rfl, rfl, rfl⟩
    · rw [mem_mvR i.rg (by omega) hb (by omega) hj]
      simp
    · have : gv (((H.whiter (cln (msize (gv H.ws (G.plc v).1)))).setMark (G.plc v).1 (gv H.ws (G.plc v).1) 1).move (G.plc v).1 (hd 12)).ws x = if x = (G.plc v).1 then mwith (gv H.ws (G.plc v).1) 1 H.next else gv H.ws x := mv.marks x hx
      rw [this, if_neg fun e => hne ⟨rfl, e⟩]

/-- a shade leaves the tasks that were there as they were -/
theorem shade_task (i : Inv B G H R) (h0 : 0 ≤ v) (h1 : v < 18446744073709551616) {k : Nat} (h8 : 8 ≤ k) (hk : k < 13) {x : Int} (hx : x ∈ R k) : x ∈ H.shadeR G R v k ∧ gv (H.shade G v).ws x = gv H.ws x := by
  obtain ⟨f1, f2, f3, -⟩ := shade_facts i h0 h1
  have hne : ¬ (H.shaded G v = true ∧ x = (G.plc v).1) := fun ⟨hs, e⟩ => by
    have := (f3 hs).2.1
    have hc := G.cls_lt (G.plc v).1
    rw [← e] at this hc
    have := i.rg.apart k _ hk (by omega) x hx this
    omega
  exact ⟨(f1 k x hk).2 (.inr ⟨hne, hx⟩), f2 x (i.rg.place k hk x hx) hne⟩

theorem inv_shadeUp (i : Inv B G H R) (hb : b ∈ R 12) : ∀ n, Inv B G (H.shadeUp G b n) (H.shadeUpR G R b n) ∧ Dat G H.ws (H.shadeUp G b n).ws ∧ b ∈ H.shadeUpR G R b n 12 ∧ gv (H.shadeUp G b n).ws b = gv H.ws b ∧
    (H.shadeUp G b n).mrk = H.mrk ∧ (H.shadeUp G b n).cyc = H.cyc ∧ (H.shadeUp G b n).wai = H.wai ∧ (H.shadeUp G b n).fre = H.fre
  | 0 => ⟨i, Dat.refl _ _, hb, rfl, rfl, rfl, rfl, rfl⟩
  | n + 1 => by
    obtain ⟨i1, d1, b1, m1, r1, r2, r3, r4⟩ := inv_shadeUp i hb n
    have hr := i1.wrd (b + 3 + n)
    obtain ⟨i2, d2, -⟩ := inv_shade i1 hr.1 hr.2
    obtain ⟨-, -, -, -, f1, f2, f3, -, f5⟩ := shade_facts i1 hr.1 hr.2
    obtain ⟨t1, t2⟩ := shade_task i1 hr.1 hr.2 (k := 12) (by omega) (by omega) b1
    exact ⟨i2, d1.trans d2, t1, t2.trans m1, f1.trans r1, f2.trans r2, f3.trans r3, f5.trans r4⟩

theorem Hp.eta2 (H : Hp) : ({ H with wai := H.wai, mis := H.mis } : Hp) = H := rfl

theorem inv_scan (i : Inv B G H R) (hb : b ∈ R 12) (ht : mtask (gv H.ws b) = 1) : Inv B G (H.scan G b (gv H.ws b)) (H.scanR G R b) ∧ Dat G H.ws (H.scan G b (gv H.ws b)).ws := by
  have hf := i.shp 12 b (by omega) (by omega) hb
  have hbd := i.bnd
  by_cases h3 : mform (gv H.ws b) = 3
  · rw [Hp.scan, if_pos h3, Hp.scanR, if_pos h3]
    obtain ⟨a1, a2, -⟩ := inv_rest i hb ht h3
    exact ⟨a1, a2⟩
  · by_cases h1 : mform (gv H.ws b) = 1
    · rw [Hp.scan, if_neg h3, if_pos h1, Hp.scanR, if_neg h3, if_pos h1]
      obtain ⟨i1, d1, b1, m1, r1, r2, r3, r4⟩ := inv_shadeUp i hb (msize (gv H.ws b)).toNat
      have hbd1 := i1.bnd
      obtain ⟨a1, a2, -⟩ := inv_finish i1 b1 (x := (H.shadeUp G b (msize (gv H.ws b)).toNat).wai) (y := (H.shadeUp G b (msize (gv H.ws b)).toNat).mis) (by rw [m1, if_neg (by omega)]) (by omega)
      rw [m1] at a1 a2
      exact ⟨a1, d1.trans a2⟩
    · rw [Hp.scan, if_neg h3, if_neg h1, if_pos (by omega), Hp.scanR, if_neg h3, if_neg h1]
      obtain ⟨a1, a2, -⟩ := inv_finish i hb (x := H.wai) (y := H.mis) (by rw [if_neg (by omega)]) (by omega)
      exact ⟨a1, a2⟩

/-- the bound of how often the collector went on may be raised -/
theorem Inv.raise (i : Inv B G H R) {B' : Int} (h : B ≤ B') (h' : B' ≤ 1000000000) : Inv B' G H R := by
  obtain ⟨b1, b2, b3, b4, b5⟩ := i.bnd
  exact ⟨i.ok, i.len, i.rg, i.wrd, i.cover, i.cls, ⟨b1, by omega, b3, by omega, h'⟩, i.shp, i.fre, i.frec, i.white, i.whic, i.black, i.tasks, i.tot⟩
theorem Inv.miss (i : Inv B G H R) {y : Int} (h0 : 0 ≤ y) (h1 : y ≤ B) : Inv B G { H with mis := y } R := by
  obtain ⟨b1, b2, b3, b4, b5⟩ := i.bnd
  exact ⟨i.ok, i.len, i.rg, i.wrd, i.cover, i.cls, ⟨b1, b2, h0, h1, b5⟩, i.shp, i.fre, i.frec, i.white, i.whic, i.black, i.tasks, i.tot⟩

/-- a weak cell's two fields -/
theorem Inv.weak (i : Inv B G H R) (hb : b ∈ R 12) (ht : mtask (gv H.ws b) = 2) : mform (gv H.ws b) = 3 ∧ G.data (b + 3) ∧ G.data (b + 4) := by
  obtain ⟨g, w, e, hg, hw, -⟩ := i.tasks
  have hC := i.rg.place 12 (by omega) b hb
  have hl := ln_lo (G.cls b)
  refine ⟨?_, ?_, ?_⟩
  · rw [e] at hb
    rcases List.mem_append.1 hb with h | h
    · have := (hg b h).1; omega
    · exact (hw b h).2.2
  · simpa using i.ok.field hC (i := 0) (by omega) (by omega)
  · have := i.ok.field hC (i := 1) (by omega) (by omega)
    rwa [show b + 3 + 1 = b + 4 by omega] at this

theorem inv_look (i : Inv B G H R) (hb : b ∈ R 12) (ht : mtask (gv H.ws b) = 2) (hB : B + 1 ≤ 1000000000) : Inv (B + 1) G (H.look G b (gv H.ws b)) (H.lookR G R b) := by
  have hbd := i.bnd
  have i' := i.raise (B' := B + 1) (by omega) hB
  obtain ⟨-, q3, q4⟩ := i.weak hb ht
  have hC := i.rg.place 12 (by omega) b hb
  cases hn : H.namesWhite G (gv H.ws (b + 3))
  · rw [Hp.look, hn, Hp.lookR, hn]
    simp only [Bool.false_eq_true, if_false]
    have i0 := i'.miss (y := 0) (by omega) (by omega)
    have hr := i.wrd (b + 4)
    have hr' : 0 ≤ gv ({ H with mis := 0 } : Hp).ws (b + 4) ∧ gv ({ H with mis := 0 } : Hp).ws (b + 4) < 18446744073709551616 := hr
    obtain ⟨i1, d1, -⟩ := inv_shade i0 hr'.1 hr'.2
    obtain ⟨t1, t2⟩ := shade_task i0 hr'.1 hr'.2 (k := 12) (by omega) (by omega) hb
    have t2' : gv (({ H with mis := 0 } : Hp).shade G (gv H.ws (b + 4))).ws b = gv H.ws b := t2
    have hbd1 := i1.bnd
    have t1' : b ∈ (({ H with mis := 0 } : Hp).shadeR G R (gv H.ws (b + 4))) 12 := t1
    have hbd2 : 0 ≤ (({ H with mis := 0 } : Hp).shade G (gv H.ws (b + 4))).mis ∧ (({ H with mis := 0 } : Hp).shade G (gv H.ws (b + 4))).mis ≤ B + 1 := ⟨hbd1.2.2.1, hbd1.2.2.2.1⟩
    obtain ⟨a1, -⟩ := inv_finish i1 t1' (x := (({ H with mis := 0 } : Hp).shade G (gv H.ws (b + 4))).wai - 1) (y := (({ H with mis := 0 } : Hp).shade G (gv H.ws (b + 4))).mis) (by rw [t2', if_pos ht]) hbd2
    rw [t2'] at a1
    exact a1
  · rw [Hp.look, hn, Hp.lookR, hn]
    simp only [if_true]
    by_cases hm : H.mis + 1 ≥ H.wai
    · rw [if_pos hm, if_pos hm]
      have i1 := inv_data (v := 3) i' q3 (by omega) (by omega)
      have i2 := inv_data (v := 3) i1 q4 (by omega) (by omega)
      have e : gv (sv (sv H.ws (b + 3) 3) (b + 4) 3) b = gv H.ws b := by
        have h3 : inside H.ws.length (b + 3) = true := by
          have := Geo.extent i.ok hC
          have := ln_lo (G.cls b)
          have := i.len
          exact inside_mk (by omega) (by omega)
        have h4 : inside (sv H.ws (b + 3) 3).length (b + 4) = true := by
          have := Geo.extent i.ok hC
          have := ln_lo (G.cls b)
          have := i.len
          rw [sv_length]
          exact inside_mk (by omega) (by omega)
        rw [gv_sv _ _ h4, gv_sv _ _ h3, if_neg (by omega), if_neg (by omega)]
      obtain ⟨a1, -⟩ := inv_finish i2 hb (x := H.wai - 1) (y := H.mis + 1) (by
        show H.wai - 1 = if mtask (gv (sv (sv H.ws (b + 3) 3) (b + 4) 3) b) = 2 then H.wai - 1 else H.wai
        rw [e, if_pos ht]) (by omega)
      have a1' : Inv (B + 1) G (({ H with mis := H.mis + 1, wai := H.wai - 1, ws := sv (sv H.ws (b + 3) 3) (b + 4) 3 } : Hp).finish b (gv (sv (sv H.ws (b + 3) 3) (b + 4) 3) b)) (mvR R 12 (8 + G.cls b) b) := a1
      rw [e] at a1'
      exact a1'
    · rw [if_neg hm, if_neg hm]
      exact (inv_wait i' hb ht (y := H.mis + 1) (by omega)).1
end
end Go.Proofs.YtclcnepkgjcmcaaDoor
