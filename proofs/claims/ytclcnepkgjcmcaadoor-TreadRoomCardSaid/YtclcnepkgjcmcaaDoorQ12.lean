/- What each doing leaves of fields and registers. Plain mathematics. -/
import Derived.Test.YtclcnepkgjcmcaaDoorQ11
namespace Go.Proofs.YtclcnepkgjcmcaaDoor

section
variable {B : Int} {G : Geo} {H : Hp} {R : Nat → List Int} {b v : Int}

/-- two fields of a weak cell that is broken -/
def broke (ws : List Int) (b : Int) : List Int := sv (sv ws (b + 3) 3) (b + 4) 3
theorem look_dat (i : Inv B G H R) (hb : b ∈ R 12) (ht : mtask (gv H.ws b) = 2) (hB : B + 1 ≤ 1000000000) :
    Dat G (if H.namesWhite G (gv H.ws (b + 3)) = true ∧ H.mis + 1 ≥ H.wai then broke H.ws b else H.ws) (H.look G b (gv H.ws b)).ws := by
  have hbd := i.bnd
  have i' := i.raise (B' := B + 1) (by omega) hB
  obtain ⟨-, q3, q4⟩ := i.weak hb ht
  have hC := i.rg.place 12 (by omega) b hb
  cases hn : H.namesWhite G (gv H.ws (b + 3))
  · rw [Hp.look, hn, if_neg (by simp)]
    simp only [Bool.false_eq_true, if_false]
    have i0 := i'.miss (y := 0) (by omega) (by omega)
    have hr' : 0 ≤ gv ({ H with mis := 0 } : Hp).ws (b + 4) ∧ gv ({ H with mis := 0 } : Hp).ws (b + 4) < 18446744073709551616 := i.wrd (b + 4)
    obtain ⟨i1, d1, -⟩ := inv_shade i0 hr'.1 hr'.2
    obtain ⟨t1, t2⟩ := shade_task i0 hr'.1 hr'.2 (k := 12) (by omega) (by omega) hb
    have t2' : gv (({ H with mis := 0 } : Hp).shade G (gv H.ws (b + 4))).ws b = gv H.ws b := t2
    have hbd1 := i1.bnd
    have hbd2 : 0 ≤ (({ H with mis := 0 } : Hp).shade G (gv H.ws (b + 4))).mis ∧ (({ H with mis := 0 } : Hp).shade G (gv H.ws (b + 4))).mis ≤ B + 1 := ⟨hbd1.2.2.1, hbd1.2.2.2.1⟩
    have t1' : b ∈ (({ H with mis := 0 } : Hp).shadeR G R (gv H.ws (b + 4))) 12 := t1
    obtain ⟨-, a2, -⟩ := inv_finish i1 t1' (x := (({ H with mis := 0 } : Hp).shade G (gv H.ws (b + 4))).wai - 1) (y := (({ H with mis := 0 } : Hp).shade G (gv H.ws (b + 4))).mis) (by rw [t2', if_pos ht]) hbd2
    rw [t2'] at a2
    exact Dat.trans d1 a2
  · rw [Hp.look, hn]
    simp only [if_true, true_and]
    by_cases hm : H.mis + 1 ≥ H.wai
    · rw [if_pos hm, if_pos hm]
      have i1 := inv_data (v := 3) i' q3 (by omega) (by omega)
      have i2 := inv_data (v := 3) i1 q4 (by omega) (by omega)
      have e : gv (sv (sv H.ws (b + 3) 3) (b + 4) 3) b = gv H.ws b := by
        have h3 : inside H.ws.length (b + 3) = true := by
          have := Geo.extent i.ok hC
          have := ln_lo (G.cls b)
          have := i.len
          exact inside_mk (by omega) (by omega)
        have h4 : inside (sv H.ws (b + 3) 3).length (b + 4) = true := by
          have := Geo.extent i.ok hC
          have := ln_lo (G.cls b)
          have := i.len
          rw [sv_length]
          exact inside_mk (by omega) (by omega)
        rw [gv_sv _ _ h4, gv_sv _ _ h3, if_neg (by omega), if_neg (by omega)]
      obtain ⟨-, a2, -⟩ := inv_finish i2 hb (x := H.wai - 1) (y := H.mis + 1) (by
        show H.wai - 1 = if mtask (gv (sv (sv H.ws (b + 3) 3) (b + 4) 3) b) = 2 then H.wai - 1 else H.wai
        rw [e, if_pos ht]) (by omega)
      have a2' : Dat G (broke H.ws b) (({ H with mis := H.mis + 1, wai := H.wai - 1, ws := sv (sv H.ws (b + 3) 3) (b + 4) 3 } : Hp).finish b (gv (sv (sv H.ws (b + 3) 3) (b + 4) 3) b)).ws := a2
      rw [e] at a2'
      exact a2'
    · rw [if_neg hm, if_neg hm]
      exact (inv_wait i' hb ht (y := H.mis + 1) (by omega)).2.1

/-- an increment breaks this weak cell -/
def Hp.breaks (G : Geo) (H : Hp) (b : Int) : Prop :=
  H.mrk = true ∧ gv H.ws (hd 12 + 2) = b ∧ b ≠ hd 12 ∧ mtask (gv H.ws b) = 2 ∧ H.namesWhite G (gv H.ws (b + 3)) = true ∧ H.mis + 1 ≥ H.wai

theorem inc_dat (i : Inv B G H R) (hB : B + 1 ≤ 1000000000) : Dat G H.ws (H.inc G).ws ∨ ∃ b, b ∈ R 12 ∧ H.breaks G b ∧ Dat G (broke H.ws b) (H.inc G).ws := by
  cases hm : H.mrk
  · rw [Hp.inc, hm]
    simp only [Bool.false_eq_true, if_false]
    obtain ⟨i0, d0, -⟩ := inv_flip0 i hm
    exact .inl (d0.trans (inv_regs i0 12).2)
  · rcases i.first with ⟨h12, hf⟩ | ⟨x, l, h12, hf, hne⟩
    · rw [Hp.inc, hm, if_pos rfl, if_pos hf]
      by_cases hB' : B + 1 ≤ 1000000000
      · exact .inl (inv_end i hm h12 hB').2.1
      · omega
    · have hx : x ∈ R 12 := by rw [h12]; simp
      obtain ⟨-, ht | ht⟩ := i.mem12 hx
      · rw [Hp.inc, hm, if_pos rfl, hf, if_neg hne, if_pos ht]
        exact .inl (inv_scan i hx ht).2
      · have e : H.inc G = H.look G x (gv H.ws x) := by rw [Hp.inc, hm, if_pos rfl, hf, if_neg hne, if_neg (by omega), if_pos ht]
        rw [e]
        have hd' := look_dat i hx ht hB
        by_cases hc : H.namesWhite G (gv H.ws (x + 3)) = true ∧ H.mis + 1 ≥ H.wai
        · rw [if_pos hc] at hd'
          exact .inr ⟨x, hx, ⟨hm, hf, hne, ht, hc.1, hc.2⟩, hd'⟩
        · rw [if_neg hc] at hd'
          exact .inl hd'

theorem inc_reg (i : Inv B G H R) (hB : B + 1 ≤ 1000000000) {j : Int} (j0 : 0 ≤ j) (j1 : j < 12) : gv (H.inc G).ws j = gv H.ws j := by
  have hj := i.ok.register j0 j1
  rcases inc_dat i hB with d | ⟨b, hb, -, d⟩
  · exact d.dat j hj
  · have hC := i.rg.place 12 (by omega) b hb
    have := i.plc.low b hC
    have hx := (Geo.extent i.ok hC).2
    have hl := ln_lo (G.cls b)
    have hlen := i.len
    rw [d.dat j hj, broke, gv_sv _ _ (by rw [sv_length]; exact inside_mk (by omega) (by omega)), gv_sv _ _ (inside_mk (by omega) (by omega)), if_neg (by omega), if_neg (by omega)]
theorem incs_reg (i : Inv B G H R) {j : Int} (j0 : 0 ≤ j) (j1 : j < 12) : ∀ n : Nat, B + n ≤ 1000000000 → gv (H.incs G n).ws j = gv H.ws j
  | 0, _ => rfl
  | n + 1, hn => by
    have h1 := inc_reg (inv_incs i n (by omega)) (by omega) j0 j1
    exact h1.trans (incs_reg i j0 j1 n (by omega))

theorem setRoot_reg (i : Inv B G H R) {j k : Int} (j0 : 0 ≤ j) (j1 : j < 12) (k0 : 0 ≤ k) (k1 : k < 12) (h0 : 0 ≤ v) (h1 : v < 18446744073709551616) : gv (H.setRoot G j v).ws k = if k = j then v else gv H.ws k := by
  obtain ⟨i1, d1, -⟩ := inv_shade i h0 h1
  have hlen := i1.len
  have hl := i.ok.lines
  show gv (sv (H.shade G v).ws j v) k = _
  rw [gv_sv _ _ (inside_mk j0 (by omega)), d1.dat k (i.ok.register k0 k1)]

/-- a word that names no cell is not shaded -/
theorem shade_none (h : (G.plc v).2 = false) : H.shade G v = H ∧ H.shadeR G R v = R := by
  constructor
  · rw [Hp.shade, h]; rfl
  · rw [Hp.shadeR, Hp.shaded, h]; rfl
theorem plc_kd (h : WM.kd v ≠ 2) : (G.plc v).2 = false := by
  rw [Geo.plc, if_neg h]

/-! a heap whose registers name no cells, and that has no task -/
theorem regs_none (i : Inv B G H R) (h : ∀ j, 0 ≤ j → j < 12 → (G.plc (gv H.ws j)).2 = false) : ∀ n : Nat, n ≤ 12 → H.shadeRegs G n = H ∧ H.shadeRegsR G R n = R
  | 0, _ => ⟨rfl, rfl⟩
  | n + 1, hn => by
    obtain ⟨e1, e2⟩ := regs_none i h n (by omega)
    obtain ⟨f1, f2⟩ := shade_none (H := H) (R := R) (h n (by omega) (by omega))
    constructor
    · rw [Hp.shadeRegs, e1, f1]
    · rw [Hp.shadeRegsR, e1, e2, f2]
theorem rest_inc (i : Inv B G H R) (h12 : R 12 = []) (h : ∀ j, 0 ≤ j → j < 12 → (G.plc (gv H.ws j)).2 = false) :
    (H.mrk = true → H.incR G R = endsR R 4 ∧ (H.inc G).mrk = false) ∧ (H.mrk = false → H.incR G R = flipsR R 4 ∧ (H.inc G).mrk = true) := by
  constructor
  · intro hm
    rcases i.first with ⟨-, hf⟩ | ⟨x, l, hx, -⟩
    · rw [Hp.incR, hm, Hp.inc, hm]
      simp only [if_true]
      rw [if_pos hf, if_pos hf]
      exact ⟨rfl, rfl⟩
    · rw [h12] at hx; cases hx
  · intro hm
    obtain ⟨i0, d0, -⟩ := inv_flip0 i hm
    have hreg : ∀ j, 0 ≤ j → j < 12 → (G.plc (gv ({ H.flips G 4 with mrk := true } : Hp).ws j)).2 = false := fun j j0 j1 => by
      show (G.plc (gv (H.flips G 4).ws j)).2 = false
      rw [d0.dat j (i.ok.register j0 j1)]
      exact h j j0 j1
    obtain ⟨e1, e2⟩ := regs_none i0 hreg 12 (by omega)
    rw [Hp.incR, hm, Hp.inc, hm]
    simp only [Bool.false_eq_true, if_false]
    rw [Hp.flipR, e2, Hp.flip, e1]
    exact ⟨rfl, rfl⟩

/-- all cells are free -/
def allFree (R : Nat → List Int) : Prop := ∀ k, 4 ≤ k → k < 13 → R k = []
theorem allFree.flip (h : allFree R) : allFree (flipsR R 4) := by
  intro k h4 hk
  rw [flipsR_at R 4 (by omega)]
  split
  · rw [h k h4 hk, h (k + 4) (by omega) (by omega)]; rfl
  · split
    · rfl
    · exact h k h4 hk
theorem free_two (h12 : R 12 = []) : allFree (endsR (flipsR R 4) 4) := by
  intro k h4 hk
  rw [endsR_at _ 4 (by omega), if_neg (by omega)]
  split
  · rfl
  · rw [flipsR_at R 4 (by omega), if_neg (by omega)]
    split
    · rfl
    · rw [show k = 12 by omega]; exact h12
theorem ends_white (R : Nat → List Int) : ∀ k, 4 ≤ k → k < 8 → endsR R 4 k = [] := fun k h4 h8 => by
  rw [endsR_at R 4 (by omega), if_neg (by omega), if_pos (by omega)]
theorem ends_12 (R : Nat → List Int) : endsR R 4 12 = R 12 := by rw [endsR_at R 4 (by omega), if_neg (by omega), if_neg (by omega)]
theorem flips_12 (R : Nat → List Int) : flipsR R 4 12 = R 12 := by rw [flipsR_at R 4 (by omega), if_neg (by omega), if_neg (by omega)]

/-- three increments of a heap that nothing is reached of leave all its cells free -/
theorem rest_three (i : Inv B G H R) (hB : B + 3 ≤ 1000000000) (h12 : R 12 = []) (h : ∀ j, 0 ≤ j → j < 12 → (G.plc (gv H.ws j)).2 = false) :
    ∃ R', Inv (B + 3) G (H.incs G 3) R' ∧ allFree R' ∧ ∀ j, 0 ≤ j → j < 12 → gv (H.incs G 3).ws j = gv H.ws j := by
  have i1 := inv_inc i (by omega)
  have i2 := inv_inc i1 (by omega)
  have i3 := inv_inc i2 (by omega)
  have r1 : ∀ j, 0 ≤ j → j < 12 → (G.plc (gv (H.inc G).ws j)).2 = false := fun j j0 j1 => by rw [inc_reg i (by omega) j0 j1]; exact h j j0 j1
  have r2 : ∀ j, 0 ≤ j → j < 12 → (G.plc (gv ((H.inc G).inc G).ws j)).2 = false := fun j j0 j1 => by rw [inc_reg i1 (by omega) j0 j1]; exact r1 j j0 j1
  have hreg : ∀ j, 0 ≤ j → j < 12 → gv (H.incs G 3).ws j = gv H.ws j := fun j j0 j1 => incs_reg i j0 j1 3 (by omega)
  have e3 : H.incs G 3 = ((H.inc G).inc G).inc G := rfl
  rw [show B + 3 = B + 1 + 1 + 1 by omega]
  refine ⟨_, i3, ?_, hreg⟩
  cases hm : H.mrk
  · obtain ⟨a1, m1⟩ := (rest_inc i h12 h).2 hm
    rw [a1] at i1 i2
    rw [a1]
    obtain ⟨a2, m2⟩ := (rest_inc i1 (by rw [flips_12]; exact h12) r1).1 m1
    rw [a2] at i2
    rw [a2]
    have hf := free_two h12
    obtain ⟨a3, -⟩ := (rest_inc i2 (by rw [ends_12, flips_12]; exact h12) r2).2 m2
    rw [a3]
    exact hf.flip
  · obtain ⟨a1, m1⟩ := (rest_inc i h12 h).1 hm
    rw [a1] at i1 i2
    rw [a1]
    obtain ⟨a2, m2⟩ := (rest_inc i1 (by rw [ends_12]; exact h12) r1).2 m1
    rw [a2] at i2
    rw [a2]
    obtain ⟨a3, -⟩ := (rest_inc i2 (by rw [flips_12, ends_12]; exact h12) r2).1 m2
    rw [a3]
    exact free_two (by rw [ends_12]; exact h12)
theorem allFree.count (i : Inv B G H R) (h : allFree R) {c : Nat} (hc : c < 4) : H.fre.at_ c = G.n.at_ c := by
  rw [i.frec c hc, i.count hc, h (4 + c) (by omega) (by omega), h (8 + c) (by omega) (by omega), h 12 (by omega) (by omega), fl_nil]
  simp

/-! the words of a new cell -/
theorem alloc_words (i : Inv B G H R) {f t n : Int} (f0 : 1 ≤ f) (f1 : f ≤ 3) (t0 : 0 ≤ t) (t1 : t < 16) (n0 : 0 ≤ n) (n1 : n < 128) (hw : f = 3 → n = 2) (h : H.fre.at_ (cln n) ≠ 0) :
    H.firstFree (cln n) ∈ R (cln n) ∧ G.C (H.firstFree (cln n)) ∧ G.cls (H.firstFree (cln n)) = cln n ∧
    gv (H.alloc f t n).ws (H.firstFree (cln n)) = mwith (mshape f t n) 0 H.next ∧
    (∀ j, 0 ≤ j → j < n → gv (H.alloc f t n).ws (H.firstFree (cln n) + 3 + j) = blank f) ∧
    (∀ j, G.data j → ¬ (H.firstFree (cln n) + 3 ≤ j ∧ j < H.firstFree (cln n) + 3 + n) → gv (H.alloc f t n).ws j = gv H.ws j) ∧
    (∀ x, G.C x → x ≠ H.firstFree (cln n) → gv (H.alloc f t n).ws x = gv H.ws x) := by
  obtain ⟨i1, d1, m1, o1, hb, -⟩ := inv_take i f0 f1 t0 t1 n0 n1 hw h
  have hc := cln_lt n
  have hC := i.rg.place _ (by omega) _ hb
  have hcl : G.cls (H.firstFree (cln n)) = cln n := by
    have := i.cls (cln n) _ (by omega) hb
    omega
  have hx := Geo.extent i.ok hC
  rw [hcl] at hx
  have hln : n + 3 ≤ ln (cln n) := by
    unfold cln ln
    (repeat' split) <;> omega
  have hlen : (H.take (cln n) (mshape f t n)).ws.length = H.ws.length := by
    show (sv (ins (rem H.ws _) _ _) _ _).length = _
    rw [sv_length, ins_length, rem_length]
  have hl := i.len
  have A := clearF_at (H.take (cln n) (mshape f t n)).ws (H.firstFree (cln n)) (blank f) (by omega) n.toNat (by rw [hlen]; omega)
  refine ⟨hb, hC, hcl, ?_, fun j j0 j1 => ?_, fun j hj hn => ?_, fun x hx' hne => ?_⟩
  · show gv (clearF _ _ _ _) _ = _
    rw [A, if_neg (by omega)]
    exact o1
  · show gv (clearF _ _ _ _) _ = _
    rw [A, if_pos (by omega)]
  · show gv (clearF _ _ _ _) _ = _
    rw [A, if_neg (by omega)]
    exact d1 j hj
  · show gv (clearF _ _ _ _) _ = _
    have hf := Geo.far i.ok hx' hC hne
    have := ln_lo (G.cls x)
    rw [hcl] at hf
    rw [A, if_neg (by omega)]
    exact m1 x hx' hne
/-- a field is set where no word names a cell -/
theorem setF_plain (i : Inv B G H R) {x j : Int} {k : Nat} (h4 : 4 ≤ k) (hk : k < 13) (hx : x ∈ R k) (j0 : 0 ≤ j) (j1 : j < msize (gv H.ws x)) (ho : mform (gv H.ws x) = 2 ∨ (G.plc (gv H.ws (x + 3 + j))).2 = false) (hv : (G.plc v).2 = false) :
    H.setF G x j v = { H with ws := sv H.ws (x + 3 + j) v } ∧ H.setFR G R x j v = R ∧ (∀ u, gv (H.setF G x j v).ws u = if u = x + 3 + j then v else gv H.ws u) := by
  have e1 : H.guard G (gv H.ws x) (gv H.ws (x + 3 + j)) v = H ∧ H.guardR G R (gv H.ws x) (gv H.ws (x + 3 + j)) v = R := by
    unfold Hp.guard Hp.guardR
    obtain ⟨a1, a2⟩ := shade_none (H := H) (R := R) hv
    rcases ho with ho | ho
    · rw [if_neg (by omega), if_neg (by omega), if_neg (by omega), if_neg (by omega)]
      exact ⟨rfl, rfl⟩
    · obtain ⟨b1, b2⟩ := shade_none (H := H) (R := R) ho
      rw [b1, b2, a1, a2]
      constructor <;> (repeat' split) <;> rfl
  have e : H.setF G x j v = { H with ws := sv H.ws (x + 3 + j) v } := by
    rw [Hp.setF, e1.1]
  refine ⟨e, e1.2, fun u => ?_⟩
  rw [e]
  exact gv_sv _ _ (i.fields h4 hk hx j0 j1).1
end
end Go.Proofs.YtclcnepkgjcmcaaDoor
