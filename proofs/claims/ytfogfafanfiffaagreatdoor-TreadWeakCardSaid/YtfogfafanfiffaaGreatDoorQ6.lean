/- What holds of the heap between the collector's doings: rings, marks, counts. Plain mathematics. -/
import Derived.Test.YtfogfafanfiffaaGreatDoorQ1
namespace Go.Proofs.YtfogfafanfiffaaGreatDoor

def Geo.C (G : Geo) (b : Int) : Prop := G.cell b = true
theorem Geo.ok.plc {G : Geo} (g : G.ok) {n : Nat} (hn : (n : Int) = G.top) : Plc n G.C := by
  obtain ⟨l1, l2, l3, l4, -⟩ := g.lines
  refine ⟨by omega, fun u hu => (Geo.extent g hu).1, fun u hu => ?_, fun u v hu hv hne => ?_⟩
  · have := (Geo.extent g hu).2
    have := ln_lo (G.cls u)
    omega
  · have := Geo.far g hu hv hne
    have := ln_lo (G.cls u)
    have := ln_lo (G.cls v)
    omega

/-- neither a mark nor a link -/
def Geo.data (G : Geo) (j : Int) : Prop := ∀ u, Mem G.C u → j ≠ u ∧ j ≠ u + 1 ∧ j ≠ u + 2
/-- fields, registers, and what the cells are, are as they were -/
structure Dat (G : Geo) (ws ws' : List Int) : Prop where
  len : ws'.length = ws.length
  dat : ∀ j, G.data j → gv ws' j = gv ws j
  shp : ∀ b, G.C b → gv ws' b % 8192 = gv ws b % 8192
theorem Dat.refl (G : Geo) (ws : List Int) : Dat G ws ws := ⟨rfl, fun _ _ => rfl, fun _ _ => rfl⟩
theorem Dat.trans {G : Geo} {a b c : List Int} (h : Dat G a b) (k : Dat G b c) : Dat G a c :=
  ⟨k.len.trans h.len, fun j hj => (k.dat j hj).trans (h.dat j hj), fun b hb => (k.shp b hb).trans (h.shp b hb)⟩
theorem form_shp {a b : Int} (h : a % 8192 = b % 8192) : mform a = mform b ∧ mtag a = mtag b ∧ msize a = msize b := by
  unfold mform mtag msize
  omega
section
variable {G : Geo} {n : Nat} {ws ws' : List Int} {u v b : Int}
/-- a cell's mark is no link -/
theorem Mem.mark (p : Plc n G.C) (hb : G.C b) (hu : Mem G.C u) : b ≠ u + 1 ∧ b ≠ u + 2 := by
  by_cases e : b = u
  · omega
  · have := Mem.far p (.inr hb) hu e
    omega
theorem Keep.dat (p : Plc n G.C) (hl : ws'.length = ws.length) (k : Keep G.C ws ws') : Dat G ws ws' :=
  ⟨hl, fun j hj => k j fun u hu => (hj u hu).2, fun b hb => by rw [k b fun u hu => Mem.mark p hb hu]⟩
/-- the words of a cell's fields, and the registers -/
theorem Geo.ok.field (g : G.ok) (hb : G.C b) {i : Int} (h0 : 0 ≤ i) (h1 : i + 3 < ln (G.cls b)) : G.data (b + 3 + i) := by
  intro u hu
  rcases hu with ⟨k, hk, rfl⟩ | hu
  · have := (Geo.extent g hb).1
    unfold hd
    omega
  · by_cases e : b = u
    · omega
    · have := Geo.far g hb hu e
      have := ln_lo (G.cls u)
      omega
theorem Geo.ok.register (g : G.ok) {i : Int} (h0 : 0 ≤ i) (h1 : i < 12) : G.data i := by
  intro u hu
  rcases hu with ⟨k, hk, rfl⟩ | hu
  · unfold hd
    omega
  · have := (Geo.extent g hu).1
    omega
end

open Go.RowKit
/-- a sum of n numbers -/
def sumTo (f : Nat → Nat) : Nat → Nat
  | 0 => 0
  | n + 1 => sumTo f n + f n
/-- how many of some cells are of the size c -/
def Geo.fl (G : Geo) (c : Nat) (l : List Int) : Nat := (l.filter (fun b => G.cls b == c)).length
/-- What holds of the heap; B bounds how often the collector went on. -/
structure Inv (B : Int) (G : Geo) (H : Hp) (R : Nat → List Int) : Prop where
  ok : G.ok
  len : (H.ws.length : Int) = G.top
  rg : Rg H.ws.length G.C H.ws R
  wrd : ∀ j, 0 ≤ gv H.ws j ∧ gv H.ws j < 18446744073709551616
  cover : ∀ b, G.C b → ∃ k, k < 13 ∧ b ∈ R k
  cls : ∀ k b, k < 12 → b ∈ R k → G.cls b = k % 4
  bnd : 0 ≤ H.cyc ∧ H.cyc ≤ B ∧ 0 ≤ H.mis ∧ H.mis ≤ B ∧ B ≤ 1000000000
  shp : ∀ k b, 4 ≤ k → k < 13 → b ∈ R k → 1 ≤ mform (gv H.ws b) ∧ mform (gv H.ws b) ≤ 3 ∧ cln (msize (gv H.ws b)) = G.cls b ∧ (mform (gv H.ws b) = 3 → msize (gv H.ws b) = 2)
  fre : ∀ k b, k < 4 → b ∈ R k → mlast (gv H.ws b) ≤ H.cyc
  frec : ∀ c, c < 4 → H.fre.at_ c = (R c).length
  white : ∀ k b, 4 ≤ k → k < 8 → b ∈ R k → H.mrk = true ∧ mlast (gv H.ws b) = H.cyc + 1
  whic : H.mrk = true → ∀ c, c < 4 → H.whi.at_ c = (R (4 + c)).length
  black : ∀ k b, 8 ≤ k → k < 12 → b ∈ R k → mlast (gv H.ws b) = H.next ∧ mtask (gv H.ws b) = 0
  tasks : ∃ g w, R 12 = g ++ w ∧ (∀ b, b ∈ g → mtask (gv H.ws b) = 1 ∧ mlast (gv H.ws b) = H.next) ∧ (∀ b, b ∈ w → mtask (gv H.ws b) = 2 ∧ mlast (gv H.ws b) = H.next ∧ mform (gv H.ws b) = 3) ∧
    H.wai = w.length ∧ (H.mrk = false → g = [] ∧ w = [])
  tot : ∀ c, c < 4 → (sumTo (fun j => G.fl c (R j)) 13 : Int) = G.n.at_ c

section
variable {B : Int} {G : Geo} {H : Hp} {R : Nat → List Int} {u v b : Int} {k : Nat}
theorem Inv.plc (h : Inv B G H R) : Plc H.ws.length G.C := h.ok.plc h.len
theorem Inv.short (h : Inv B G H R) : H.ws.length ≤ 1048576 := by
  have := h.ok.lines
  have := h.len
  omega
theorem Inv.time (h : Inv B G H R) : 0 ≤ H.next ∧ H.next ≤ 1000000002 := by
  have := h.bnd
  unfold Hp.next
  split <;> omega
theorem Inv.into (h : Inv B G H R) (hb : G.C b) : inside H.ws.length b = true := by
  have := h.plc.low b hb
  have := h.plc.top b hb
  exact inside_mk (by omega) (by omega)
theorem pigeon : ∀ (n : Nat) (l : List Nat), l.Nodup → (∀ x ∈ l, x < n) → l.length ≤ n
  | 0, l, _, h => by
    cases l with
    | nil => simp
    | cons x t => exact absurd (h x (by simp)) (by omega)
  | n + 1, l, hn, h => by
    have := pigeon n (l.erase n) (hn.erase n) (fun x hx => by
      have := (List.Nodup.mem_erase_iff hn).1 hx
      have := h x this.2
      omega)
    have := List.length_erase (a := n) (l := l)
    split at this <;> omega
theorem ring_len (h : Inv B G H R) (hk : k < 13) : (R k).length ≤ 1048576 := by
  -- distinct places below the top
  have hs := h.short
  have hn := h.rg.nodup k hk
  have hb : ∀ b ∈ R k, 0 ≤ b ∧ b < H.ws.length := fun b hb => by
    have hc := h.rg.place k hk b hb
    have := h.plc.low b hc
    have := h.plc.top b hc
    omega
  have hm : ((R k).map Int.toNat).Nodup := by
    refine List.pairwise_map.2 (List.Pairwise.imp_of_mem ?_ hn)
    intro x y hx hy hne e
    have := hb x hx
    have := hb y hy
    omega
  have := pigeon H.ws.length _ hm (fun x hx => by
    obtain ⟨y, hy, rfl⟩ := List.mem_map.1 hx
    have := hb y hy
    omega)
  simp at this
  omega

/-! a word that names a cell -/
theorem inCl_0 (G : Geo) (b : Int) : G.inCl 0 b = true ↔ 51 ≤ b ∧ b < G.b1 := by
  have e : G.b1 = 51 + 6 * G.n.a := rfl
  show decide (0 ≤ b - 51 ∧ b - 51 < G.n.a * 6) = true ↔ _
  rw [decide_eq_true_iff]
  omega
theorem inCl_1 (G : Geo) (b : Int) : G.inCl 1 b = true ↔ G.b1 ≤ b ∧ b < G.b2 := by
  have e : G.b2 = G.b1 + 10 * G.n.b := rfl
  show decide (0 ≤ b - G.b1 ∧ b - G.b1 < G.n.b * 10) = true ↔ _
  rw [decide_eq_true_iff]
  omega
theorem inCl_2 (G : Geo) (b : Int) : G.inCl 2 b = true ↔ G.b2 ≤ b ∧ b < G.b3 := by
  have e : G.b3 = G.b2 + 34 * G.n.c := rfl
  show decide (0 ≤ b - G.b2 ∧ b - G.b2 < G.n.c * 34) = true ↔ _
  rw [decide_eq_true_iff]
  omega
theorem inCl_3 (G : Geo) (b : Int) : G.inCl 3 b = true ↔ G.b3 ≤ b ∧ b < G.top := by
  have e : G.top = G.b3 + 130 * G.n.d := rfl
  show decide (0 ≤ b - G.b3 ∧ b - G.b3 < G.n.d * 130) = true ↔ _
  rw [decide_eq_true_iff]
  omega
theorem vl_cell {v : Int} (h0 : 0 ≤ v) (h1 : v < 18446744073709551616) (hk : WM.kd v = 2) : 0 ≤ WM.vl v ∧ WM.vl v ≤ 1099511627776 ∧ v = 8 * WM.vl v + 1 := by
  rcases WM.kd_cases v h0 h1 with h | h | h | h | h | h | h | h | h | h
  · omega
  · omega
  · obtain ⟨-, hh, hm⟩ := h
    simp [WM.hd, WM.least, WM.most] at hh
    unfold WM.mk at hm
    omega
  all_goals omega
theorem kd_mk (b : Int) (h0 : 0 ≤ b) (h1 : b ≤ 1099511627776) : WM.kd (8 * b + 1) = 2 ∧ WM.vl (8 * b + 1) = b := by
  have e1 : (8 * b + 1) % 8 = 1 := by omega
  have e2 : WM.nm (8 * b + 1) = b := by unfold WM.nm wrap64; omega
  have e3 : WM.hd 1 b = true := by simp [WM.hd, WM.least, WM.most]; omega
  have hk : WM.kd (8 * b + 1) = 2 := by
    rw [WM.kd, e1, e2, if_pos e3]
    rfl
  exact ⟨hk, by rw [WM.vl, if_neg (by rw [hk]; decide), e2]⟩
theorem plc_cell (g : G.ok) (h0 : 0 ≤ v) (h1 : v < 18446744073709551616) (h : (G.plc v).2 = true) : G.C (G.plc v).1 ∧ v = 8 * (G.plc v).1 + 1 := by
  obtain ⟨l1, l2, l3, l4, -⟩ := g.lines
  by_cases hk : WM.kd v = 2
  · obtain ⟨-, -, hv⟩ := vl_cell h0 h1 hk
    rw [Geo.plc, if_pos hk] at h ⊢
    generalize WM.vl v = B at *
    unfold Geo.C
    rw [Geo.cell_iff]
    by_cases c0 : G.inCl 0 B = true
    · rw [if_pos c0] at h ⊢
      have := (inCl_0 G B).1 c0
      have h' : (B - 51) % 6 = 0 := by simpa [Geo.bas, Q4.at_, ln] using h
      exact ⟨.inl ⟨this.1, this.2, h'⟩, hv⟩
    · rw [if_neg c0] at h ⊢
      by_cases c1 : G.inCl 1 B = true
      · rw [if_pos c1] at h ⊢
        have := (inCl_1 G B).1 c1
        have h' : (B - G.b1) % 10 = 0 := by simpa [Geo.bas, Q4.at_, ln] using h
        exact ⟨.inr (.inl ⟨this.1, this.2, h'⟩), hv⟩
      · rw [if_neg c1] at h ⊢
        by_cases c2 : G.inCl 2 B = true
        · rw [if_pos c2] at h ⊢
          have := (inCl_2 G B).1 c2
          have h' : (B - G.b2) % 34 = 0 := by simpa [Geo.bas, Q4.at_, ln] using h
          exact ⟨.inr (.inr (.inl ⟨this.1, this.2, h'⟩)), hv⟩
        · rw [if_neg c2] at h ⊢
          by_cases c3 : G.inCl 3 B = true
          · rw [if_pos c3] at h ⊢
            have := (inCl_3 G B).1 c3
            have h' : (B - G.b3) % 130 = 0 := by simpa [Geo.bas, Q4.at_, ln] using h
            exact ⟨.inr (.inr (.inr ⟨this.1, this.2, h'⟩)), hv⟩
          · rw [if_neg c3] at h
            cases h
  · rw [Geo.plc, if_neg hk] at h
    cases h
theorem plc_of_cell (g : G.ok) (hb : G.C b) : G.plc (8 * b + 1) = (b, true) := by
  obtain ⟨l1, l2, l3, l4, l5⟩ := g.lines
  have hx := Geo.extent g hb
  have hl := ln_lo (G.cls b)
  obtain ⟨hk, hv⟩ := kd_mk b (by omega) (by omega)
  rw [Geo.plc, if_pos hk, hv]
  have n0 := inCl_0 G b
  have n1 := inCl_1 G b
  have n2 := inCl_2 G b
  have n3 := inCl_3 G b
  rcases Geo.cell_iff.1 hb with ⟨a, c, d⟩ | ⟨a, c, d⟩ | ⟨a, c, d⟩ | ⟨a, c, d⟩
  · rw [if_pos (n0.2 ⟨a, c⟩)]
    simpa [Geo.bas, Q4.at_, ln] using d
  · rw [if_neg (fun h => by have := n0.1 h; omega), if_pos (n1.2 ⟨a, c⟩)]
    simpa [Geo.bas, Q4.at_, ln] using d
  · rw [if_neg (fun h => by have := n0.1 h; omega), if_neg (fun h => by have := n1.1 h; omega), if_pos (n2.2 ⟨a, c⟩)]
    simpa [Geo.bas, Q4.at_, ln] using d
  · rw [if_neg (fun h => by have := n0.1 h; omega), if_neg (fun h => by have := n1.1 h; omega), if_neg (fun h => by have := n2.1 h; omega), if_pos (n3.2 ⟨a, c⟩)]
    simpa [Geo.bas, Q4.at_, ln] using d
end
end Go.Proofs.YtfogfafanfiffaaGreatDoor
