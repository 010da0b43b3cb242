/- Safety: a new heap; what a program sees; free cells behind a cycle; how long a cycle goes on; raw things. Plain mathematics. -/
import Derived.Test.YtclcnepkgjcmcaaDoorQ17
import Derived.Test.YtclcnepkgjcmcaaDoorQ11
namespace Go.Proofs.YtclcnepkgjcmcaaDoor
open Go.RowKit

/-- no things yet -/
def Md.none : Md := ⟨fun _ => 0, fun _ => 0, fun _ _ => .w 12, fun _ => 0, fun _ => .w 12⟩
section
variable {M : Md} {A D : Nat → Prop} {R : Nat → List Int} {B : Int} {G : Geo} {H : Hp} {z j : Nat}
theorem safe_fresh (g : G.ok) : Safe 0 G G.fresh (G.layR 4 0) Md.none (fun _ => False) (fun _ => False) := by
  obtain ⟨i, hr⟩ := inv_fresh g
  have E : ∀ k, 4 ≤ k → G.layR 4 0 k = [] := fun k h4 => by
    unfold Geo.layR
    rw [if_neg (by omega)]
    split <;> rfl
  refine ⟨i, ⟨fun _ h => h.elim, fun _ _ h => h.elim, fun _ h => h, fun _ h => h.elim, fun _ h => h.elim, fun _ h => h.elim, fun _ h => h.elim, fun _ h => h.elim, fun r h8 => ?_, fun r r8 r12 => hr r (by omega) r12, fun _ h => h.elim, fun _ _ => twelve_none,
    ⟨fun _ _ => trivial, fun _ h => h.elim, fun _ h => h.elim⟩⟩, ⟨fun _ h => h.elim, fun x ⟨k, h8, hk, hx⟩ => ?_⟩, (fun h => by cases h), fun _ _ h => h, (fun h => by cases h), (fun h => by cases h)⟩
  · exact hr r (by omega) (by omega)
  · rw [E k (by omega)] at hx
    simp at hx

/-- the ring in which a thing's cell is -/
theorem Safe.ring (s : Safe B G H R M A D) (h : A z) : ∃ k, 4 ≤ k ∧ k < 13 ∧ M.cell z ∈ R k := s.co.had z (s.ct.sub z h)
/-- a reached thing's form, size and fields -/
theorem Safe.sees (s : Safe B G H R M A D) (h : A z) : G.C (M.cell z) ∧ mform (gv H.ws (M.cell z)) = M.form z ∧ msize (gv H.ws (M.cell z)) = M.len z ∧ (M.form z ≠ 3 → ∀ j, j < M.len z → gv H.ws (M.cell z + 3 + j) = (M.fld z j).wd M.cell) :=
  ⟨s.ct.place z (s.ct.sub z h), (s.ct.mark z h).1, (s.ct.mark z h).2, fun hf j hj => s.ct.flds z h hf j hj⟩
/-- a weak thing that may be reached has its key and its thing, if its key may be reached -/
theorem Safe.whole (s : Safe B G H R M A D) (h : A z) (hf : M.form z = 3) (hk : (M.fld z 0).Has A) : gv H.ws (M.cell z + 3) = (M.fld z 0).wd M.cell ∧ gv H.ws (M.cell z + 4) = (M.fld z 1).wd M.cell ∧ (M.fld z 1).Has A := by
  rcases s.ct.weak z h hf with ⟨a, b, -⟩ | ⟨-, -, c⟩
  · exact ⟨a, b, s.ct.closed.weak z h hf hk⟩
  · exact absurd hk c
/-- a new cell is none that is reached -/
theorem Safe.apart (s : Safe B G H R M A D) {y : Nat} (hz : A z) (hy : A y) (e : M.cell z = M.cell y) : z = y := s.ct.inj z y (s.ct.sub z hz) (s.ct.sub y hy) e
end
end Go.Proofs.YtclcnepkgjcmcaaDoor

namespace Go.Proofs.YtclcnepkgjcmcaaDoor
open Go.RowKit

theorem nodup_le : ∀ (l m : List Int), l.Nodup → (∀ x ∈ l, x ∈ m) → l.length ≤ m.length
  | [], _, _, _ => Nat.zero_le _
  | x :: l, m, hn, h => by
    obtain ⟨hx, hn'⟩ := List.nodup_cons.1 hn
    have := nodup_le l (m.erase x) hn' fun y hy => (List.mem_erase_of_ne (fun e => hx (by rw [← e]; exact hy))).2 (h y (by simp [hy]))
    have hm := h x (by simp)
    have := List.length_erase (a := x) (l := m)
    have := List.length_pos_of_mem hm
    rw [if_pos hm] at *
    simp only [List.length_cons]
    omega

section
variable {M : Md} {A D : Nat → Prop} {R : Nat → List Int} {B : Int} {G : Geo} {H : Hp}
/-- a thing's size -/
theorem Safe.cls (s : Safe B G H R M A D) {z : Nat} (hz : A z) : G.cls (M.cell z) = cln (M.len z) := by
  obtain ⟨k, h4, hk, hx⟩ := s.ring hz
  have := (s.inv.shp k _ h4 hk hx).2.2.1
  rw [(s.ct.mark z hz).2] at this
  exact this.symm
/-- between two cycles just the cells of the things of A are had -/
theorem Safe.free (s : Safe B G H R M A D) (hm : H.mrk = false) {c : Nat} (hc : c < 4) (L : List Nat) (hL : L.Nodup) (hA : ∀ i, i ∈ L ↔ A i) :
    H.fre.at_ c = G.n.at_ c - ((L.filter (fun i => cln (M.len i) == c)).length : Int) := by
  obtain ⟨hw, h12, -⟩ := s.inv.idle hm
  have hn := s.inv.count hc
  rw [hw (4 + c) (by omega) (by omega), h12, fl_nil] at hn
  have hf := s.inv.frec c hc
  have hlen : (R (8 + c)).length = (L.filter (fun i => cln (M.len i) == c)).length := by
    have e : (L.filter (fun i => cln (M.len i) == c)).length = ((L.filter (fun i => cln (M.len i) == c)).map M.cell).length := by simp
    rw [e]
    refine Nat.le_antisymm (nodup_le _ _ (s.inv.rg.nodup _ (by omega)) fun x hx => ?_) (nodup_le _ _ (List.pairwise_map.2 (List.Pairwise.imp_of_mem ?_ (List.Pairwise.filter _ hL))) fun x hx => ?_)
    · obtain ⟨z, hz, rfl⟩ := s.co.prec x ⟨8 + c, by omega, by omega, hx⟩
      have h1 := s.inv.cls (8 + c) _ (by omega) hx
      have h2 := s.cls hz
      refine List.mem_map.2 ⟨z, List.mem_filter.2 ⟨(hA z).2 hz, ?_⟩, rfl⟩
      simp
      omega
    · intro x y hx hy hne e
      have hx' := (hA x).1 (List.mem_filter.1 hx).1
      have hy' := (hA y).1 (List.mem_filter.1 hy).1
      exact hne (s.apart hx' hy' e)
    · obtain ⟨z, hz, rfl⟩ := List.mem_map.1 hx
      obtain ⟨hz1, hz2⟩ := List.mem_filter.1 hz
      have hzA := (hA z).1 hz1
      have hz2' : cln (M.len z) = c := by simpa using hz2
      obtain ⟨k, h4, hk, hx⟩ := s.ring hzA
      have h8 : 8 ≤ k := by
        by_cases h8 : 8 ≤ k
        · exact h8
        · rw [hw k h4 (by omega)] at hx
          simp at hx
      have h13 : k ≠ 12 := fun e => by
        rw [e, h12] at hx
        simp at hx
      have h1 := s.inv.cls k _ (by omega) hx
      have h2 := s.cls hzA
      have : k = 8 + c := by omega
      rw [← this]
      exact hx
  simp only [List.length_nil] at hn
  omega
end
end Go.Proofs.YtclcnepkgjcmcaaDoor

namespace Go.Proofs.YtclcnepkgjcmcaaDoor
open Go.RowKit

def Wh (R : Nat → List Int) : Nat := (R 4).length + (R 5).length + (R 6).length + (R 7).length
def Blk (R : Nat → List Int) : Nat := (R 8).length + (R 9).length + (R 10).length + (R 11).length
section
variable {B : Int} {G : Geo} {H : Hp} {R : Nat → List Int} {b v : Int}
theorem mvR_len (i : Inv B G H R) {h k : Nat} (hh : h < 13) (hb : b ∈ R h) (hne : h ≠ k) : (mvR R h k b h).length + 1 = (R h).length ∧ (mvR R h k b k).length = (R k).length + 1 ∧ ∀ j, j ≠ h → j ≠ k → (mvR R h k b j).length = (R j).length := by
  refine ⟨?_, ?_, fun j h1 h2 => by rw [mvR_far _ h1 h2]⟩
  · rw [mvR_from _ hne]
    exact length_filter_ne (i.rg.nodup h hh) hb
  · rw [mvR_to _ hne]
    rfl
/-- shading makes a white one grey -/
theorem shade_len (i : Inv B G H R) (h0 : 0 ≤ v) (h1 : v < 18446744073709551616) : Wh (H.shadeR G R v) + (H.shadeR G R v 12).length = Wh R + (R 12).length ∧ Blk (H.shadeR G R v) = Blk R := by
  obtain ⟨-, -, f3, -⟩ := shade_facts i h0 h1
  unfold Hp.shadeR
  split
  · next hs =>
    obtain ⟨-, hb, -⟩ := f3 hs
    generalize (G.plc v).1 = b at *
    have hc := G.cls_lt b
    obtain ⟨a1, a2, a3⟩ := mvR_len i (h := 4 + G.cls b) (k := 12) (by omega) hb (by omega)
    unfold Wh Blk
    rw [a3 8 (by omega) (by omega), a3 9 (by omega) (by omega), a3 10 (by omega) (by omega), a3 11 (by omega) (by omega), a2]
    refine ⟨?_, rfl⟩
    rcases lt4 hc with e | e | e | e
    · rw [e] at a1 a3 ⊢
      rw [a3 5 (by omega) (by omega), a3 6 (by omega) (by omega), a3 7 (by omega) (by omega)]
      have : (mvR R (4 + 0) 12 b 4).length + 1 = (R 4).length := a1
      omega
    · rw [e] at a1 a3 ⊢
      rw [a3 4 (by omega) (by omega), a3 6 (by omega) (by omega), a3 7 (by omega) (by omega)]
      have : (mvR R (4 + 1) 12 b 5).length + 1 = (R 5).length := a1
      omega
    · rw [e] at a1 a3 ⊢
      rw [a3 4 (by omega) (by omega), a3 5 (by omega) (by omega), a3 7 (by omega) (by omega)]
      have : (mvR R (4 + 2) 12 b 6).length + 1 = (R 6).length := a1
      omega
    · rw [e] at a1 a3 ⊢
      rw [a3 4 (by omega) (by omega), a3 5 (by omega) (by omega), a3 6 (by omega) (by omega)]
      have : (mvR R (4 + 3) 12 b 7).length + 1 = (R 7).length := a1
      omega
  · exact ⟨rfl, rfl⟩
/-- a task that is done is black -/
theorem finish_len (i : Inv B G H R) (hb : b ∈ R 12) : Wh (mvR R 12 (8 + G.cls b) b) = Wh R ∧ (mvR R 12 (8 + G.cls b) b 12).length + 1 = (R 12).length ∧ Blk (mvR R 12 (8 + G.cls b) b) = Blk R + 1 := by
  have hc := G.cls_lt b
  obtain ⟨a1, a2, a3⟩ := mvR_len i (h := 12) (k := 8 + G.cls b) (by omega) hb (by omega)
  unfold Wh Blk
  refine ⟨by rw [a3 4 (by omega) (by omega), a3 5 (by omega) (by omega), a3 6 (by omega) (by omega), a3 7 (by omega) (by omega)], a1, ?_⟩
  rcases lt4 hc with e | e | e | e
  · rw [e] at a2 a3 ⊢
    rw [a3 9 (by omega) (by omega), a3 10 (by omega) (by omega), a3 11 (by omega) (by omega)]
    have : (mvR R 12 (8 + 0) b 8).length = (R 8).length + 1 := a2
    omega
  · rw [e] at a2 a3 ⊢
    rw [a3 8 (by omega) (by omega), a3 10 (by omega) (by omega), a3 11 (by omega) (by omega)]
    have : (mvR R 12 (8 + 1) b 9).length = (R 9).length + 1 := a2
    omega
  · rw [e] at a2 a3 ⊢
    rw [a3 8 (by omega) (by omega), a3 9 (by omega) (by omega), a3 11 (by omega) (by omega)]
    have : (mvR R 12 (8 + 2) b 10).length = (R 10).length + 1 := a2
    omega
  · rw [e] at a2 a3 ⊢
    rw [a3 8 (by omega) (by omega), a3 9 (by omega) (by omega), a3 10 (by omega) (by omega)]
    have : (mvR R 12 (8 + 3) b 11).length = (R 11).length + 1 := a2
    omega
theorem shadeUp_len (i : Inv B G H R) (hb : b ∈ R 12) : ∀ n, Wh (H.shadeUpR G R b n) + (H.shadeUpR G R b n 12).length = Wh R + (R 12).length ∧ Blk (H.shadeUpR G R b n) = Blk R
  | 0 => ⟨rfl, rfl⟩
  | n + 1 => by
    obtain ⟨e1, e2⟩ := shadeUp_len i hb n
    obtain ⟨i1, -⟩ := inv_shadeUp i hb n
    have hr := i1.wrd (b + 3 + n)
    obtain ⟨f1, f2⟩ := shade_len i1 hr.1 hr.2
    rw [Hp.shadeUpR]
    exact ⟨f1.trans e1, f2.trans e2⟩
/-- a scan of a cell that isn't weak -/
theorem scan_len (i : Inv B G H R) (hb : b ∈ R 12) (hf : mform (gv H.ws b) ≠ 3) : Wh (H.scanR G R b) + (H.scanR G R b 12).length + 1 = Wh R + (R 12).length ∧ Blk (H.scanR G R b) = Blk R + 1 := by
  rw [Hp.scanR, if_neg hf]
  split
  · obtain ⟨e1, e2⟩ := shadeUp_len i hb (msize (gv H.ws b)).toNat
    obtain ⟨i1, -, hb1, -⟩ := inv_shadeUp i hb (msize (gv H.ws b)).toNat
    obtain ⟨g1, g2, g3⟩ := finish_len i1 hb1
    exact ⟨by omega, by omega⟩
  · obtain ⟨g1, g2, g3⟩ := finish_len i hb
    exact ⟨by omega, by omega⟩
end
section
variable {M : Md} {A D : Nat → Prop} {R : Nat → List Int} {B : Int} {G : Geo} {H : Hp}
/-- An increment of a cycle without weak things: the end, or one more is black. -/
theorem Safe.step (s : Safe B G H R M A D) (hm : H.mrk = true) (hw : ∀ i, A i → M.form i ≠ 3) : (R 12 = [] ∧ (H.inc G).mrk = false ∧ (H.inc G).cyc = H.cyc + 1) ∨
    (Wh (H.incR G R) + (H.incR G R 12).length + 1 = Wh R + (R 12).length ∧ Blk (H.incR G R) = Blk R + 1 ∧ (H.inc G).mrk = true) := by
  have i := s.inv
  rcases i.first with ⟨h12, hf⟩ | ⟨x, l, h12, hf, hne⟩
  · left
    have e1 : H.inc G = H.end_ := by rw [Hp.inc, hm, if_pos rfl, if_pos hf]
    obtain ⟨-, -, -, -, -, -, -, -, f5, -⟩ := ends_facts i 4 (by omega)
    refine ⟨h12, by rw [e1]; rfl, ?_⟩
    rw [e1]
    show H.cyc + 1 = H.cyc + 1
    rfl
  · right
    have hx : x ∈ R 12 := by rw [h12]; simp
    obtain ⟨z, hA, rfl⟩ := s.co.prec x ⟨12, by omega, by omega, hx⟩
    have hform := (s.ct.mark z hA).1
    have hz := hw z hA
    have ht : mtask (gv H.ws (M.cell z)) = 1 := by
      obtain ⟨-, ht | ht⟩ := i.mem12 hx
      · exact ht
      · have := (i.weak hx ht).1
        omega
    have e1 : H.inc G = H.scan G (M.cell z) (gv H.ws (M.cell z)) := by rw [Hp.inc, hm, if_pos rfl, hf, if_neg hne, if_pos ht]
    have e2 : H.incR G R = H.scanR G R (M.cell z) := by rw [Hp.incR, hm, if_pos rfl, hf, if_neg hne, if_pos ht]
    obtain ⟨a, b⟩ := scan_len i hx (by omega)
    rw [e1, e2]
    exact ⟨a, b, (safe_scan i s.ct s.co (s.snap hm) hm hA hx ht).2.2.2.1⟩
end
end Go.Proofs.YtclcnepkgjcmcaaDoor

namespace Go.Proofs.YtclcnepkgjcmcaaDoor
open Go.RowKit

section
variable {M : Md} {A D : Nat → Prop} {R : Nat → List Int} {B : Int} {G : Geo} {H : Hp} {z j : Nat}

/-- any word is written into a raw thing -/
theorem Safe.putRaw (s : Safe B G H R M A D) (hz : A z) (hj : j < M.len z) (h2 : M.form z = 2) {x : Int} (x0 : 0 ≤ x) (x1 : x < 18446744073709551616) :
    Safe B G { H with ws := sv H.ws (M.cell z + 3 + j) x } R (M.setFld z j (.w x)) A D := by
  have c := s.ct
  have hC := c.place z (c.sub z hz)
  have hdat := Geo.ok.field s.inv.ok hC (i := (j : Int)) (by omega) (by have := c.room z hz; omega)
  have hi := inv_data s.inv hdat x0 x1
  obtain ⟨a1, a2, a3⟩ := c.put s.inv.ok s.inv.len hz hj x
  have ne1 : ∀ i, M.form i = 1 → i ≠ z := fun i h e => by rw [e] at h; omega
  have ne3 : ∀ i, M.form i = 3 → i ≠ z := fun i h e => by rw [e] at h; omega
  have F : ∀ i k, i ≠ z → (M.setFld z j (.w x)).fld i k = M.fld i k := fun i k e => if_neg (fun h => e h.1)
  have W : ∀ i, A i → M.form i = 3 → gv (sv H.ws (M.cell z + 3 + j) x) (M.cell i + 3) = gv H.ws (M.cell i + 3) ∧ gv (sv H.ws (M.cell z + 3 + j) x) (M.cell i + 4) = gv H.ws (M.cell i + 4) := fun i ha h3 => by
    have hl := (c.kind i ha).2 h3
    have ne := ne3 i h3
    have y0 := a2 i ha 0 (by omega)
    have y1 := a2 i ha 1 (by omega)
    rw [if_neg (fun h => ne h.1)] at y0 y1
    rw [show M.cell i + 3 + ((0 : Nat) : Int) = M.cell i + 3 by omega] at y0
    rw [show M.cell i + 3 + ((1 : Nat) : Int) = M.cell i + 4 by omega] at y1
    exact ⟨y0, y1⟩
  refine ⟨hi, ⟨c.place, c.inj, c.sub, c.kind, fun i ha => ?_, c.room, fun i ha h3 k hk => ?_, fun i ha h3 => ?_, fun k hk => ?_, fun k k8 k12 => ?_, fun i ha h2 k hk => ?_, c.goodr, ⟨c.closed.reg, fun i ha h1 k hk => ?_, fun i ha h3 h0 => ?_⟩⟩,
    ⟨s.co.had, s.co.prec⟩, fun h => ?_, s.idle, fun h => ?_, fun h i ha h3 hb => ?_⟩
  · show mform (gv (sv _ _ _) (M.cell i)) = _ ∧ msize (gv (sv _ _ _) (M.cell i)) = _
    rw [a1 _ (c.place i (c.sub i ha))]
    exact c.mark i ha
  · show gv (sv _ _ _) (M.cell i + 3 + k) = V.wd M.cell (if i = z ∧ k = j then .w x else M.fld i k)
    rw [a2 i ha k hk]
    split
    · rfl
    · exact c.flds i ha h3 k hk
  · obtain ⟨y0, y1⟩ := W i ha h3
    show gv (sv _ _ _) (M.cell i + 3) = V.wd M.cell ((M.setFld z j (.w x)).fld i 0) ∧ gv (sv _ _ _) (M.cell i + 4) = V.wd M.cell ((M.setFld z j (.w x)).fld i 1) ∧ V.Has D ((M.setFld z j (.w x)).fld i 0) ∨
      gv (sv _ _ _) (M.cell i + 3) = 3 ∧ gv (sv _ _ _) (M.cell i + 4) = 3 ∧ ¬ V.Has A ((M.setFld z j (.w x)).fld i 0)
    rw [y0, y1, F i _ (ne3 i h3), F i _ (ne3 i h3)]
    exact c.weak i ha h3
  · show gv (sv _ _ _) (k : Int) = _
    rw [a3 k (by omega) (by omega)]
    exact c.regs k hk
  · show gv (sv _ _ _) k = 12
    rw [a3 k (by omega) (by omega)]
    exact c.rest k k8 k12
  · show V.ok ((M.setFld z j (.w x)).fld i k)
    rw [F i k (fun e => by rw [e] at h2; exact h2 (by show M.form z = 2; assumption))]
    exact c.goodf i ha h2 k hk
  · show V.Has A ((M.setFld z j (.w x)).fld i k)
    rw [F i k (ne1 i h1)]
    exact c.closed.plain i ha h1 k hk
  · have h0' : V.Has A ((M.setFld z j (.w x)).fld i 0) := h0
    show V.Has A ((M.setFld z j (.w x)).fld i 1)
    rw [F i _ (ne3 i h3)] at h0' ⊢
    exact c.closed.weak i ha h3 h0'
  · intro C c1 c2 c3 c4
    refine s.snap h C c1 c2 (fun i hc hk h1 k hkl => ?_) (fun i hc hk h3 h0 => ?_)
    · have := c3 i hc hk h1 k hkl
      rw [F i _ (ne1 i h1)] at this
      exact this
    · have := c4 i hc hk h3 (by rw [F i _ (ne3 i h3)]; exact h0)
      rw [F i _ (ne3 i h3)] at this
      exact this
  · have w := s.mw h
    by_cases h12 : M.cell z ∈ R 12
    · refine Mw.zero ?_
      show H.mis = 0
      obtain ⟨-, ht | ht⟩ := s.inv.mem12 h12
      · exact w.grey _ h12 ht
      · have := (s.inv.weak h12 ht).1
        have := (c.mark z hz).1
        omega
    · refine w.keep s.inv rfl rfl rfl rfl (fun y hy _ => a1 y hy) (fun x' hx => ?_)
      obtain ⟨y, ya, rfl⟩ := s.co.prec x' ⟨12, by omega, by omega, hx⟩
      have hyz : y ≠ z := fun e => h12 (by rw [← e]; exact hx)
      have hCy := c.place y (c.sub y ya)
      have hin : inside H.ws.length (M.cell z + 3 + j) = true := by
        have := Geo.extent s.inv.ok hC
        have := c.room z hz
        have := s.inv.len
        exact inside_mk (by omega) (by omega)
      have hne : M.cell y ≠ M.cell z := fun h => hyz (c.inj y z (c.sub y ya) (c.sub z hz) h)
      show gv (sv _ _ _) (M.cell y + 3) = _
      rw [gv_sv _ _ hin, if_neg (by
        have := Geo.far s.inv.ok hCy hC hne
        have := ln_lo (G.cls (M.cell y))
        have := c.room z hz
        omega)]
  · obtain ⟨y0, y1⟩ := W i ha h3
    show V.Has A ((M.setFld z j (.w x)).fld i 0) ∨ gv (sv _ _ _) (M.cell i + 3) = 3 ∧ gv (sv _ _ _) (M.cell i + 4) = 3
    rw [y0, y1, F i _ (ne3 i h3)]
    exact s.kw h i ha h3 hb

/-- a raw thing's field is set -/
theorem Safe.setRaw (s : Safe B G H R M A D) (hz : A z) (hj : j < M.len z) (h2 : M.form z = 2) {x : Int} (x0 : 0 ≤ x) (x1 : x < 18446744073709551616) :
    Safe B G (H.setF G (M.cell z) j x) (H.setFR G R (M.cell z) j x) (M.setFld z j (.w x)) A D ∧ H.setF G (M.cell z) j x = { H with ws := sv H.ws (M.cell z + 3 + j) x } := by
  have em := (s.ct.mark z hz).1
  have e1 : H.setF G (M.cell z) j x = { H with ws := sv H.ws (M.cell z + 3 + j) x } := by
    unfold Hp.setF Hp.guard
    rw [if_neg (by omega), if_neg (by omega)]
  have e2 : H.setFR G R (M.cell z) j x = R := by
    unfold Hp.setFR Hp.guardR
    rw [if_neg (by omega), if_neg (by omega)]
  rw [e1, e2]
  exact ⟨s.putRaw hz hj h2 x0 x1, rfl⟩

theorem regs_fre (i : Inv B G H R) : ∀ n, (H.shadeRegs G n).fre = H.fre
  | 0 => rfl
  | n + 1 => by
    obtain ⟨i1, -⟩ := inv_regs i n
    have hr := i1.wrd n
    obtain ⟨-, -, -, -, -, -, -, -, f9⟩ := shade_facts i1 hr.1 hr.2
    exact f9.trans (regs_fre i n)
theorem scan_fre (i : Inv B G H R) {b : Int} (hb : b ∈ R 12) : (H.scan G b (gv H.ws b)).fre = H.fre := by
  obtain ⟨-, -, -, -, -, -, -, r4⟩ := inv_shadeUp i hb (msize (gv H.ws b)).toNat
  unfold Hp.scan
  split
  · rfl
  · split
    · exact r4
    · split <;> rfl
/-- what an increment leaves, where no thing is weak: fields, registers, shapes; and no fewer cells are free -/
theorem Safe.inc_soft (s : Safe B G H R M A D) (hw : ∀ i, A i → M.form i ≠ 3) (hB : B + 1 ≤ 1000000000) : Dat G H.ws (H.inc G).ws ∧ ∀ c, c < 4 → H.fre.at_ c ≤ (H.inc G).fre.at_ c := by
  have i := s.inv
  cases hm : H.mrk
  · obtain ⟨i0, d0, -⟩ := inv_flip0 i hm
    obtain ⟨-, d1⟩ := inv_regs i0 12
    have e1 : H.inc G = H.flip G := by rw [Hp.inc, hm]; rfl
    rw [e1]
    refine ⟨d0.trans d1, fun c hc => ?_⟩
    have h1 := regs_fre i0 12
    obtain ⟨-, -, -, -, h2, -⟩ := flips_facts i 4 (by omega)
    show _ ≤ (Hp.shadeRegs G { H.flips G 4 with mrk := true } 12).fre.at_ c
    rw [h1]
    show _ ≤ (H.flips G 4).fre.at_ c
    rw [h2]
    omega
  · rcases i.first with ⟨h12, hf⟩ | ⟨x, l, h12, hf, hne⟩
    · have e1 : H.inc G = H.end_ := by rw [Hp.inc, hm, if_pos rfl, if_pos hf]
      rw [e1]
      refine ⟨(inv_end i hm h12 hB).2.1, fun c hc => ?_⟩
      obtain ⟨-, -, -, f4, -⟩ := ends_facts i 4 (by omega)
      have := f4 c hc
      rw [if_pos hc] at this
      have w0 := i.whic hm c hc
      show _ ≤ (H.ends 4).fre.at_ c
      omega
    · have hx : x ∈ R 12 := by rw [h12]; simp
      obtain ⟨z, hA, rfl⟩ := s.co.prec x ⟨12, by omega, by omega, hx⟩
      have hform := (s.ct.mark z hA).1
      have hz := hw z hA
      have ht : mtask (gv H.ws (M.cell z)) = 1 := by
        obtain ⟨-, ht | ht⟩ := i.mem12 hx
        · exact ht
        · have := (i.weak hx ht).1
          omega
      have e1 : H.inc G = H.scan G (M.cell z) (gv H.ws (M.cell z)) := by rw [Hp.inc, hm, if_pos rfl, hf, if_neg hne, if_pos ht]
      rw [e1]
      exact ⟨(inv_scan i hx ht).2, fun c hc => by rw [scan_fre i hx]; omega⟩
theorem Safe.incs_soft (s : Safe B G H R M A D) (hw : ∀ i, A i → M.form i ≠ 3) : ∀ n : Nat, B + n ≤ 1000000000 → ∃ A' D', Safe (B + n) G (H.incs G n) (H.incsR G R n) M A' D' ∧ (∀ i, A' i → A i) ∧ (∀ i, D' i → D i) ∧
    Dat G H.ws (H.incs G n).ws ∧ ∀ c, c < 4 → H.fre.at_ c ≤ (H.incs G n).fre.at_ c
  | 0, _ => ⟨A, D, by rw [show B + ((0 : Nat) : Int) = B by omega]; exact s, fun _ h => h, fun _ h => h, Dat.refl _ _, fun _ _ => Int.le_refl _⟩
  | n + 1, hn => by
    obtain ⟨A1, D1, s1, h1, k1, d1, f1⟩ := Safe.incs_soft s hw n (by omega)
    obtain ⟨A2, D2, s2, m1, m2⟩ := safe_inc s1 (by omega)
    obtain ⟨d2, f2⟩ := s1.inc_soft (fun i hi => hw i (h1 i hi)) (by omega)
    have hAD : (∀ i, A2 i → A1 i) ∧ (∀ i, D2 i → D1 i) := by
      cases hm : (H.incs G n).mrk
      · obtain ⟨e1, e2, -⟩ := m2 hm
        rw [e1, e2]
        exact ⟨fun i hi => s1.reach hi, fun _ h => h⟩
      · obtain ⟨e1, ⟨-, e2⟩ | ⟨-, e2⟩⟩ := m1 hm
        · rw [e1, e2]
          exact ⟨fun _ h => h, fun _ h => h⟩
        · rw [e1, e2]
          exact ⟨fun _ h => h, s1.ct.sub⟩
    exact ⟨A2, D2, by rw [show B + ((n + 1 : Nat) : Int) = B + n + 1 by omega]; exact s2, fun i hi => h1 i (hAD.1 i hi), fun i hi => k1 i (hAD.2 i hi), d1.trans d2, fun c hc => by
      have := f1 c hc
      have := f2 c hc
      show _ ≤ ((H.incs G n).inc G).fre.at_ c
      omega⟩
end
end Go.Proofs.YtclcnepkgjcmcaaDoor
