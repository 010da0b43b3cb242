/- Safety: what a program does with its registers and its fields. Plain mathematics. -/
import Derived.Test.YtagedholocgahaaGreatDoorTSafeD
namespace Go.Proofs.YtagedholocgahaaGreatDoor
open Go.RowKit

def Md.setReg (M : Md) (r : Nat) (v : V) : Md := { M with reg := fun k => if k = r then v else M.reg k }
def Md.setFld (M : Md) (z j : Nat) (v : V) : Md := { M with fld := fun i k => if i = z ∧ k = j then v else M.fld i k }

section
variable {M : Md} {A D : Nat → Prop} {R R' : Nat → List Int} {B : Int} {G : Geo} {H H' : Hp} {ws : List Int} {z j : Nat}

theorem Mw.keep (w : Mw G H R) (i : Inv B G H R) (e12 : R' 12 = R 12) (e1 : H'.mrk = H.mrk) (e2 : H'.cyc = H.cyc) (e3 : H'.mis = H.mis) (hm : ∀ y, G.C y → Hd R y → gv H'.ws y = gv H.ws y) (hd' : ∀ x, x ∈ R 12 → gv H'.ws (x + 3) = gv H.ws (x + 3)) : Mw G H' R' := by
  refine ⟨fun x hx h => ?_, fun l1 l2 e hle x hx => ?_⟩
  · rw [e12] at hx
    rw [hm x (i.rg.place 12 (by omega) x hx) ⟨12, by omega, by omega, hx⟩] at h
    rw [e3]
    exact w.grey x hx h
  · rw [e12] at e
    rw [e3] at hle
    have hx12 : x ∈ R 12 := by rw [e]; simp [hx]
    rw [hd' x hx12]
    have hwr := i.wrd (x + 3)
    refine namesWhite_keep (H := H) i.ok hwr.1 hwr.2 e1 e2 (fun y hy hw => hm y hy ?_) (w.lost l1 l2 e hle x hx)
    have := G.cls_lt y
    exact ⟨_, by omega, by omega, (i.white_at hy hw).2⟩
theorem Mw.shade (w : Mw G H R) (i : Inv B G H R) {v : Int} (v0 : 0 ≤ v) (v1 : v < 18446744073709551616) : Mw G (H.shade G v) (H.shadeR G R v) := by
  obtain ⟨-, -, -, ⟨-, g4⟩, g5, -, -, g8, -⟩ := shade_facts i v0 v1
  by_cases hs : H.shaded G v = true
  · exact Mw.zero (by rw [g8, if_pos hs])
  · obtain ⟨e1, e2⟩ := g4 (by simpa using hs)
    rw [e1, e2]
    exact w

/-- shading what may be reached keeps all -/
theorem Safe.shade (s : Safe B G H R M A D) {v : V} (hv : v.ok) (hA : v.Has A) : Safe B G (H.shade G (v.wd M.cell)) (H.shadeR G R (v.wd M.cell)) M A D ∧ (H.shade G (v.wd M.cell)).mrk = H.mrk ∧
    (∀ x, Nw R x → Nw (H.shadeR G R (v.wd M.cell)) x) ∧ (∀ x, Bk (H.shadeR G R (v.wd M.cell)) x ↔ Bk R x) ∧ (H.mrk = true → ∀ t, v = .t t → Nw (H.shadeR G R (v.wd M.cell)) (M.cell t)) ∧ Dat G H.ws (H.shade G (v.wd M.cell)).ws := by
  obtain ⟨a1, a2, a3, a4, a5⟩ := safe_shade s.inv s.ct s.co hv hA
  obtain ⟨v0, v1, -⟩ := s.ct.wd s.inv.ok hv (V.Has.mono s.ct.sub hA)
  obtain ⟨i1, d1, -⟩ := inv_shade s.inv v0 v1
  obtain ⟨-, -, -, -, g5, -⟩ := shade_facts s.inv v0 v1
  refine ⟨⟨i1, a1, a2, fun h => ?_, fun h => ?_, fun h => ?_, fun h => ?_⟩, g5, a3, a4, a5, d1⟩
  · rw [g5] at h
    exact (s.snap h).more (fun t _ => a3 _) (fun t _ => (a4 _).1)
  · rw [g5] at h
    exact s.idle h
  · rw [g5] at h
    exact (s.mw h).shade s.inv v0 v1
  · rw [g5] at h
    exact (s.kw h).dat s.ct s.inv.ok d1 fun t _ _ => (a4 _).1

/-- a register is set -/
theorem Safe.setRoot (s : Safe B G H R M A D) {r : Nat} (hr : r < 8) {v : V} (hv : v.ok) (hA : v.Has A) : Safe B G (H.setRoot G r (v.wd M.cell)) (H.shadeR G R (v.wd M.cell)) (M.setReg r v) A D := by
  obtain ⟨s1, -⟩ := s.shade hv hA
  obtain ⟨v0, v1, -⟩ := s.ct.wd s.inv.ok hv (V.Has.mono s.ct.sub hA)
  have hi := inv_setRoot s.inv (j := (r : Int)) (by omega) (by omega) v0 v1
  have hl := s1.inv.len
  have hln := s.inv.ok.lines
  have hin : inside (H.shade G (v.wd M.cell)).ws.length (r : Int) = true := inside_mk (by omega) (by omega)
  have E := fun y => gv_sv (v.wd M.cell) y hin
  have far : ∀ y : Int, 12 ≤ y → gv (sv (H.shade G (v.wd M.cell)).ws (r : Int) (v.wd M.cell)) y = gv (H.shade G (v.wd M.cell)).ws y := fun y hy => by rw [E, if_neg (by omega)]
  have hC : ∀ i, A i → 51 ≤ M.cell i := fun i ha => (Geo.extent s.inv.ok (s.ct.place i (s.ct.sub i ha))).1
  have c := s1.ct
  refine ⟨hi, ⟨c.place, c.inj, c.sub, c.kind, fun i ha => ?_, c.room, fun i ha hf k hk => ?_, fun i ha hf => ?_, fun k hk => ?_, fun k k8 k12 => ?_, c.goodf, fun k hk => ?_, ⟨fun k hk => ?_, c.closed.plain, c.closed.weak⟩⟩, ⟨s1.co.had, s1.co.prec⟩, s1.snap, s1.idle, fun h => ?_, fun h i ha hf hb => ?_⟩
  · show mform (gv (sv _ _ _) (M.cell i)) = _ ∧ msize (gv (sv _ _ _) (M.cell i)) = _
    rw [far _ (by have := hC i ha; omega)]
    exact c.mark i ha
  · show gv (sv _ _ _) (M.cell i + 3 + k) = _
    rw [far _ (by have := hC i ha; omega)]
    exact c.flds i ha hf k hk
  · show gv (sv _ _ _) (M.cell i + 3) = _ ∧ gv (sv _ _ _) (M.cell i + 4) = _ ∧ _ ∨ gv (sv _ _ _) (M.cell i + 3) = _ ∧ gv (sv _ _ _) (M.cell i + 4) = _ ∧ _
    rw [far _ (by have := hC i ha; omega), far _ (by have := hC i ha; omega)]
    exact c.weak i ha hf
  · show gv (sv _ _ _) (k : Int) = V.wd M.cell (if k = r then v else M.reg k)
    rw [E]
    by_cases e : k = r
    · rw [if_pos (by omega), if_pos e]
    · rw [if_neg (by omega), if_neg e]
      exact c.regs k hk
  · show gv (sv _ _ _) k = 12
    rw [E, if_neg (by omega)]
    exact c.rest k k8 k12
  · show V.ok (if k = r then v else M.reg k)
    split
    · exact hv
    · exact c.goodr k hk
  · show V.Has A (if k = r then v else M.reg k)
    split
    · exact hA
    · exact c.closed.reg k hk
  · have hx51 : ∀ x, x ∈ H.shadeR G R (v.wd M.cell) 12 → 51 ≤ x := fun x hx => (Geo.extent s.inv.ok (s1.inv.rg.place 12 (by omega) x hx)).1
    exact (s1.mw h).keep s1.inv rfl rfl rfl rfl (fun y hy _ => far y (by have := (Geo.extent s.inv.ok hy).1; omega)) (fun x hx => far _ (by have := hx51 x hx; omega))
  · have := s1.kw h i ha hf hb
    show (M.fld i 0).Has A ∨ gv (sv _ _ _) (M.cell i + 3) = 3 ∧ gv (sv _ _ _) (M.cell i + 4) = 3
    rw [far _ (by have := hC i ha; omega), far _ (by have := hC i ha; omega)]
    exact this
end
end Go.Proofs.YtagedholocgahaaGreatDoor
