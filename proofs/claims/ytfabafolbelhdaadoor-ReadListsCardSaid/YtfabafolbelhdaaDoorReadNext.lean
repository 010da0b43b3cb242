/- What the reader of package read gives as its next token. -/
import Derived.Test.YtfabafolbelhdaaDoorLexAllB
import Derived.Test.YtfabafolbelhdaaDoorReadMathB
import Derived.BigQuiet
import Derived.Deep.RegionHeld3
import Derived.Deep.CutRange
import Derived.Deep.QuietTactic
namespace Go.Proofs.YtfabafolbelhdaaDoor
open Go.ChangeShapes Go.WideShapes Go.ChangeAt Go.RowKit

/-- the reader lies in block r: its text, its place, how many tokens it met -/
def Rd (w : World) (r : Nat) (s : ByteArray) (a : Nat) (i j : Int) (m : Nat) : Prop := Lies w r 50 [.string s, .int .i64 (a : Nat), .int .i64 i, .int .i64 j, .int .i64 (m : Nat)]
/-- a place that may be one -/
def Pl (s : ByteArray) (a : Nat) (i j : Int) (m : Nat) : Prop := s.size ≤ 400000 ∧ a ≤ s.size ∧ 1 ≤ i ∧ i ≤ 500000000 + a ∧ 1 ≤ j ∧ j ≤ 500000000 + a ∧ m ≤ a
/-- what the plain reader has there -/
def stt (s : ByteArray) (a : Nat) (i j : Int) (m : Nat) : RM.St := ⟨s.data.toList.drop a, i, j, m⟩
def tka6 (X : LM.Nx) (n : Nat) : Value := .agg #[.int .i64 X.t.k, .int .i64 X.t.n, .string ⟨X.t.s.toArray⟩, .int .i64 X.line, .int .i64 X.col, .int .i64 (n : Nat)]
def tk0 : Value := .agg #[.int .i64 0, .int .i64 0, .string ⟨#[]⟩, .int .i64 0, .int .i64 0, .int .i64 0]
def erv (X : LM.Nx) : Value := .iface 58 (.agg #[.int .i64 X.line, .int .i64 X.col, .iface 48 (.int .i64 X.t.e)])

theorem stt_nx (s : ByteArray) (a : Nat) (i j : Int) (m : Nat) : (stt s a i j m).nx = LM.nx (s.data.toList.drop a) i j := rfl
theorem stt_after (s : ByteArray) (a : Nat) (i j : Int) (m : Nat) : (stt s a i j m).after = stt s (a + (LM.nx (s.data.toList.drop a) i j).len) (LM.mv (seg s a (LM.nx (s.data.toList.drop a) i j).len) i j).1 (LM.mv (seg s a (LM.nx (s.data.toList.drop a) i j).len) i j).2 (m + 1) := by
  unfold RM.St.after stt
  simp only
  rw [List.drop_drop]
  rfl

/-- six cells of a block are stored anew -/
def six (w : World) (g : Nat) (x0 x1 x2 x3 x4 x5 : Value) : World := (((((w.setCell ⟨g, 0, none⟩ x0).setCell ⟨g, 1, none⟩ x1).setCell ⟨g, 2, none⟩ x2).setCell ⟨g, 3, none⟩ x3).setCell ⟨g, 4, none⟩ x4).setCell ⟨g, 5, none⟩ x5
section
variable {w a : World} {g h B : Nat} {t : TypeId} {cs : List Value} {X : Nat → Prop}
theorem six_far (hL : Lies w h t cs) (hne : h ≠ g) (x0 x1 x2 x3 x4 x5 : Value) : Lies (six w g x0 x1 x2 x3 x4 x5) h t cs :=
  (((((hL.far (p := ⟨g, 0, none⟩) hne _).far (p := ⟨g, 1, none⟩) hne _).far (p := ⟨g, 2, none⟩) hne _).far (p := ⟨g, 3, none⟩) hne _).far (p := ⟨g, 4, none⟩) hne _).far (p := ⟨g, 5, none⟩) hne _
theorem six_lies {y0 y1 y2 y3 y4 y5 : Value} (hL : Lies w g t [y0, y1, y2, y3, y4, y5]) (x0 x1 x2 x3 x4 x5 : Value) : Lies (six w g x0 x1 x2 x3 x4 x5) g t [x0, x1, x2, x3, x4, x5] :=
  (((((hL.stored 0 x0).stored 1 x1).stored 2 x2).stored 3 x3).stored 4 x4).stored 5 x5
theorem six_below (h : Below B a w) (hg : B ≤ g) (x0 x1 x2 x3 x4 x5 : Value) : Below B a (six w g x0 x1 x2 x3 x4 x5) :=
  (((((h.setCell (p := ⟨g, 0, none⟩) hg _).setCell (p := ⟨g, 1, none⟩) hg _).setCell (p := ⟨g, 2, none⟩) hg _).setCell (p := ⟨g, 3, none⟩) hg _).setCell (p := ⟨g, 4, none⟩) hg _).setCell (p := ⟨g, 5, none⟩) hg _
theorem six_turns (h : Turns X a w) (hg : a.heap.size ≤ g) (x0 x1 x2 x3 x4 x5 : Value) : Turns X a (six w g x0 x1 x2 x3 x4 x5) :=
  have no : ∀ o, (⟨g, o, none⟩ : Addr).block < a.heap.size → X g := fun o hh => absurd hh (by simp; omega)
  (((((h.setCell (p := ⟨g, 0, none⟩) (no 0) _).setCell (p := ⟨g, 1, none⟩) (no 1) _).setCell (p := ⟨g, 2, none⟩) (no 2) _).setCell (p := ⟨g, 3, none⟩) (no 3) _).setCell (p := ⟨g, 4, none⟩) (no 4) _).setCell (p := ⟨g, 5, none⟩) (no 5) _
theorem Rd.four {w : World} {r : Nat} {s : ByteArray} {a : Nat} {i j : Int} {m : Nat} (h : Rd w r s a i j m) : w.cell? ⟨r, 0, none⟩ = some (.string s) ∧ w.cell? ⟨r, 1, none⟩ = some (.int .i64 (a : Nat)) ∧ w.cell? ⟨r, 2, none⟩ = some (.int .i64 i) ∧ w.cell? ⟨r, 3, none⟩ = some (.int .i64 j) := ⟨Lies.cell h 0, Lies.cell h 1, Lies.cell h 2, Lies.cell h 3⟩
end

set_option maxRecDepth 100000 in
set_option maxHeartbeats 4000000 in
theorem rnext_bad (w : World) (r : Nat) (s : ByteArray) (a : Nat) (i j : Int) (m : Nat) (hR : Rd w r s a i j m) (hp : Pl s a i j m) (he : (LM.nx (s.data.toList.drop a) i j).t.e ≠ 0) :
    Calls Tryd.prog 16 #[.pointer (some ⟨r, 0, none⟩)] w fun e w' => e = .returned (.tuple #[tk0, erv (LM.nx (s.data.toList.drop a) i j)]) ∧ Went w w' := by
  obtain ⟨hs, ha, i0, i1, j0, j1, hm⟩ := hp
  have hN := Next_any s (by omega) a ha i j ⟨i0, by omega⟩ ⟨j0, by omega⟩
  rw [nxv_no he] at hN
  unfold erv tk0
  generalize LM.nx (s.data.toList.drop a) i j = X at *
  have hN' := Lib.hid hN
  have hr := hR.lt
  have k0 : w.cell? ⟨r, 0, none⟩ = some (.string s) := Lies.cell hR 0
  have k1 : w.cell? ⟨r, 1, none⟩ = some (.int .i64 (a : Nat)) := Lies.cell hR 1
  have k2 : w.cell? ⟨r, 2, none⟩ = some (.int .i64 i) := Lies.cell hR 2
  have k3 : w.cell? ⟨r, 3, none⟩ = some (.int .i64 j) := Lies.cell hR 3
  have he' := Lib.hid he
  clear hN he
  go_enter Tryd.func16, Tryd.ntmps16
  go_upto_region 1 with (fail)
  go_cut [4, 5] from 6 to 25 (fun t4 t5 wc => ∃ g, w.heap.size < g ∧ t4 = .pointer (some ⟨g, 0, none⟩) ∧ t5 = .iface 58 (.agg #[.int .i64 X.line, .int .i64 X.col, .iface 48 (.int .i64 X.t.e)]) ∧ Lies wc g 44 [.int .i64 0, .int .i64 0, .string ⟨#[]⟩, .int .i64 0, .int .i64 0, .int .i64 0] ∧ Lies wc w.heap.size 44 zero6 ∧ Rd wc r s a i j m ∧ Below w.heap.size w wc)
  case first =>
    go_region_held3 (fun w' => w'.cell? ⟨r, 0, none⟩ = some (.string s) ∧ w'.cell? ⟨r, 1, none⟩ = some (.int .i64 (a : Nat)) ∧ w'.cell? ⟨r, 2, none⟩ = some (.int .i64 i) ∧ w'.cell? ⟨r, 3, none⟩ = some (.int .i64 j)) (first | go_keep | with_reducible exact kx | with_reducible exact kz)
      (first
        | (go_at_call 21
           refine (hN'.out _).mono ?_
           rintro e w1 ⟨rfl, hb1⟩
           have hT1 : Lies w1 (w.heap.size + 1) 44 zero6 := (lies_made2 w _ 44 zero6.toArray).drew.below hb1 (by simp)
           have hR1 : Rd w1 r s a i j m := Lies.below (Lies.drew (Lies.alloc (Lies.alloc hR _) _)) hb1 (by simp; omega)
           have kx := hR1.four
           have hL1 : Lies w1 w.heap.size 44 zero6 := ((Lies.made w 44 zero6.toArray).alloc _).drew.below hb1 (by simp; omega)
           have hb2 : Below w.heap.size w w1 := below_new2 hb1
           have q0 : w1.cell? ⟨w.heap.size + 1, 0, none⟩ = some (.int .i64 0) := hT1.cell 0
           have q1 : w1.cell? ⟨w.heap.size + 1, 1, none⟩ = some (.int .i64 0) := hT1.cell 1
           have q2 : w1.cell? ⟨w.heap.size + 1, 2, none⟩ = some (.string ⟨#[]⟩) := hT1.cell 2
           have q3 : w1.cell? ⟨w.heap.size + 1, 3, none⟩ = some (.int .i64 0) := hT1.cell 3
           have q4 : w1.cell? ⟨w.heap.size + 1, 4, none⟩ = some (.int .i64 0) := hT1.cell 4
           have q5 : w1.cell? ⟨w.heap.size + 1, 5, none⟩ = some (.int .i64 0) := hT1.cell 5
           have f0 := hT1.free
           have hz := hT1.lt
           have kz := Rd.four (six_far hR1 (g := w.heap.size + 1) (by omega) (.int .i64 0) (.int .i64 0) (.string ⟨#[]⟩) (.int .i64 0) (.int .i64 0) (.int .i64 0))
           unfold six at kz
           have hcut : ∃ g, w.heap.size < g ∧ g = w.heap.size + 1 ∧ Lies (six w1 g (.int .i64 0) (.int .i64 0) (.string ⟨#[]⟩) (.int .i64 0) (.int .i64 0) (.int .i64 0)) g 44 [.int .i64 0, .int .i64 0, .string ⟨#[]⟩, .int .i64 0, .int .i64 0, .int .i64 0] ∧ Lies (six w1 g (.int .i64 0) (.int .i64 0) (.string ⟨#[]⟩) (.int .i64 0) (.int .i64 0) (.int .i64 0)) w.heap.size 44 zero6 ∧ Rd (six w1 g (.int .i64 0) (.int .i64 0) (.string ⟨#[]⟩) (.int .i64 0) (.int .i64 0) (.int .i64 0)) r s a i j m ∧ Below w.heap.size w (six w1 g (.int .i64 0) (.int .i64 0) (.string ⟨#[]⟩) (.int .i64 0) (.int .i64 0) (.int .i64 0)) :=
             ⟨_, by omega, rfl, six_lies hT1 _ _ _ _ _ _, six_far hL1 (by omega) _ _ _ _ _ _, six_far hR1 (by omega) _ _ _ _ _ _, six_below hb2 (by omega) _ _ _ _ _ _⟩
           clear hb1)
        | (go_at_call 21
           refine (hN'.out _).mono ?_
           rintro e w1 ⟨rfl, hb1⟩
           have hR1 : Rd w1 r s a i j m := Lies.below (Lies.drew (Lies.alloc hR _)) hb1 (by simp; omega)
           have kx := hR1.four
           have hL1 : Lies w1 w.heap.size 44 zero6 := (Lies.made w 44 zero6.toArray).drew.below hb1 (by simp)
           have hb2 : Below w.heap.size w w1 := ((Below.refl _ w).alloc (Nat.le_refl _) _).trans (below_of_drew (hb1.mono (by simp)))
           have hz := hL1.lt
           have hcut : ∃ g, w.heap.size < g ∧ g = w1.heap.size ∧ Lies (w1.alloc (.cells #[.int .i64 0, .int .i64 0, .string ⟨#[]⟩, .int .i64 0, .int .i64 0, .int .i64 0] 44)) g 44 [.int .i64 0, .int .i64 0, .string ⟨#[]⟩, .int .i64 0, .int .i64 0, .int .i64 0] ∧ Lies (w1.alloc (.cells #[.int .i64 0, .int .i64 0, .string ⟨#[]⟩, .int .i64 0, .int .i64 0, .int .i64 0] 44)) w.heap.size 44 zero6 ∧ Rd (w1.alloc (.cells #[.int .i64 0, .int .i64 0, .string ⟨#[]⟩, .int .i64 0, .int .i64 0, .int .i64 0] 44)) r s a i j m ∧ Below w.heap.size w (w1.alloc (.cells #[.int .i64 0, .int .i64 0, .string ⟨#[]⟩, .int .i64 0, .int .i64 0, .int .i64 0] 44)) :=
             ⟨_, by omega, rfl, Lies.made w1 44 #[.int .i64 0, .int .i64 0, .string ⟨#[]⟩, .int .i64 0, .int .i64 0, .int .i64 0], hL1.alloc _, Lies.alloc hR1 _, hb2.alloc (by omega) _⟩
           clear hb1))
    all_goals
      go_wp2_with fail
      go_meet
      case rel =>
        obtain ⟨g, hg1, hg2, hg3, hg4, hg5, hg6⟩ := hcut
        subst hg2
        exact ⟨_, hg1, rfl, rfl, hg3, hg4, hg5, hg6⟩
  case rest =>
    obtain ⟨g, hg, rfl, rfl, -, hL, -, hb⟩ := hcut
    have y0 : wc.cell? ⟨w.heap.size, 0, none⟩ = some (.int .i64 0) := hL.cell 0
    have y1 : wc.cell? ⟨w.heap.size, 1, none⟩ = some (.int .i64 0) := hL.cell 1
    have y2 : wc.cell? ⟨w.heap.size, 2, none⟩ = some (.string ⟨#[]⟩) := hL.cell 2
    have y3 : wc.cell? ⟨w.heap.size, 3, none⟩ = some (.int .i64 0) := hL.cell 3
    have y4 : wc.cell? ⟨w.heap.size, 4, none⟩ = some (.int .i64 0) := hL.cell 4
    have y5 : wc.cell? ⟨w.heap.size, 5, none⟩ = some (.int .i64 0) := hL.cell 5
    have f0 := hL.free
    go_wp2_with fail
    have hF := six_lies hL (.int .i64 0) (.int .i64 0) (.string ⟨#[]⟩) (.int .i64 0) (.int .i64 0) (.int .i64 0)
    unfold six at hF
    exact bodyPost_ret (v := .tuple #[.agg #[.int .i64 0, .int .i64 0, .string ⟨#[]⟩, .int .i64 0, .int .i64 0, .int .i64 0], .iface 58 (.agg #[.int .i64 X.line, .int .i64 X.col, .iface 48 (.int .i64 X.t.e)])])
      (by simp [results, Tryd.results16, go_sem, y0, y1, y2, y3, y4, y5]) rfl ⟨rfl, six_below hb (Nat.le_refl _) _ _ _ _ _ _⟩
end Go.Proofs.YtfabafolbelhdaaDoor
