/- What the reader of package read gives as its next token. -/
import Derived.Test.YtbomodendobnkaaGreatQ36
import Derived.Test.YtbomodendobnkaaGreatQ37
import Derived.BigQuiet
import Derived.Deep.RegionHeld3
import Derived.Deep.CutRange
import Derived.Deep.QuietTactic
namespace Go.Proofs.YtbomodendobnkaaGreat
open Go.ChangeShapes Go.WideShapes Go.ChangeAt Go.RowKit

/-- the reader lies in block r: its text, its place, how many tokens it met -/
def Rd (w : World) (r : Nat) (s : ByteArray) (a : Nat) (i j : Int) (m : Nat) : Prop := Lies w r 101 [.string s, .int .i64 (a : Nat), .int .i64 i, .int .i64 j, .int .i64 (m : Nat)]
/-- a place that may be one -/
def Pl (s : ByteArray) (a : Nat) (i j : Int) (m : Nat) : Prop := s.size ≤ 400000 ∧ a ≤ s.size ∧ 1 ≤ i ∧ i ≤ 500000000 + a ∧ 1 ≤ j ∧ j ≤ 500000000 + a ∧ m ≤ a
/-- what the plain reader has there -/
def stt (s : ByteArray) (a : Nat) (i j : Int) (m : Nat) : RM.St := ⟨s.data.toList.drop a, i, j, m⟩
def tka6 (X : LM.Nx) (n : Nat) : Value := .agg #[.int .i64 X.t.k, .int .i64 X.t.n, .string ⟨X.t.s.toArray⟩, .int .i64 X.line, .int .i64 X.col, .int .i64 (n : Nat)]
def tk0 : Value := .agg #[.int .i64 0, .int .i64 0, .string ⟨#[]⟩, .int .i64 0, .int .i64 0, .int .i64 0]
def erv (X : LM.Nx) : Value := .iface 157 (.agg #[.int .i64 X.line, .int .i64 X.col, .iface 47 (.int .i64 X.t.e)])

theorem stt_nx (s : ByteArray) (a : Nat) (i j : Int) (m : Nat) : (stt s a i j m).nx = LM.nx (s.data.toList.drop a) i j := rfl
theorem stt_after (s : ByteArray) (a : Nat) (i j : Int) (m : Nat) : (stt s a i j m).after = stt s (a + (LM.nx (s.data.toList.drop a) i j).len) (LM.mv (seg s a (LM.nx (s.data.toList.drop a) i j).len) i j).1 (LM.mv (seg s a (LM.nx (s.data.toList.drop a) i j).len) i j).2 (m + 1) := by
  unfold RM.St.after stt
  simp only
  rw [List.drop_drop]
  rfl

/-- six cells of a block are stored anew -/
def six (w : World) (g : Nat) (x0 x1 x2 x3 x4 x5 : Value) : World := (((((w.setCell ⟨g, 0, none⟩ x0).setCell ⟨g, 1, none⟩ x1).setCell ⟨g, 2, none⟩ x2).setCell ⟨g, 3, none⟩ x3).setCell ⟨g, 4, none⟩ x4).setCell ⟨g, 5, none⟩ x5
section
variable {w a : World} {g h B : Nat} {t : TypeId} {cs : List Value} {X : Nat → Prop}
theorem six_far (hL : Lies w h t cs) (hne : h ≠ g) (x0 x1 x2 x3 x4 x5 : Value) : Lies (six w g x0 x1 x2 x3 x4 x5) h t cs :=
  (((((hL.far (p := ⟨g, 0, none⟩) hne _).far (p := ⟨g, 1, none⟩) hne _).far (p := ⟨g, 2, none⟩) hne _).far (p := ⟨g, 3, none⟩) hne _).far (p := ⟨g, 4, none⟩) hne _).far (p := ⟨g, 5, none⟩) hne _
theorem six_lies {y0 y1 y2 y3 y4 y5 : Value} (hL : Lies w g t [y0, y1, y2, y3, y4, y5]) (x0 x1 x2 x3 x4 x5 : Value) : Lies (six w g x0 x1 x2 x3 x4 x5) g t [x0, x1, x2, x3, x4, x5] :=
  (((((hL.stored 0 x0).stored 1 x1).stored 2 x2).stored 3 x3).stored 4 x4).stored 5 x5
theorem six_below (h : Below B a w) (hg : B ≤ g) (x0 x1 x2 x3 x4 x5 : Value) : Below B a (six w g x0 x1 x2 x3 x4 x5) :=
  (((((h.setCell (p := ⟨g, 0, none⟩) hg _).setCell (p := ⟨g, 1, none⟩) hg _).setCell (p := ⟨g, 2, none⟩) hg _).setCell (p := ⟨g, 3, none⟩) hg _).setCell (p := ⟨g, 4, none⟩) hg _).setCell (p := ⟨g, 5, none⟩) hg _
theorem six_turns (h : Turns X a w) (hg : a.heap.size ≤ g) (x0 x1 x2 x3 x4 x5 : Value) : Turns X a (six w g x0 x1 x2 x3 x4 x5) :=
  have no : ∀ o, (⟨g, o, none⟩ : Addr).block < a.heap.size → X g := fun o hh => absurd hh (by simp; omega)
  (((((h.setCell (p := ⟨g, 0, none⟩) (no 0) _).setCell (p := ⟨g, 1, none⟩) (no 1) _).setCell (p := ⟨g, 2, none⟩) (no 2) _).setCell (p := ⟨g, 3, none⟩) (no 3) _).setCell (p := ⟨g, 4, none⟩) (no 4) _).setCell (p := ⟨g, 5, none⟩) (no 5) _
theorem Rd.four {w : World} {r : Nat} {s : ByteArray} {a : Nat} {i j : Int} {m : Nat} (h : Rd w r s a i j m) : w.cell? ⟨r, 0, none⟩ = some (.string s) ∧ w.cell? ⟨r, 1, none⟩ = some (.int .i64 (a : Nat)) ∧ w.cell? ⟨r, 2, none⟩ = some (.int .i64 i) ∧ w.cell? ⟨r, 3, none⟩ = some (.int .i64 j) := ⟨Lies.cell h 0, Lies.cell h 1, Lies.cell h 2, Lies.cell h 3⟩
end

set_option maxRecDepth 100000 in
set_option maxHeartbeats 4000000 in
theorem rnext_bad (w : World) (r : Nat) (s : ByteArray) (a : Nat) (i j : Int) (m : Nat) (hR : Rd w r s a i j m) (hp : Pl s a i j m) (he : (LM.nx (s.data.toList.drop a) i j).t.e ≠ 0) :
    Calls Tryz.prog 44 #[.pointer (some ⟨r, 0, none⟩)] w fun e w' => e = .returned (.tuple #[tk0, erv (LM.nx (s.data.toList.drop a) i j)]) ∧ Went w w' := by
  obtain ⟨hs, ha, i0, i1, j0, j1, hm⟩ := hp
  have hN := Next_any s (by omega) a ha i j ⟨i0, by omega⟩ ⟨j0, by omega⟩
  rw [nxv_no he] at hN
  unfold erv tk0
  generalize LM.nx (s.data.toList.drop a) i j = X at *
  have hN' := Lib.hid hN
  have hr := hR.lt
  have k0 : w.cell? ⟨r, 0, none⟩ = some (.string s) := Lies.cell hR 0
  have k1 : w.cell? ⟨r, 1, none⟩ = some (.int .i64 (a : Nat)) := Lies.cell hR 1
  have k2 : w.cell? ⟨r, 2, none⟩ = some (.int .i64 i) := Lies.cell hR 2
  have k3 : w.cell? ⟨r, 3, none⟩ = some (.int .i64 j) := Lies.cell hR 3
  have he' := Lib.hid he
  clear hN he
  go_enter Tryz.func44, Tryz.ntmps44
  go_upto_region 1 with (fail)
  go_cut [4, 5] from 6 to 25 (fun t4 t5 wc => ∃ g, w.heap.size < g ∧ t4 = .pointer (some ⟨g, 0, none⟩) ∧ t5 = .iface 157 (.agg #[.int .i64 X.line, .int .i64 X.col, .iface 47 (.int .i64 X.t.e)]) ∧ Lies wc g 103 [.int .i64 0, .int .i64 0, .string ⟨#[]⟩, .int .i64 0, .int .i64 0, .int .i64 0] ∧ Lies wc w.heap.size 103 zero6 ∧ Rd wc r s a i j m ∧ Below w.heap.size w wc)
  case first =>
    go_region_held3 (fun w' => w'.cell? ⟨r, 0, none⟩ = some (.string s) ∧ w'.cell? ⟨r, 1, none⟩ = some (.int .i64 (a : Nat)) ∧ w'.cell? ⟨r, 2, none⟩ = some (.int .i64 i) ∧ w'.cell? ⟨r, 3, none⟩ = some (.int .i64 j)) (first | go_keep | with_reducible exact kx | with_reducible exact kz)
      (first
        | (go_at_call 61
           refine (hN'.out _).mono ?_
           rintro e w1 ⟨rfl, hb1⟩
           have hT1 : Lies w1 (w.heap.size + 1) 103 zero6 := (lies_made2 w _ 103 zero6.toArray).drew.below hb1 (by simp)
           have hR1 : Rd w1 r s a i j m := Lies.below (Lies.drew (Lies.alloc (Lies.alloc hR _) _)) hb1 (by simp; omega)
           have kx := hR1.four
           have hL1 : Lies w1 w.heap.size 103 zero6 := ((Lies.made w 103 zero6.toArray).alloc _).drew.below hb1 (by simp; omega)
           have hb2 : Below w.heap.size w w1 := below_new2 hb1
           have q0 : w1.cell? ⟨w.heap.size + 1, 0, none⟩ = some (.int .i64 0) := hT1.cell 0
           have q1 : w1.cell? ⟨w.heap.size + 1, 1, none⟩ = some (.int .i64 0) := hT1.cell 1
           have q2 : w1.cell? ⟨w.heap.size + 1, 2, none⟩ = some (.string ⟨#[]⟩) := hT1.cell 2
           have q3 : w1.cell? ⟨w.heap.size + 1, 3, none⟩ = some (.int .i64 0) := hT1.cell 3
           have q4 : w1.cell? ⟨w.heap.size + 1, 4, none⟩ = some (.int .i64 0) := hT1.cell 4
           have q5 : w1.cell? ⟨w.heap.size + 1, 5, none⟩ = some (.int .i64 0) := hT1.cell 5
           have f0 := hT1.free
           have hz := hT1.lt
           have kz := Rd.four (six_far hR1 (g := w.heap.size + 1) (by omega) (.int .i64 0) (.int .i64 0) (.string ⟨#[]⟩) (.int .i64 0) (.int .i64 0) (.int .i64 0))
           unfold six at kz
           have hcut : ∃ g, w.heap.size < g ∧ g = w.heap.size + 1 ∧ Lies (six w1 g (.int .i64 0) (.int .i64 0) (.string ⟨#[]⟩) (.int .i64 0) (.int .i64 0) (.int .i64 0)) g 103 [.int .i64 0, .int .i64 0, .string ⟨#[]⟩, .int .i64 0, .int .i64 0, .int .i64 0] ∧ Lies (six w1 g (.int .i64 0) (.int .i64 0) (.string ⟨#[]⟩) (.int .i64 0) (.int .i64 0) (.int .i64 0)) w.heap.size 103 zero6 ∧ Rd (six w1 g (.int .i64 0) (.int .i64 0) (.string ⟨#[]⟩) (.int .i64 0) (.int .i64 0) (.int .i64 0)) r s a i j m ∧ Below w.heap.size w (six w1 g (.int .i64 0) (.int .i64 0) (.string ⟨#[]⟩) (.int .i64 0) (.int .i64 0) (.int .i64 0)) :=
             ⟨_, by omega, rfl, six_lies hT1 _ _ _ _ _ _, six_far hL1 (by omega) _ _ _ _ _ _, six_far hR1 (by omega) _ _ _ _ _ _, six_below hb2 (by omega) _ _ _ _ _ _⟩
           clear hb1)
        | (go_at_call 61
           refine (hN'.out _).mono ?_
           rintro e w1 ⟨rfl, hb1⟩
           have hR1 : Rd w1 r s a i j m := Lies.below (Lies.drew (Lies.alloc hR _)) hb1 (by simp; omega)
           have kx := hR1.four
           have hL1 : Lies w1 w.heap.size 103 zero6 := (Lies.made w 103 zero6.toArray).drew.below hb1 (by simp)
           have hb2 : Below w.heap.size w w1 := ((Below.refl _ w).alloc (Nat.le_refl _) _).trans (below_of_drew (hb1.mono (by simp)))
           have hz := hL1.lt
           have hcut : ∃ g, w.heap.size < g ∧ g = w1.heap.size ∧ Lies (w1.alloc (.cells #[.int .i64 0, .int .i64 0, .string ⟨#[]⟩, .int .i64 0, .int .i64 0, .int .i64 0] 103)) g 103 [.int .i64 0, .int .i64 0, .string ⟨#[]⟩, .int .i64 0, .int .i64 0, .int .i64 0] ∧ Lies (w1.alloc (.cells #[.int .i64 0, .int .i64 0, .string ⟨#[]⟩, .int .i64 0, .int .i64 0, .int .i64 0] 103)) w.heap.size 103 zero6 ∧ Rd (w1.alloc (.cells #[.int .i64 0, .int .i64 0, .string ⟨#[]⟩, .int .i64 0, .int .i64 0, .int .i64 0] 103)) r s a i j m ∧ Below w.heap.size w (w1.alloc (.cells #[.int .i64 0, .int .i64 0, .string ⟨#[]⟩, .int .i64 0, .int .i64 0, .int .i64 0] 103)) :=
             ⟨_, by omega, rfl, Lies.made w1 103 #[.int .i64 0, .int .i64 0, .string ⟨#[]⟩, .int .i64 0, .int .i64 0, .int .i64 0], hL1.alloc _, Lies.alloc hR1 _, hb2.alloc (by omega) _⟩
           clear hb1))
    all_goals
      go_wp2_with fail
      go_meet
      case rel =>
        obtain ⟨g, hg1, hg2, hg3, hg4, hg5, hg6⟩ := hcut
        subst hg2
        exact ⟨_, hg1, rfl, rfl, hg3, hg4, hg5, hg6⟩
  case rest =>
    obtain ⟨g, hg, rfl, rfl, -, hL, -, hb⟩ := hcut
    have y0 : wc.cell? ⟨w.heap.size, 0, none⟩ = some (.int .i64 0) := hL.cell 0
    have y1 : wc.cell? ⟨w.heap.size, 1, none⟩ = some (.int .i64 0) := hL.cell 1
    have y2 : wc.cell? ⟨w.heap.size, 2, none⟩ = some (.string ⟨#[]⟩) := hL.cell 2
    have y3 : wc.cell? ⟨w.heap.size, 3, none⟩ = some (.int .i64 0) := hL.cell 3
    have y4 : wc.cell? ⟨w.heap.size, 4, none⟩ = some (.int .i64 0) := hL.cell 4
    have y5 : wc.cell? ⟨w.heap.size, 5, none⟩ = some (.int .i64 0) := hL.cell 5
    have f0 := hL.free
    go_wp2_with fail
    have hF := six_lies hL (.int .i64 0) (.int .i64 0) (.string ⟨#[]⟩) (.int .i64 0) (.int .i64 0) (.int .i64 0)
    unfold six at hF
    exact bodyPost_ret (v := .tuple #[.agg #[.int .i64 0, .int .i64 0, .string ⟨#[]⟩, .int .i64 0, .int .i64 0, .int .i64 0], .iface 157 (.agg #[.int .i64 X.line, .int .i64 X.col, .iface 47 (.int .i64 X.t.e)])])
      (by simp [results, Tryz.results44, go_sem, y0, y1, y2, y3, y4, y5]) rfl ⟨rfl, six_below hb (Nat.le_refl _) _ _ _ _ _ _⟩
end Go.Proofs.YtbomodendobnkaaGreat

/- What the reader of package read gives as its next token, and how it goes on. -/
namespace Go.Proofs.YtbomodendobnkaaGreat
open Go.ChangeShapes Go.WideShapes Go.ChangeAt Go.RowKit

set_option maxRecDepth 100000 in
set_option maxHeartbeats 8000000 in
theorem rnext_ok (w : World) (r : Nat) (s : ByteArray) (a : Nat) (i j : Int) (m : Nat) (hR : Rd w r s a i j m) (hp : Pl s a i j m) (he : (LM.nx (s.data.toList.drop a) i j).t.e = 0) :
    Calls Tryz.prog 44 #[.pointer (some ⟨r, 0, none⟩)] w fun e w' => e = .returned (.tuple #[tka6 (LM.nx (s.data.toList.drop a) i j) (a + (LM.nx (s.data.toList.drop a) i j).len), .nilIface]) ∧
      Rd w' r s (a + (LM.nx (s.data.toList.drop a) i j).len) (LM.mv (seg s a (LM.nx (s.data.toList.drop a) i j).len) i j).1 (LM.mv (seg s a (LM.nx (s.data.toList.drop a) i j).len) i j).2 (m + 1) ∧ Turns (fun k => k = r) w w' := by
  obtain ⟨hs, ha, i0, i1, j0, j1, hm⟩ := hp
  have hN := Next_any s (by omega) a ha i j ⟨i0, by omega⟩ ⟨j0, by omega⟩
  rw [nxv_yes he] at hN
  unfold tka6
  have hnx : (LM.nx (s.data.toList.drop a) i j).len ≤ s.size - a := by
    have h1 := LM.nx_end (s.data.toList.drop a) i j he
    rw [List.length_drop, size_len] at h1
    omega
  generalize LM.nx (s.data.toList.drop a) i j = X at *
  obtain ⟨R1, hR1⟩ : ∃ R, (LM.mv (seg s a X.len) i j).1 = R := ⟨_, rfl⟩
  obtain ⟨R2, hR2⟩ : ∃ R, (LM.mv (seg s a X.len) i j).2 = R := ⟨_, rfl⟩
  have h0 : Hid (LM.mv ((seg s a X.len).drop (a - a)) i j = (R1, R2)) := by show _ = _; rw [Nat.sub_self, ← hR1, ← hR2]; rfl
  rw [hR1, hR2]
  clear hR1 hR2
  have hk : a + X.len ≤ s.size := by omega
  have hgo1 := Lib.hid (fun m l c h0 h hm => @mv_nl s a X.len m l c (R1, R2) h0 h hm hk)
  have hgo2 := Lib.hid (fun m l c h0 h hm => @mv_pl s a X.len m l c (R1, R2) h0 h hm hk)
  have hgo3 := Lib.hid (fun m l c h => @mv_stop s a X.len m l c (R1, R2) h hk)
  obtain ⟨n, hn⟩ : ∃ n, a + X.len = n := ⟨_, rfl⟩
  rw [hn] at hN hk hgo1 hgo2 hgo3 ⊢
  have han : a ≤ n := by omega
  clear hn hnx
  have hN' := Lib.hid hN
  have hr := hR.lt
  have k0 : w.cell? ⟨r, 0, none⟩ = some (.string s) := Lies.cell hR 0
  have k1 : w.cell? ⟨r, 1, none⟩ = some (.int .i64 (a : Nat)) := Lies.cell hR 1
  have k2 : w.cell? ⟨r, 2, none⟩ = some (.int .i64 i) := Lies.cell hR 2
  have k3 : w.cell? ⟨r, 3, none⟩ = some (.int .i64 j) := Lies.cell hR 3
  clear hN he
  go_enter Tryz.func44, Tryz.ntmps44
  go_upto_region 1 with (fail)
  go_cut [4, 5] from 6 to 25 (fun t4 t5 wc => ∃ g, w.heap.size < g ∧ t4 = .pointer (some ⟨g, 0, none⟩) ∧ t5 = .nilIface ∧ Lies wc g 103 [.int .i64 X.t.k, .int .i64 X.t.n, .string ⟨X.t.s.toArray⟩, .int .i64 X.line, .int .i64 X.col, .int .i64 (n : Nat)] ∧ Lies wc w.heap.size 103 zero6 ∧ Rd wc r s a i j m ∧ Below w.heap.size w wc)
  case first =>
    go_region_held3 (fun w' => w'.cell? ⟨r, 0, none⟩ = some (.string s) ∧ w'.cell? ⟨r, 1, none⟩ = some (.int .i64 (a : Nat)) ∧ w'.cell? ⟨r, 2, none⟩ = some (.int .i64 i) ∧ w'.cell? ⟨r, 3, none⟩ = some (.int .i64 j)) (first | go_keep | with_reducible exact kx | with_reducible exact kz)
      (first
        | (go_at_call 61
           refine (hN'.out _).mono ?_
           rintro e w1 ⟨rfl, hb1⟩
           have hT1 : Lies w1 (w.heap.size + 1) 103 zero6 := (lies_made2 w _ 103 zero6.toArray).drew.below hb1 (by simp)
           have hR1 : Rd w1 r s a i j m := Lies.below (Lies.drew (Lies.alloc (Lies.alloc hR _) _)) hb1 (by simp; omega)
           have kx := hR1.four
           have hL1 : Lies w1 w.heap.size 103 zero6 := ((Lies.made w 103 zero6.toArray).alloc _).drew.below hb1 (by simp; omega)
           have hb2 : Below w.heap.size w w1 := below_new2 hb1
           have q0 : w1.cell? ⟨w.heap.size + 1, 0, none⟩ = some (.int .i64 0) := hT1.cell 0
           have q1 : w1.cell? ⟨w.heap.size + 1, 1, none⟩ = some (.int .i64 0) := hT1.cell 1
           have q2 : w1.cell? ⟨w.heap.size + 1, 2, none⟩ = some (.string ⟨#[]⟩) := hT1.cell 2
           have q3 : w1.cell? ⟨w.heap.size + 1, 3, none⟩ = some (.int .i64 0) := hT1.cell 3
           have q4 : w1.cell? ⟨w.heap.size + 1, 4, none⟩ = some (.int .i64 0) := hT1.cell 4
           have q5 : w1.cell? ⟨w.heap.size + 1, 5, none⟩ = some (.int .i64 0) := hT1.cell 5
           have f0 := hT1.free
           have hz := hT1.lt
           have kz := Rd.four (six_far hR1 (g := w.heap.size + 1) (by omega) (.int .i64 X.t.k) (.int .i64 X.t.n) (.string ⟨X.t.s.toArray⟩) (.int .i64 X.line) (.int .i64 X.col) (.int .i64 (n : Nat)))
           unfold six at kz
           have hcut : ∃ g, w.heap.size < g ∧ g = w.heap.size + 1 ∧ Lies (six w1 g (.int .i64 X.t.k) (.int .i64 X.t.n) (.string ⟨X.t.s.toArray⟩) (.int .i64 X.line) (.int .i64 X.col) (.int .i64 (n : Nat))) g 103 [.int .i64 X.t.k, .int .i64 X.t.n, .string ⟨X.t.s.toArray⟩, .int .i64 X.line, .int .i64 X.col, .int .i64 (n : Nat)] ∧ Lies (six w1 g (.int .i64 X.t.k) (.int .i64 X.t.n) (.string ⟨X.t.s.toArray⟩) (.int .i64 X.line) (.int .i64 X.col) (.int .i64 (n : Nat))) w.heap.size 103 zero6 ∧ Rd (six w1 g (.int .i64 X.t.k) (.int .i64 X.t.n) (.string ⟨X.t.s.toArray⟩) (.int .i64 X.line) (.int .i64 X.col) (.int .i64 (n : Nat))) r s a i j m ∧ Below w.heap.size w (six w1 g (.int .i64 X.t.k) (.int .i64 X.t.n) (.string ⟨X.t.s.toArray⟩) (.int .i64 X.line) (.int .i64 X.col) (.int .i64 (n : Nat))) :=
             ⟨_, by omega, rfl, six_lies hT1 _ _ _ _ _ _, six_far hL1 (by omega) _ _ _ _ _ _, six_far hR1 (by omega) _ _ _ _ _ _, six_below hb2 (by omega) _ _ _ _ _ _⟩
           clear hb1)
        | (go_at_call 61
           refine (hN'.out _).mono ?_
           rintro e w1 ⟨rfl, hb1⟩
           have hR1 : Rd w1 r s a i j m := Lies.below (Lies.drew (Lies.alloc hR _)) hb1 (by simp; omega)
           have kx := hR1.four
           have hL1 : Lies w1 w.heap.size 103 zero6 := (Lies.made w 103 zero6.toArray).drew.below hb1 (by simp)
           have hb2 : Below w.heap.size w w1 := ((Below.refl _ w).alloc (Nat.le_refl _) _).trans (below_of_drew (hb1.mono (by simp)))
           have hz := hL1.lt
           have hcut : ∃ g, w.heap.size < g ∧ g = w1.heap.size ∧ Lies (w1.alloc (.cells #[.int .i64 X.t.k, .int .i64 X.t.n, .string ⟨X.t.s.toArray⟩, .int .i64 X.line, .int .i64 X.col, .int .i64 (n : Nat)] 103)) g 103 [.int .i64 X.t.k, .int .i64 X.t.n, .string ⟨X.t.s.toArray⟩, .int .i64 X.line, .int .i64 X.col, .int .i64 (n : Nat)] ∧ Lies (w1.alloc (.cells #[.int .i64 X.t.k, .int .i64 X.t.n, .string ⟨X.t.s.toArray⟩, .int .i64 X.line, .int .i64 X.col, .int .i64 (n : Nat)] 103)) w.heap.size 103 zero6 ∧ Rd (w1.alloc (.cells #[.int .i64 X.t.k, .int .i64 X.t.n, .string ⟨X.t.s.toArray⟩, .int .i64 X.line, .int .i64 X.col, .int .i64 (n : Nat)] 103)) r s a i j m ∧ Below w.heap.size w (w1.alloc (.cells #[.int .i64 X.t.k, .int .i64 X.t.n, .string ⟨X.t.s.toArray⟩, .int .i64 X.line, .int .i64 X.col, .int .i64 (n : Nat)] 103)) :=
             ⟨_, by omega, rfl, Lies.made w1 103 #[.int .i64 X.t.k, .int .i64 X.t.n, .string ⟨X.t.s.toArray⟩, .int .i64 X.line, .int .i64 X.col, .int .i64 (n : Nat)], hL1.alloc _, Lies.alloc hR1 _, hb2.alloc (by omega) _⟩
           clear hb1))
    all_goals
      go_wp2_with fail
      go_meet
      case rel =>
        obtain ⟨g, hg1, hg2, hg3, hg4, hg5, hg6⟩ := hcut
        subst hg2
        exact ⟨_, hg1, rfl, rfl, hg3, hg4, hg5, hg6⟩
  case rest =>
    obtain ⟨g, hg, rfl, rfl, hT, hL, hRc, hb⟩ := hcut
    have x4 : wc.cell? ⟨r, 4, none⟩ = some (.int .i64 (m : Nat)) := Lies.cell hRc 4
    have fr := Lies.free hRc
    clear k0 k1 k2 k3
    go_wp2_with fail
    go_loopw [] (fun wr => ∃ (b : Nat) (l c : Int), a ≤ b ∧ b ≤ n ∧ 0 ≤ l ∧ l ≤ i + b ∧ 0 ≤ c ∧ c ≤ j + b + 1 ∧ Lies wr r 101 [.string s, .int .i64 (b : Nat), .int .i64 l, .int .i64 c, .int .i64 ((m : Int) + 1)] ∧ Lies wr g 103 [.int .i64 X.t.k, .int .i64 X.t.n, .string ⟨X.t.s.toArray⟩, .int .i64 X.line, .int .i64 X.col, .int .i64 (n : Nat)] ∧ Lies wr w.heap.size 103 zero6 ∧ Turns (fun k => k = r) w wr ∧ Hid (LM.mv ((seg s a X.len).drop (b - a)) l c = (R1, R2))) (fun wr => match wr.cell? ⟨r, 1, none⟩ with | some (.int .i64 k) => n - k.toNat | _ => 0)
    case atStart =>
      exact ⟨a, i, j, by omega, by omega, by omega, by omega, by omega, by omega, Lies.stored hRc 4 _, hT.far (p := ⟨r, 4, none⟩) (by simp; omega) _, hL.far (p := ⟨r, 4, none⟩) (by simp; omega) _, (Turns.of_below hb (fun k => k = r)).setCell (p := ⟨r, 4, none⟩) (fun _ => rfl) _, h0⟩
    case round =>
      obtain ⟨b, l, c, hb0, hb1, hl0, hl1, hc0, hc1, hRr, hTr, hLr, ht, H⟩ := hrel
      have z0 : wr.cell? ⟨r, 0, none⟩ = some (.string s) := hRr.cell 0
      have z1 : wr.cell? ⟨r, 1, none⟩ = some (.int .i64 (b : Nat)) := hRr.cell 1
      have z2 : wr.cell? ⟨r, 2, none⟩ = some (.int .i64 l) := hRr.cell 2
      have z3 : wr.cell? ⟨r, 3, none⟩ = some (.int .i64 c) := hRr.cell 3
      have f0 := hRr.free
      have t5 : wr.cell? ⟨g, 5, none⟩ = some (.int .i64 (n : Nat)) := hTr.cell 5
      clear x4 fr
      by_cases hlt : b < n
      · have hms : b < s.size := by omega
        have d1 : decide (b < n) = true := by simp [hlt]
        have d2 : decide ((b : Int) < (n : Nat)) = true := by rw [decide_eq_true_eq]; omega
        by_cases hx : (s[b].toNat : Int) = 10
        · have hn := Lib.hid (hgo1.out b l c hb0 (by omega) hms H.out hx)
          have e10 : ((s[b].toNat : Int) == 10) = true := by simp [hx]
          clear hx
          go_wp2_with fail
          go_quiet (fail)
          go_wp2_with fail
          go_quiet (fail)
          go_wp2_with fail
          go_roundw
          case rel =>
            refine ⟨b + 1, l + 1, 1, by omega, by omega, by omega, by omega, by omega, by omega, ?_, ?_, ?_, ?_, hn⟩
            · exact ((((((hRr).drewN _).stored 3 (.int .i64 (c + 1))).drewN _).stored 2 (.int .i64 (l + 1))).stored 3 (.int .i64 1)).stored 1 (.int .i64 ((b : Int) + 1))
            · exact ((((((hTr).drewN _).far (p := ⟨r, 3, none⟩) (by simp; omega) _).drewN _).far (p := ⟨r, 2, none⟩) (by simp; omega) _).far (p := ⟨r, 3, none⟩) (by simp; omega) _).far (p := ⟨r, 1, none⟩) (by simp; omega) _
            · exact ((((((hLr).drewN _).far (p := ⟨r, 3, none⟩) (by simp; omega) _).drewN _).far (p := ⟨r, 2, none⟩) (by simp; omega) _).far (p := ⟨r, 3, none⟩) (by simp; omega) _).far (p := ⟨r, 1, none⟩) (by simp; omega) _
            · exact ((((((ht).drewN _).setCell (p := ⟨r, 3, none⟩) (fun _ => rfl) _).drewN _).setCell (p := ⟨r, 2, none⟩) (fun _ => rfl) _).setCell (p := ⟨r, 3, none⟩) (fun _ => rfl) _).setCell (p := ⟨r, 1, none⟩) (fun _ => rfl) _
          case measure =>
            have q : ∀ n0 n1 : Nat, World.cell? (((((((wr).drewN n0).setCell ⟨r, 3, none⟩ (.int .i64 (c + 1))).drewN n1).setCell ⟨r, 2, none⟩ (.int .i64 (l + 1))).setCell ⟨r, 3, none⟩ (.int .i64 1)).setCell ⟨r, 1, none⟩ (.int .i64 ((b : Int) + 1))) ⟨r, 1, none⟩ = some (.int .i64 ((b : Int) + 1)) := fun n0 n1 => Lies.cell (((((((hRr).drewN n0).stored 3 (.int .i64 (c + 1))).drewN n1).stored 2 (.int .i64 (l + 1))).stored 3 (.int .i64 1)).stored 1 (.int .i64 ((b : Int) + 1))) 1
            rw [q, z1]
            simp; omega
        · have hn := Lib.hid (hgo2.out b l c hb0 (by omega) hms H.out hx)
          have e10 : ((s[b].toNat : Int) == 10) = false := by simp [hx]
          clear hx
          go_wp2_with fail
          go_quiet (fail)
          go_wp2_with fail
          go_quiet (fail)
          go_wp2_with fail
          go_roundw
          case rel =>
            refine ⟨b + 1, l, c + 1, by omega, by omega, by omega, by omega, by omega, by omega, ?_, ?_, ?_, ?_, hn⟩
            · exact ((((hRr).drewN _).stored 3 (.int .i64 (c + 1))).drewN _).stored 1 (.int .i64 ((b : Int) + 1))
            · exact ((((hTr).drewN _).far (p := ⟨r, 3, none⟩) (by simp; omega) _).drewN _).far (p := ⟨r, 1, none⟩) (by simp; omega) _
            · exact ((((hLr).drewN _).far (p := ⟨r, 3, none⟩) (by simp; omega) _).drewN _).far (p := ⟨r, 1, none⟩) (by simp; omega) _
            · exact ((((ht).drewN _).setCell (p := ⟨r, 3, none⟩) (fun _ => rfl) _).drewN _).setCell (p := ⟨r, 1, none⟩) (fun _ => rfl) _
          case measure =>
            have q : ∀ n0 n1 : Nat, World.cell? (((((wr).drewN n0).setCell ⟨r, 3, none⟩ (.int .i64 (c + 1))).drewN n1).setCell ⟨r, 1, none⟩ (.int .i64 ((b : Int) + 1))) ⟨r, 1, none⟩ = some (.int .i64 ((b : Int) + 1)) := fun n0 n1 => Lies.cell (((((hRr).drewN n0).stored 3 (.int .i64 (c + 1))).drewN n1).stored 1 (.int .i64 ((b : Int) + 1))) 1
            rw [q, z1]
            simp; omega
      · have hn := hgo3.out b l c (by omega) H.out
        obtain rfl : b = n := by omega
        cases hn
        have d1 : decide (b < b) = false := by simp
        have d2 : decide ((b : Int) < (b : Nat)) = false := by simp
        have v0 : wr.cell? ⟨g, 0, none⟩ = some (.int .i64 X.t.k) := hTr.cell 0
        have v1 : wr.cell? ⟨g, 1, none⟩ = some (.int .i64 X.t.n) := hTr.cell 1
        have v2 : wr.cell? ⟨g, 2, none⟩ = some (.string ⟨X.t.s.toArray⟩) := hTr.cell 2
        have v3 : wr.cell? ⟨g, 3, none⟩ = some (.int .i64 X.line) := hTr.cell 3
        have v4 : wr.cell? ⟨g, 4, none⟩ = some (.int .i64 X.col) := hTr.cell 4
        have y0 : wr.cell? ⟨w.heap.size, 0, none⟩ = some (.int .i64 0) := hLr.cell 0
        have y1 : wr.cell? ⟨w.heap.size, 1, none⟩ = some (.int .i64 0) := hLr.cell 1
        have y2 : wr.cell? ⟨w.heap.size, 2, none⟩ = some (.string ⟨#[]⟩) := hLr.cell 2
        have y3 : wr.cell? ⟨w.heap.size, 3, none⟩ = some (.int .i64 0) := hLr.cell 3
        have y4 : wr.cell? ⟨w.heap.size, 4, none⟩ = some (.int .i64 0) := hLr.cell 4
        have y5 : wr.cell? ⟨w.heap.size, 5, none⟩ = some (.int .i64 0) := hLr.cell 5
        have f1 := hLr.free
        go_wp2_with fail
        go_quiet (fail)
        go_wp2_with fail
        refine bodyPost_ret (v := .tuple #[.agg #[.int .i64 X.t.k, .int .i64 X.t.n, .string ⟨X.t.s.toArray⟩, .int .i64 X.line, .int .i64 X.col, .int .i64 (b : Nat)], .nilIface])
          (by simp [results, Tryz.results44, go_sem, y0, y1, y2, y3, y4, y5]) rfl ⟨rfl, ?_, ?_⟩
        · exact six_far (g := w.heap.size) (hRr.drewN _) (by omega) _ _ _ _ _ _
        · exact six_turns (ht.drewN _) (Nat.le_refl _) _ _ _ _ _ _
end Go.Proofs.YtbomodendobnkaaGreat
