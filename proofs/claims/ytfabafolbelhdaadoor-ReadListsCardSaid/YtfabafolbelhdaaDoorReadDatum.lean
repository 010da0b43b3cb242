/- What the reader's functions owe one another; datum, out of begun. -/
import Derived.Test.YtfabafolbelhdaaDoorReadJoin
namespace Go.Proofs.YtfabafolbelhdaaDoor
open Go.ChangeShapes Go.WideShapes Go.ChangeAt Go.RowKit

/-- a datum came of it, and the reader stands behind it; or an error with its place -/
def RPost (w : World) (r : Nat) (s : ByteArray) : RM.Re → Ending → World → Prop
  | .error x, e, w' => e = .returned (.tuple #[dt0, ekv x]) ∧ Turns (fun k => k = r) w w'
  | .ok (d, t), e, w' => ∃ v a i j m, e = .returned (.tuple #[.agg #[.int .i64 d.k, .int .i64 d.n, .string ⟨d.s.toArray⟩, v], .nilIface]) ∧ t = stt s a i j m ∧ Pl s a i j m ∧ Rd w' r s a i j m ∧ Dat w' (fun g => w.heap.size ≤ g) v d.is ∧ Turns (fun k => k = r) w w'
/-- what begun owes, so many levels ahead of the last one -/
def BegC (v : Nat) : Prop := ∀ (w : World) (r : Nat) (s : ByteArray) (a : Nat) (i j : Int) (m : Nat) (X : LM.Nx) (n : Nat), Rd w r s a i j m → (X.t.k ≠ 14 → Pl s a i j m) →
  Calls Tryd.prog 17 #[.pointer (some ⟨r, 0, none⟩), tka6 X n, .int .i64 (65 - (v : Int))] w (RPost w r s (RM.beg v X (stt s a i j m)))
def DatC (v : Nat) : Prop := ∀ (w : World) (r : Nat) (s : ByteArray) (a : Nat) (i j : Int) (m : Nat), Rd w r s a i j m → Pl s a i j m →
  Calls Tryd.prog 25 #[.pointer (some ⟨r, 0, none⟩), .int .i64 (65 - (v : Int))] w (RPost w r s (RM.nxt (stt s a i j m) (RM.beg v)))

/-- behind a token that isn't the end the place may be one -/
theorem Pl.after {s : ByteArray} {a : Nat} {i j : Int} {m : Nat} (hp : Pl s a i j m) (he : (LM.nx (s.data.toList.drop a) i j).t.e = 0) :
    (LM.nx (s.data.toList.drop a) i j).t.k ≠ 14 → Pl s (a + (LM.nx (s.data.toList.drop a) i j).len) (LM.mv (seg s a (LM.nx (s.data.toList.drop a) i j).len) i j).1 (LM.mv (seg s a (LM.nx (s.data.toList.drop a) i j).len) i j).2 (m + 1) := by
  intro hk
  obtain ⟨hs, ha, i0, i1, j0, j1, hm⟩ := hp
  have hx := LM.nx_end (s.data.toList.drop a) i j he
  rw [List.length_drop, size_len] at hx
  rcases hx with h | ⟨-, h1, h2, h3⟩
  · exact absurd h.1 hk
  have hb := LM.mv_bd (seg s a (LM.nx (s.data.toList.drop a) i j).len) i j j0
  rw [seg_len (by omega)] at hb
  exact ⟨hs, by omega, by omega, by omega, by omega, by omega, by omega⟩
theorem nxt_bad {s : ByteArray} {a : Nat} {i j : Int} {m : Nat} (K : LM.Nx → RM.St → RM.Re) (he : (LM.nx (s.data.toList.drop a) i j).t.e ≠ 0) :
    RM.nxt (stt s a i j m) K = .error ((LM.nx (s.data.toList.drop a) i j).t.e, (LM.nx (s.data.toList.drop a) i j).line, (LM.nx (s.data.toList.drop a) i j).col) := by
  unfold RM.nxt; rw [stt_nx, if_pos he]
theorem nxt_good {s : ByteArray} {a : Nat} {i j : Int} {m : Nat} (K : LM.Nx → RM.St → RM.Re) (he : (LM.nx (s.data.toList.drop a) i j).t.e = 0) :
    RM.nxt (stt s a i j m) K = K (LM.nx (s.data.toList.drop a) i j) (stt s (a + (LM.nx (s.data.toList.drop a) i j).len) (LM.mv (seg s a (LM.nx (s.data.toList.drop a) i j).len) i j).1 (LM.mv (seg s a (LM.nx (s.data.toList.drop a) i j).len) i j).2 (m + 1)) := by
  unfold RM.nxt; rw [if_neg (by rw [stt_nx]; simp [he]), stt_nx, stt_after]
theorem erv_ekv (X : LM.Nx) : erv X = ekv (X.t.e, X.line, X.col) := rfl

set_option maxRecDepth 100000 in
set_option maxHeartbeats 4000000 in
theorem datum_any {v : Nat} (hB : BegC v) : DatC v := by
  intro w r s a i j m hR hp
  have hr := hR.lt
  by_cases he : (LM.nx (s.data.toList.drop a) i j).t.e = 0
  · rw [nxt_good _ he]
    have hN := Lib.hid (fun w' (h : Rd w' r s a i j m) => rnext_ok w' r s a i j m h hp he)
    have hP := Lib.hid (hp.after he)
    generalize LM.nx (s.data.toList.drop a) i j = X at *
    generalize (LM.mv (seg s a X.len) i j).1 = i' at *
    generalize (LM.mv (seg s a X.len) i j).2 = j' at *
    generalize a + X.len = a' at *
    have hC := Lib.hid (fun w' (h : Rd w' r s a' i' j' (m + 1)) => hB w' r s a' i' j' (m + 1) X a' h hP.out)
    clear hB hp he
    have hR0 : Rd (w.alloc (.cells zd4.toArray 29)) r s a i j m := Lies.alloc hR _
    unfold zd4 at hR0
    generalize RM.beg v X (stt s a' i' j' (m + 1)) = R at *
    obtain ⟨dp, hdp⟩ : ∃ dp : Int, 65 - (v : Int) = dp := ⟨_, rfl⟩
    rw [hdp] at hC ⊢
    clear hdp
    cases R with
    | error x =>
      unfold RPost at hC ⊢
      go_enter Tryd.func25, Tryd.ntmps25
      go_wp2_with (first
        | (go_at_call 16
           refine (hN.out _ hR0).mono ?_
           rintro e w1 ⟨rfl, hR1, ht1⟩
           unfold tka6
           have hL1 : Lies w1 w.heap.size 29 zd4 := (Lies.made w 29 zd4.toArray).turns ht1 (by omega)
           have hz1 := hL1.lt
           have hR2 : Rd (w1.alloc (.cells #[.int .i64 X.t.k, .int .i64 X.t.n, .string ⟨X.t.s.toArray⟩, .int .i64 X.line, .int .i64 X.col, .int .i64 (a' : Nat)] 44)) r s a' i' j' (m + 1) := Lies.alloc hR1 _)
        | (go_at_call 17
           refine (hC.out _ hR2).mono ?_
           rintro e w3 ⟨rfl, ht3⟩
           have hL3 : Lies w3 w.heap.size 29 zd4 := (hL1.alloc _).turns ht3 (by omega)
           have hz3 := hL3.lt
           have y0 : w3.cell? ⟨w.heap.size, 0, none⟩ = some (.int .i64 0) := hL3.cell 0
           have y1 : w3.cell? ⟨w.heap.size, 1, none⟩ = some (.int .i64 0) := hL3.cell 1
           have y2 : w3.cell? ⟨w.heap.size, 2, none⟩ = some (.string ⟨#[]⟩) := hL3.cell 2
           have y3 : w3.cell? ⟨w.heap.size, 3, none⟩ = some (.slice none 0 0) := hL3.cell 3
           have f3 := hL3.free
           have ht4 : Turns (fun k => k = r) w w3 := ((((Turns.refl _ w).alloc _).trans ht1).alloc _).trans ht3
           unfold dt0 ekv))
      exact bodyPost_ret (v := .tuple #[.agg #[.int .i64 0, .int .i64 0, .string ⟨#[]⟩, .slice none 0 0], ekv x]) (by simp [results, Tryd.results25, go_sem, y0, y1, y2, y3, ekv]) rfl ⟨rfl, four_turns ht4 (Nat.le_refl _) _ _ _ _⟩
    | ok p =>
      obtain ⟨d, t⟩ := p
      unfold RPost at hC ⊢
      go_enter Tryd.func25, Tryd.ntmps25
      go_wp2_with (first
        | (go_at_call 16
           refine (hN.out _ hR0).mono ?_
           rintro e w1 ⟨rfl, hR1, ht1⟩
           unfold tka6
           have hL1 : Lies w1 w.heap.size 29 zd4 := (Lies.made w 29 zd4.toArray).turns ht1 (by omega)
           have hz1 := hL1.lt
           have hR2 : Rd (w1.alloc (.cells #[.int .i64 X.t.k, .int .i64 X.t.n, .string ⟨X.t.s.toArray⟩, .int .i64 X.line, .int .i64 X.col, .int .i64 (a' : Nat)] 44)) r s a' i' j' (m + 1) := Lies.alloc hR1 _)
        | (go_at_call 17
           refine (hC.out _ hR2).mono ?_
           rintro e w3 ⟨vd, a3, i3, j3, m3, rfl, hst, hp3, hR3, hd3, ht3⟩
           obtain ⟨A3, c3, rfl⟩ := hd3.read
           have hst' := Lib.hid hst
           clear hst
           have hL3 : Lies w3 w.heap.size 29 zd4 := (hL1.alloc _).turns ht3 (by omega)
           have hz3 := hL3.lt
           have y0 : w3.cell? ⟨w.heap.size, 0, none⟩ = some (.int .i64 0) := hL3.cell 0
           have y1 : w3.cell? ⟨w.heap.size, 1, none⟩ = some (.int .i64 0) := hL3.cell 1
           have y2 : w3.cell? ⟨w.heap.size, 2, none⟩ = some (.string ⟨#[]⟩) := hL3.cell 2
           have y3 : w3.cell? ⟨w.heap.size, 3, none⟩ = some (.slice none 0 0) := hL3.cell 3
           have f3 := hL3.free
           have ht4 : Turns (fun k => k = r) w w3 := ((((Turns.refl _ w).alloc _).trans ht1).alloc _).trans ht3))
      refine bodyPost_ret (v := .tuple #[.agg #[.int .i64 d.k, .int .i64 d.n, .string ⟨d.s.toArray⟩, .slice A3 d.is.len c3], .nilIface]) (by simp [results, Tryd.results25, go_sem, y0, y1, y2, y3]) rfl ⟨_, a3, i3, j3, m3, rfl, hst'.out, hp3, ?_, ?_, four_turns ht4 (Nat.le_refl _) _ _ _ _⟩
      · exact four_far (g := w.heap.size) hR3 (by omega) _ _ _ _
      · exact (hd3.turns (four_one w3 w.heap.size _ _ _ _) (fun g _ hs hh => by simp at hs; omega)).mono (fun g _ hs => by simp at hs; omega)
  · rw [nxt_bad _ he]
    have hN := Lib.hid (fun w' (h : Rd w' r s a i j m) => rnext_bad w' r s a i j m h hp he)
    generalize LM.nx (s.data.toList.drop a) i j = X at *
    clear hB hp he
    have hR0 : Rd (w.alloc (.cells zd4.toArray 29)) r s a i j m := Lies.alloc hR _
    unfold zd4 at hR0
    unfold RPost
    go_enter Tryd.func25, Tryd.ntmps25
    go_wp2_with (
      go_at_call 16
      refine (hN.out _ hR0).mono ?_
      rintro e w1 ⟨rfl, hb1⟩
      unfold tk0 erv
      have hL1 : Lies w1 w.heap.size 29 zd4 := (Lies.made w 29 zd4.toArray).below hb1 (by simp)
      have hz1 := hL1.lt
      have y0 : w1.cell? ⟨w.heap.size, 0, none⟩ = some (.int .i64 0) := hL1.cell 0
      have y1 : w1.cell? ⟨w.heap.size, 1, none⟩ = some (.int .i64 0) := hL1.cell 1
      have y2 : w1.cell? ⟨w.heap.size, 2, none⟩ = some (.string ⟨#[]⟩) := hL1.cell 2
      have y3 : w1.cell? ⟨w.heap.size, 3, none⟩ = some (.slice none 0 0) := hL1.cell 3
      have f3 := hL1.free
      have ht4 : Turns (fun k => k = r) w w1 := ((Turns.refl _ w).alloc _).trans (Turns.of_below hb1 _))
    have hF := (four_lies hL1 (.int .i64 0) (.int .i64 0) (.string ⟨#[]⟩) (.slice none 0 0)).alloc (.cells #[.int .i64 0, .int .i64 0, .string ⟨#[]⟩, .int .i64 0, .int .i64 0, .int .i64 0] 44)
    have q0 := hF.cell 0
    have q1 := hF.cell 1
    have q2 := hF.cell 2
    have q3 := hF.cell 3
    have ht5 := (four_turns ht4 (Nat.le_refl _) (.int .i64 0) (.int .i64 0) (.string ⟨#[]⟩) (.slice none 0 0)).alloc (.cells #[.int .i64 0, .int .i64 0, .string ⟨#[]⟩, .int .i64 0, .int .i64 0, .int .i64 0] 44)
    unfold four at q0 q1 q2 q3 ht5
    simp only [List.getElem?_cons_zero, List.getElem?_cons_succ] at q0 q1 q2 q3
    exact bodyPost_ret (v := .tuple #[.agg #[.int .i64 0, .int .i64 0, .string ⟨#[]⟩, .slice none 0 0], ekv (X.t.e, X.line, X.col)]) (by simp [results, Tryd.results25, go_sem, q0, q1, q2, q3, ekv]) rfl ⟨rfl, ht5⟩
end Go.Proofs.YtfabafolbelhdaaDoor
