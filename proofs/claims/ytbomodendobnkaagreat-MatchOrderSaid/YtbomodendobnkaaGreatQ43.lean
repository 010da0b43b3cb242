/- What begun of package read gives: the datum that a token begins. -/
import Derived.Test.YtbomodendobnkaaGreatQ42
namespace Go.Proofs.YtbomodendobnkaaGreat
open Go.ChangeShapes Go.WideShapes Go.ChangeAt Go.RowKit

def ks (k j : Int) (b : Bool) : Prop := (k == j) = b
theorem kb (k j : Int) (h : k ≠ j) : (k == j) = false := by simp [h]

set_option maxRecDepth 100000 in
set_option maxHeartbeats 2000000 in
/-- the text has ended -/
theorem begun_end (w : World) (r : Nat) (s : ByteArray) (a : Nat) (i j : Int) (m : Nat) (X : LM.Nx) (n : Nat) (dp : Int) (hR : Rd w r s a i j m) (h14 : X.t.k = 14) :
    Calls Tryz.prog 45 #[.pointer (some ⟨r, 0, none⟩), tka6 X n, .int .i64 dp] w (RPost w r s (.error (5, X.line, X.col))) := by
  have hr := hR.lt
  have e14 : (X.t.k == 14) = true := by simp [h14]
  have hL0 := lies_made2 w (.cells #[.int .i64 X.t.k, .int .i64 X.t.n, .string ⟨X.t.s.toArray⟩, .int .i64 X.line, .int .i64 X.col, .int .i64 (n : Nat)] 103) 24 zd4.toArray
  clear h14
  unfold tka6
  unfold RPost
  go_enter Tryz.func45, Tryz.ntmps45
  go_wp2_with (first
    | (go_at_call 62
       have hF := fault_any X n 5
       unfold tka6 at hF
       refine (hF _).mono ?_
       rintro e w3 ⟨rfl, hb3⟩
       clear hF
       have hL3 := hL0.below hb3 (by simp)
       have hz3 := hL3.lt
       have y0 : w3.cell? ⟨w.heap.size + 1, 0, none⟩ = some (.int .i64 0) := hL3.cell 0
       have y1 : w3.cell? ⟨w.heap.size + 1, 1, none⟩ = some (.int .i64 0) := hL3.cell 1
       have y2 : w3.cell? ⟨w.heap.size + 1, 2, none⟩ = some (.string ⟨#[]⟩) := hL3.cell 2
       have y3 : w3.cell? ⟨w.heap.size + 1, 3, none⟩ = some (.slice none 0 0) := hL3.cell 3
       have f3 := hL3.free
       have ht4 : Turns (fun k => k = r) w w3 := (((Turns.refl _ w).alloc _).alloc _).trans (Turns.of_below hb3 _)
       unfold dt0 ekv))
  exact bodyPost_ret (v := .tuple #[.agg #[.int .i64 0, .int .i64 0, .string ⟨#[]⟩, .slice none 0 0], ekv (5, X.line, X.col)]) (by simp [results, Tryz.results45, go_sem, y0, y1, y2, y3, ekv]) rfl ⟨rfl, four_turns ht4 (by omega) _ _ _ _⟩

set_option maxRecDepth 100000 in
set_option maxHeartbeats 2000000 in
/-- too far within -/
theorem begun_deep (w : World) (r : Nat) (s : ByteArray) (a : Nat) (i j : Int) (m : Nat) (X : LM.Nx) (n : Nat) (dp : Int) (hd : 64 < dp) (hR : Rd w r s a i j m) (h14 : X.t.k ≠ 14) :
    Calls Tryz.prog 45 #[.pointer (some ⟨r, 0, none⟩), tka6 X n, .int .i64 dp] w (RPost w r s (.error (14, X.line, X.col))) := by
  have hr := hR.lt
  have e14 : (X.t.k == 14) = false := by simp [h14]
  have hL0 := lies_made2 w (.cells #[.int .i64 X.t.k, .int .i64 X.t.n, .string ⟨X.t.s.toArray⟩, .int .i64 X.line, .int .i64 X.col, .int .i64 (n : Nat)] 103) 24 zd4.toArray
  clear h14
  unfold tka6
  unfold RPost
  go_enter Tryz.func45, Tryz.ntmps45
  go_wp2_with (first
    | (go_at_call 62
       have hF := fault_any X n 14
       unfold tka6 at hF
       refine (hF _).mono ?_
       rintro e w3 ⟨rfl, hb3⟩
       clear hF
       have hL3 := hL0.below hb3 (by simp)
       have hz3 := hL3.lt
       have y0 : w3.cell? ⟨w.heap.size + 1, 0, none⟩ = some (.int .i64 0) := hL3.cell 0
       have y1 : w3.cell? ⟨w.heap.size + 1, 1, none⟩ = some (.int .i64 0) := hL3.cell 1
       have y2 : w3.cell? ⟨w.heap.size + 1, 2, none⟩ = some (.string ⟨#[]⟩) := hL3.cell 2
       have y3 : w3.cell? ⟨w.heap.size + 1, 3, none⟩ = some (.slice none 0 0) := hL3.cell 3
       have f3 := hL3.free
       have ht4 : Turns (fun k => k = r) w w3 := (((Turns.refl _ w).alloc _).alloc _).trans (Turns.of_below hb3 _)
       unfold dt0 ekv))
  exact bodyPost_ret (v := .tuple #[.agg #[.int .i64 0, .int .i64 0, .string ⟨#[]⟩, .slice none 0 0], ekv (14, X.line, X.col)]) (by simp [results, Tryz.results45, go_sem, y0, y1, y2, y3, ekv]) rfl ⟨rfl, four_turns ht4 (by omega) _ _ _ _⟩

set_option maxRecDepth 100000 in
set_option maxHeartbeats 2000000 in
/-- too many tokens -/
theorem begun_many (w : World) (r : Nat) (s : ByteArray) (a : Nat) (i j : Int) (m : Nat) (X : LM.Nx) (n : Nat) (dp : Int) (hd : dp ≤ 64) (hm : 4000 < m) (hR : Rd w r s a i j m) (h14 : X.t.k ≠ 14) :
    Calls Tryz.prog 45 #[.pointer (some ⟨r, 0, none⟩), tka6 X n, .int .i64 dp] w (RPost w r s (.error (14, X.line, X.col))) := by
  have hr := hR.lt
  have e14 : (X.t.k == 14) = false := by simp [h14]
  have x4 : w.cell? ⟨r, 4, none⟩ = some (.int .i64 (m : Nat)) := Lies.cell hR 4
  have hL0 := lies_made2 w (.cells #[.int .i64 X.t.k, .int .i64 X.t.n, .string ⟨X.t.s.toArray⟩, .int .i64 X.line, .int .i64 X.col, .int .i64 (n : Nat)] 103) 24 zd4.toArray
  clear h14
  unfold tka6
  unfold RPost
  go_enter Tryz.func45, Tryz.ntmps45
  go_wp2_with (first
    | (go_at_call 62
       have hF := fault_any X n 14
       unfold tka6 at hF
       refine (hF _).mono ?_
       rintro e w3 ⟨rfl, hb3⟩
       clear hF
       have hL3 := hL0.below hb3 (by simp)
       have hz3 := hL3.lt
       have y0 : w3.cell? ⟨w.heap.size + 1, 0, none⟩ = some (.int .i64 0) := hL3.cell 0
       have y1 : w3.cell? ⟨w.heap.size + 1, 1, none⟩ = some (.int .i64 0) := hL3.cell 1
       have y2 : w3.cell? ⟨w.heap.size + 1, 2, none⟩ = some (.string ⟨#[]⟩) := hL3.cell 2
       have y3 : w3.cell? ⟨w.heap.size + 1, 3, none⟩ = some (.slice none 0 0) := hL3.cell 3
       have f3 := hL3.free
       have ht4 : Turns (fun k => k = r) w w3 := (((Turns.refl _ w).alloc _).alloc _).trans (Turns.of_below hb3 _)
       unfold dt0 ekv))
  exact bodyPost_ret (v := .tuple #[.agg #[.int .i64 0, .int .i64 0, .string ⟨#[]⟩, .slice none 0 0], ekv (14, X.line, X.col)]) (by simp [results, Tryz.results45, go_sem, y0, y1, y2, y3, ekv]) rfl ⟨rfl, four_turns ht4 (by omega) _ _ _ _⟩

set_option maxRecDepth 100000 in
set_option maxHeartbeats 16000000 in
theorem begun_of {v : Nat} (hv : v ≤ 64) (hRow : RowC v) (hMark : MarkC v) : BegC (v + 1) := by
  intro w r s a i j m X n hR hp
  have hr := hR.lt
  by_cases h14 : X.t.k = 14
  · have e : RM.beg (v + 1) X (stt s a i j m) = .error (5, X.line, X.col) := by unfold RM.beg; rw [if_pos h14]
    rw [e]
    exact begun_end w r s a i j m X n _ hR h14
  have hp' := hp h14
  by_cases hm : 4000 < m
  · have e : RM.beg (v + 1) X (stt s a i j m) = .error (14, X.line, X.col) := by unfold RM.beg; rw [if_neg h14, if_pos (show 4000 < (stt s a i j m).m from hm)]
    rw [e]
    exact begun_many w r s a i j m X n _ (by omega) hm hR h14
  have haa : a ≤ s.size := hp'.2.1
  have hll : s.size < (stt s a i j m).l.length + 1 + a := by
    show s.size < (s.data.toList.drop a).length + 1 + a
    rw [List.length_drop, size_len]; omega
  have hE : RM.beg (v + 1) X (stt s a i j m) = if X.t.k = 1 then RM.row (RM.beg v) 6 ((stt s a i j m).l.length + 1) .nil (stt s a i j m)
      else if X.t.k = 3 then RM.row (RM.beg v) 8 ((stt s a i j m).l.length + 1) .nil (stt s a i j m)
      else if X.t.k = 4 ∨ X.t.k = 5 ∨ X.t.k = 6 ∨ X.t.k = 7 then RM.mark (RM.beg v) X.t.k (stt s a i j m)
      else if X.t.k = 2 ∨ X.t.k = 8 then .error (6, X.line, X.col)
      else .ok (⟨RM.kof X.t.k, X.t.n, X.t.s, .nil⟩, stt s a i j m) := by
    conv => lhs; unfold RM.beg
    rw [if_neg h14, if_neg (show ¬ 4000 < (stt s a i j m).m from hm)]
  rw [hE]
  clear hE
  have e14 := kb _ _ h14
  have x4 : w.cell? ⟨r, 4, none⟩ = some (.int .i64 (m : Nat)) := Lies.cell hR 4
  have hm' : m ≤ 4000 := by omega
  have hL0 := lies_made2 w (.cells #[.int .i64 X.t.k, .int .i64 X.t.n, .string ⟨X.t.s.toArray⟩, .int .i64 X.line, .int .i64 X.col, .int .i64 (n : Nat)] 103) 24 zd4.toArray
  have hR0 : Rd ((w.alloc (.cells #[.int .i64 X.t.k, .int .i64 X.t.n, .string ⟨X.t.s.toArray⟩, .int .i64 X.line, .int .i64 X.col, .int .i64 (n : Nat)] 103)).alloc (.cells zd4.toArray 24)) r s a i j m := Lies.alloc (Lies.alloc hR _) _
  unfold zd4 at hR0
  obtain ⟨dp, hdp⟩ : ∃ dp : Int, 64 - (v : Int) = dp := ⟨_, rfl⟩
  have hd0 : 0 ≤ dp := by omega
  have hd1 : dp ≤ 64 := by omega
  rw [show 65 - ((v + 1 : Nat) : Int) = dp by omega]
  have hdv := Lib.hid hdp
  clear hdp hv hm hp h14
  by_cases h1 : X.t.k = 1
  · rw [if_pos h1]
    have e1 : (X.t.k == 1) = true := by simp [h1]
    unfold tka6
    clear h1
    have hC := Lib.hid (fun w' (h : Rd w' r s a i j m) => hRow w' r s a i j m 6 _ h hp' hll)
    rw [hdv.out] at hC
    try unfold tka6 at hC
    generalize RM.row (RM.beg v) 6 ((stt s a i j m).l.length + 1) .nil (stt s a i j m) = R at *
    cases R with
    | error x =>
      unfold RPost at hC ⊢
      go_enter Tryz.func45, Tryz.ntmps45
      go_wp2_with (first
        | (go_at_call 63
           refine (hC.out _ hR0).mono ?_
           rintro e w3 ⟨rfl, ht3⟩
           have hL3 := hL0.turns ht3 (by omega)
           have hz3 := hL3.lt
           have y0 : w3.cell? ⟨w.heap.size + 1, 0, none⟩ = some (.int .i64 0) := hL3.cell 0
           have y1 : w3.cell? ⟨w.heap.size + 1, 1, none⟩ = some (.int .i64 0) := hL3.cell 1
           have y2 : w3.cell? ⟨w.heap.size + 1, 2, none⟩ = some (.string ⟨#[]⟩) := hL3.cell 2
           have y3 : w3.cell? ⟨w.heap.size + 1, 3, none⟩ = some (.slice none 0 0) := hL3.cell 3
           have f3 := hL3.free
           have ht4 : Turns (fun k => k = r) w w3 := (((Turns.refl _ w).alloc _).alloc _).trans ht3
           unfold dt0 ekv))
      exact bodyPost_ret (v := .tuple #[.agg #[.int .i64 0, .int .i64 0, .string ⟨#[]⟩, .slice none 0 0], ekv x]) (by simp [results, Tryz.results45, go_sem, y0, y1, y2, y3, ekv]) rfl ⟨rfl, four_turns ht4 (by omega) _ _ _ _⟩
    | ok p =>
      obtain ⟨d, t⟩ := p
      unfold RPost at hC ⊢
      go_enter Tryz.func45, Tryz.ntmps45
      go_wp2_with (first
        | (go_at_call 63
           refine (hC.out _ hR0).mono ?_
           rintro e w3 ⟨vd, a3, i3, j3, m3, rfl, hst, hp3, hR3, hd3, ht3⟩
           obtain ⟨A3, c3, rfl⟩ := hd3.read
           have hst' := Lib.hid hst
           clear hst
           have hL3 := hL0.turns ht3 (by omega)
           have hz3 := hL3.lt
           have y0 : w3.cell? ⟨w.heap.size + 1, 0, none⟩ = some (.int .i64 0) := hL3.cell 0
           have y1 : w3.cell? ⟨w.heap.size + 1, 1, none⟩ = some (.int .i64 0) := hL3.cell 1
           have y2 : w3.cell? ⟨w.heap.size + 1, 2, none⟩ = some (.string ⟨#[]⟩) := hL3.cell 2
           have y3 : w3.cell? ⟨w.heap.size + 1, 3, none⟩ = some (.slice none 0 0) := hL3.cell 3
           have f3 := hL3.free
           have ht4 : Turns (fun k => k = r) w w3 := (((Turns.refl _ w).alloc _).alloc _).trans ht3))
      refine bodyPost_ret (v := .tuple #[.agg #[.int .i64 d.k, .int .i64 d.n, .string ⟨d.s.toArray⟩, .slice A3 d.is.len c3], .nilIface]) (by simp [results, Tryz.results45, go_sem, y0, y1, y2, y3]) rfl ⟨_, a3, i3, j3, m3, rfl, hst'.out, hp3, ?_, ?_, four_turns ht4 (by omega) _ _ _ _⟩
      · exact four_far (g := w.heap.size + 1) hR3 (by omega) _ _ _ _
      · exact (hd3.turns (four_one w3 (w.heap.size + 1) _ _ _ _) (fun g _ hs hh => by simp at hs; omega)).mono (fun g _ hs => by simp at hs; omega)
  rw [if_neg h1]
  have n1 := h1
  clear h1
  by_cases h1 : X.t.k = 3
  · rw [if_pos h1]
    have e1 : (X.t.k == 1) = false := by simp [h1]
    have e3 : (X.t.k == 3) = true := by simp [h1]
    unfold tka6
    clear h1
    have hC := Lib.hid (fun w' (h : Rd w' r s a i j m) => hRow w' r s a i j m 8 _ h hp' hll)
    rw [hdv.out] at hC
    try unfold tka6 at hC
    generalize RM.row (RM.beg v) 8 ((stt s a i j m).l.length + 1) .nil (stt s a i j m) = R at *
    cases R with
    | error x =>
      unfold RPost at hC ⊢
      go_enter Tryz.func45, Tryz.ntmps45
      go_wp2_with (first
        | (go_at_call 63
           refine (hC.out _ hR0).mono ?_
           rintro e w3 ⟨rfl, ht3⟩
           have hL3 := hL0.turns ht3 (by omega)
           have hz3 := hL3.lt
           have y0 : w3.cell? ⟨w.heap.size + 1, 0, none⟩ = some (.int .i64 0) := hL3.cell 0
           have y1 : w3.cell? ⟨w.heap.size + 1, 1, none⟩ = some (.int .i64 0) := hL3.cell 1
           have y2 : w3.cell? ⟨w.heap.size + 1, 2, none⟩ = some (.string ⟨#[]⟩) := hL3.cell 2
           have y3 : w3.cell? ⟨w.heap.size + 1, 3, none⟩ = some (.slice none 0 0) := hL3.cell 3
           have f3 := hL3.free
           have ht4 : Turns (fun k => k = r) w w3 := (((Turns.refl _ w).alloc _).alloc _).trans ht3
           unfold dt0 ekv))
      exact bodyPost_ret (v := .tuple #[.agg #[.int .i64 0, .int .i64 0, .string ⟨#[]⟩, .slice none 0 0], ekv x]) (by simp [results, Tryz.results45, go_sem, y0, y1, y2, y3, ekv]) rfl ⟨rfl, four_turns ht4 (by omega) _ _ _ _⟩
    | ok p =>
      obtain ⟨d, t⟩ := p
      unfold RPost at hC ⊢
      go_enter Tryz.func45, Tryz.ntmps45
      go_wp2_with (first
        | (go_at_call 63
           refine (hC.out _ hR0).mono ?_
           rintro e w3 ⟨vd, a3, i3, j3, m3, rfl, hst, hp3, hR3, hd3, ht3⟩
           obtain ⟨A3, c3, rfl⟩ := hd3.read
           have hst' := Lib.hid hst
           clear hst
           have hL3 := hL0.turns ht3 (by omega)
           have hz3 := hL3.lt
           have y0 : w3.cell? ⟨w.heap.size + 1, 0, none⟩ = some (.int .i64 0) := hL3.cell 0
           have y1 : w3.cell? ⟨w.heap.size + 1, 1, none⟩ = some (.int .i64 0) := hL3.cell 1
           have y2 : w3.cell? ⟨w.heap.size + 1, 2, none⟩ = some (.string ⟨#[]⟩) := hL3.cell 2
           have y3 : w3.cell? ⟨w.heap.size + 1, 3, none⟩ = some (.slice none 0 0) := hL3.cell 3
           have f3 := hL3.free
           have ht4 : Turns (fun k => k = r) w w3 := (((Turns.refl _ w).alloc _).alloc _).trans ht3))
      refine bodyPost_ret (v := .tuple #[.agg #[.int .i64 d.k, .int .i64 d.n, .string ⟨d.s.toArray⟩, .slice A3 d.is.len c3], .nilIface]) (by simp [results, Tryz.results45, go_sem, y0, y1, y2, y3]) rfl ⟨_, a3, i3, j3, m3, rfl, hst'.out, hp3, ?_, ?_, four_turns ht4 (by omega) _ _ _ _⟩
      · exact four_far (g := w.heap.size + 1) hR3 (by omega) _ _ _ _
      · exact (hd3.turns (four_one w3 (w.heap.size + 1) _ _ _ _) (fun g _ hs hh => by simp at hs; omega)).mono (fun g _ hs => by simp at hs; omega)
  rw [if_neg h1]
  have n3 := h1
  clear h1
  by_cases h1 : X.t.k = 4 ∨ X.t.k = 5 ∨ X.t.k = 6 ∨ X.t.k = 7
  · rw [if_pos h1]
    unfold tka6
    rcases h1 with h1 | h1 | h1 | h1
    · have e1 := kb _ _ n1
      have e3 := kb _ _ n3
      have e4 : (X.t.k == 4) = true := by simp [h1]
      clear h1
      have hC := Lib.hid (fun w' (h : Rd w' r s a i j m) => hMark w' r s a i j m X n h hp')
      rw [hdv.out] at hC
      try unfold tka6 at hC
      generalize RM.mark (RM.beg v) X.t.k (stt s a i j m) = R at *
      cases R with
      | error x =>
        unfold RPost at hC ⊢
        go_enter Tryz.func45, Tryz.ntmps45
        go_wp2_with (first
          | (go_at_call 64
             refine (hC.out _ hR0).mono ?_
             rintro e w3 ⟨rfl, ht3⟩
             have hL3 := hL0.turns ht3 (by omega)
             have hz3 := hL3.lt
             have y0 : w3.cell? ⟨w.heap.size + 1, 0, none⟩ = some (.int .i64 0) := hL3.cell 0
             have y1 : w3.cell? ⟨w.heap.size + 1, 1, none⟩ = some (.int .i64 0) := hL3.cell 1
             have y2 : w3.cell? ⟨w.heap.size + 1, 2, none⟩ = some (.string ⟨#[]⟩) := hL3.cell 2
             have y3 : w3.cell? ⟨w.heap.size + 1, 3, none⟩ = some (.slice none 0 0) := hL3.cell 3
             have f3 := hL3.free
             have ht4 : Turns (fun k => k = r) w w3 := (((Turns.refl _ w).alloc _).alloc _).trans ht3
             unfold dt0 ekv))
        exact bodyPost_ret (v := .tuple #[.agg #[.int .i64 0, .int .i64 0, .string ⟨#[]⟩, .slice none 0 0], ekv x]) (by simp [results, Tryz.results45, go_sem, y0, y1, y2, y3, ekv]) rfl ⟨rfl, four_turns ht4 (by omega) _ _ _ _⟩
      | ok p =>
        obtain ⟨d, t⟩ := p
        unfold RPost at hC ⊢
        go_enter Tryz.func45, Tryz.ntmps45
        go_wp2_with (first
          | (go_at_call 64
             refine (hC.out _ hR0).mono ?_
             rintro e w3 ⟨vd, a3, i3, j3, m3, rfl, hst, hp3, hR3, hd3, ht3⟩
             obtain ⟨A3, c3, rfl⟩ := hd3.read
             have hst' := Lib.hid hst
             clear hst
             have hL3 := hL0.turns ht3 (by omega)
             have hz3 := hL3.lt
             have y0 : w3.cell? ⟨w.heap.size + 1, 0, none⟩ = some (.int .i64 0) := hL3.cell 0
             have y1 : w3.cell? ⟨w.heap.size + 1, 1, none⟩ = some (.int .i64 0) := hL3.cell 1
             have y2 : w3.cell? ⟨w.heap.size + 1, 2, none⟩ = some (.string ⟨#[]⟩) := hL3.cell 2
             have y3 : w3.cell? ⟨w.heap.size + 1, 3, none⟩ = some (.slice none 0 0) := hL3.cell 3
             have f3 := hL3.free
             have ht4 : Turns (fun k => k = r) w w3 := (((Turns.refl _ w).alloc _).alloc _).trans ht3))
        refine bodyPost_ret (v := .tuple #[.agg #[.int .i64 d.k, .int .i64 d.n, .string ⟨d.s.toArray⟩, .slice A3 d.is.len c3], .nilIface]) (by simp [results, Tryz.results45, go_sem, y0, y1, y2, y3]) rfl ⟨_, a3, i3, j3, m3, rfl, hst'.out, hp3, ?_, ?_, four_turns ht4 (by omega) _ _ _ _⟩
        · exact four_far (g := w.heap.size + 1) hR3 (by omega) _ _ _ _
        · exact (hd3.turns (four_one w3 (w.heap.size + 1) _ _ _ _) (fun g _ hs hh => by simp at hs; omega)).mono (fun g _ hs => by simp at hs; omega)
    · have e1 := kb _ _ n1
      have e3 := kb _ _ n3
      have e4 : (X.t.k == 4) = false := by simp [h1]
      have e5 : (X.t.k == 5) = true := by simp [h1]
      clear h1
      have hC := Lib.hid (fun w' (h : Rd w' r s a i j m) => hMark w' r s a i j m X n h hp')
      rw [hdv.out] at hC
      try unfold tka6 at hC
      generalize RM.mark (RM.beg v) X.t.k (stt s a i j m) = R at *
      cases R with
      | error x =>
        unfold RPost at hC ⊢
        go_enter Tryz.func45, Tryz.ntmps45
        go_wp2_with (first
          | (go_at_call 64
             refine (hC.out _ hR0).mono ?_
             rintro e w3 ⟨rfl, ht3⟩
             have hL3 := hL0.turns ht3 (by omega)
             have hz3 := hL3.lt
             have y0 : w3.cell? ⟨w.heap.size + 1, 0, none⟩ = some (.int .i64 0) := hL3.cell 0
             have y1 : w3.cell? ⟨w.heap.size + 1, 1, none⟩ = some (.int .i64 0) := hL3.cell 1
             have y2 : w3.cell? ⟨w.heap.size + 1, 2, none⟩ = some (.string ⟨#[]⟩) := hL3.cell 2
             have y3 : w3.cell? ⟨w.heap.size + 1, 3, none⟩ = some (.slice none 0 0) := hL3.cell 3
             have f3 := hL3.free
             have ht4 : Turns (fun k => k = r) w w3 := (((Turns.refl _ w).alloc _).alloc _).trans ht3
             unfold dt0 ekv))
        exact bodyPost_ret (v := .tuple #[.agg #[.int .i64 0, .int .i64 0, .string ⟨#[]⟩, .slice none 0 0], ekv x]) (by simp [results, Tryz.results45, go_sem, y0, y1, y2, y3, ekv]) rfl ⟨rfl, four_turns ht4 (by omega) _ _ _ _⟩
      | ok p =>
        obtain ⟨d, t⟩ := p
        unfold RPost at hC ⊢
        go_enter Tryz.func45, Tryz.ntmps45
        go_wp2_with (first
          | (go_at_call 64
             refine (hC.out _ hR0).mono ?_
             rintro e w3 ⟨vd, a3, i3, j3, m3, rfl, hst, hp3, hR3, hd3, ht3⟩
             obtain ⟨A3, c3, rfl⟩ := hd3.read
             have hst' := Lib.hid hst
             clear hst
             have hL3 := hL0.turns ht3 (by omega)
             have hz3 := hL3.lt
             have y0 : w3.cell? ⟨w.heap.size + 1, 0, none⟩ = some (.int .i64 0) := hL3.cell 0
             have y1 : w3.cell? ⟨w.heap.size + 1, 1, none⟩ = some (.int .i64 0) := hL3.cell 1
             have y2 : w3.cell? ⟨w.heap.size + 1, 2, none⟩ = some (.string ⟨#[]⟩) := hL3.cell 2
             have y3 : w3.cell? ⟨w.heap.size + 1, 3, none⟩ = some (.slice none 0 0) := hL3.cell 3
             have f3 := hL3.free
             have ht4 : Turns (fun k => k = r) w w3 := (((Turns.refl _ w).alloc _).alloc _).trans ht3))
        refine bodyPost_ret (v := .tuple #[.agg #[.int .i64 d.k, .int .i64 d.n, .string ⟨d.s.toArray⟩, .slice A3 d.is.len c3], .nilIface]) (by simp [results, Tryz.results45, go_sem, y0, y1, y2, y3]) rfl ⟨_, a3, i3, j3, m3, rfl, hst'.out, hp3, ?_, ?_, four_turns ht4 (by omega) _ _ _ _⟩
        · exact four_far (g := w.heap.size + 1) hR3 (by omega) _ _ _ _
        · exact (hd3.turns (four_one w3 (w.heap.size + 1) _ _ _ _) (fun g _ hs hh => by simp at hs; omega)).mono (fun g _ hs => by simp at hs; omega)
    · have e1 := kb _ _ n1
      have e3 := kb _ _ n3
      have e4 : (X.t.k == 4) = false := by simp [h1]
      have e5 : (X.t.k == 5) = false := by simp [h1]
      have e6 : (X.t.k == 6) = true := by simp [h1]
      clear h1
      have hC := Lib.hid (fun w' (h : Rd w' r s a i j m) => hMark w' r s a i j m X n h hp')
      rw [hdv.out] at hC
      try unfold tka6 at hC
      generalize RM.mark (RM.beg v) X.t.k (stt s a i j m) = R at *
      cases R with
      | error x =>
        unfold RPost at hC ⊢
        go_enter Tryz.func45, Tryz.ntmps45
        go_wp2_with (first
          | (go_at_call 64
             refine (hC.out _ hR0).mono ?_
             rintro e w3 ⟨rfl, ht3⟩
             have hL3 := hL0.turns ht3 (by omega)
             have hz3 := hL3.lt
             have y0 : w3.cell? ⟨w.heap.size + 1, 0, none⟩ = some (.int .i64 0) := hL3.cell 0
             have y1 : w3.cell? ⟨w.heap.size + 1, 1, none⟩ = some (.int .i64 0) := hL3.cell 1
             have y2 : w3.cell? ⟨w.heap.size + 1, 2, none⟩ = some (.string ⟨#[]⟩) := hL3.cell 2
             have y3 : w3.cell? ⟨w.heap.size + 1, 3, none⟩ = some (.slice none 0 0) := hL3.cell 3
             have f3 := hL3.free
             have ht4 : Turns (fun k => k = r) w w3 := (((Turns.refl _ w).alloc _).alloc _).trans ht3
             unfold dt0 ekv))
        exact bodyPost_ret (v := .tuple #[.agg #[.int .i64 0, .int .i64 0, .string ⟨#[]⟩, .slice none 0 0], ekv x]) (by simp [results, Tryz.results45, go_sem, y0, y1, y2, y3, ekv]) rfl ⟨rfl, four_turns ht4 (by omega) _ _ _ _⟩
      | ok p =>
        obtain ⟨d, t⟩ := p
        unfold RPost at hC ⊢
        go_enter Tryz.func45, Tryz.ntmps45
        go_wp2_with (first
          | (go_at_call 64
             refine (hC.out _ hR0).mono ?_
             rintro e w3 ⟨vd, a3, i3, j3, m3, rfl, hst, hp3, hR3, hd3, ht3⟩
             obtain ⟨A3, c3, rfl⟩ := hd3.read
             have hst' := Lib.hid hst
             clear hst
             have hL3 := hL0.turns ht3 (by omega)
             have hz3 := hL3.lt
             have y0 : w3.cell? ⟨w.heap.size + 1, 0, none⟩ = some (.int .i64 0) := hL3.cell 0
             have y1 : w3.cell? ⟨w.heap.size + 1, 1, none⟩ = some (.int .i64 0) := hL3.cell 1
             have y2 : w3.cell? ⟨w.heap.size + 1, 2, none⟩ = some (.string ⟨#[]⟩) := hL3.cell 2
             have y3 : w3.cell? ⟨w.heap.size + 1, 3, none⟩ = some (.slice none 0 0) := hL3.cell 3
             have f3 := hL3.free
             have ht4 : Turns (fun k => k = r) w w3 := (((Turns.refl _ w).alloc _).alloc _).trans ht3))
        refine bodyPost_ret (v := .tuple #[.agg #[.int .i64 d.k, .int .i64 d.n, .string ⟨d.s.toArray⟩, .slice A3 d.is.len c3], .nilIface]) (by simp [results, Tryz.results45, go_sem, y0, y1, y2, y3]) rfl ⟨_, a3, i3, j3, m3, rfl, hst'.out, hp3, ?_, ?_, four_turns ht4 (by omega) _ _ _ _⟩
        · exact four_far (g := w.heap.size + 1) hR3 (by omega) _ _ _ _
        · exact (hd3.turns (four_one w3 (w.heap.size + 1) _ _ _ _) (fun g _ hs hh => by simp at hs; omega)).mono (fun g _ hs => by simp at hs; omega)
    · have e1 := kb _ _ n1
      have e3 := kb _ _ n3
      have e4 : (X.t.k == 4) = false := by simp [h1]
      have e5 : (X.t.k == 5) = false := by simp [h1]
      have e6 : (X.t.k == 6) = false := by simp [h1]
      have e7 : (X.t.k == 7) = true := by simp [h1]
      clear h1
      have hC := Lib.hid (fun w' (h : Rd w' r s a i j m) => hMark w' r s a i j m X n h hp')
      rw [hdv.out] at hC
      try unfold tka6 at hC
      generalize RM.mark (RM.beg v) X.t.k (stt s a i j m) = R at *
      cases R with
      | error x =>
        unfold RPost at hC ⊢
        go_enter Tryz.func45, Tryz.ntmps45
        go_wp2_with (first
          | (go_at_call 64
             refine (hC.out _ hR0).mono ?_
             rintro e w3 ⟨rfl, ht3⟩
             have hL3 := hL0.turns ht3 (by omega)
             have hz3 := hL3.lt
             have y0 : w3.cell? ⟨w.heap.size + 1, 0, none⟩ = some (.int .i64 0) := hL3.cell 0
             have y1 : w3.cell? ⟨w.heap.size + 1, 1, none⟩ = some (.int .i64 0) := hL3.cell 1
             have y2 : w3.cell? ⟨w.heap.size + 1, 2, none⟩ = some (.string ⟨#[]⟩) := hL3.cell 2
             have y3 : w3.cell? ⟨w.heap.size + 1, 3, none⟩ = some (.slice none 0 0) := hL3.cell 3
             have f3 := hL3.free
             have ht4 : Turns (fun k => k = r) w w3 := (((Turns.refl _ w).alloc _).alloc _).trans ht3
             unfold dt0 ekv))
        exact bodyPost_ret (v := .tuple #[.agg #[.int .i64 0, .int .i64 0, .string ⟨#[]⟩, .slice none 0 0], ekv x]) (by simp [results, Tryz.results45, go_sem, y0, y1, y2, y3, ekv]) rfl ⟨rfl, four_turns ht4 (by omega) _ _ _ _⟩
      | ok p =>
        obtain ⟨d, t⟩ := p
        unfold RPost at hC ⊢
        go_enter Tryz.func45, Tryz.ntmps45
        go_wp2_with (first
          | (go_at_call 64
             refine (hC.out _ hR0).mono ?_
             rintro e w3 ⟨vd, a3, i3, j3, m3, rfl, hst, hp3, hR3, hd3, ht3⟩
             obtain ⟨A3, c3, rfl⟩ := hd3.read
             have hst' := Lib.hid hst
             clear hst
             have hL3 := hL0.turns ht3 (by omega)
             have hz3 := hL3.lt
             have y0 : w3.cell? ⟨w.heap.size + 1, 0, none⟩ = some (.int .i64 0) := hL3.cell 0
             have y1 : w3.cell? ⟨w.heap.size + 1, 1, none⟩ = some (.int .i64 0) := hL3.cell 1
             have y2 : w3.cell? ⟨w.heap.size + 1, 2, none⟩ = some (.string ⟨#[]⟩) := hL3.cell 2
             have y3 : w3.cell? ⟨w.heap.size + 1, 3, none⟩ = some (.slice none 0 0) := hL3.cell 3
             have f3 := hL3.free
             have ht4 : Turns (fun k => k = r) w w3 := (((Turns.refl _ w).alloc _).alloc _).trans ht3))
        refine bodyPost_ret (v := .tuple #[.agg #[.int .i64 d.k, .int .i64 d.n, .string ⟨d.s.toArray⟩, .slice A3 d.is.len c3], .nilIface]) (by simp [results, Tryz.results45, go_sem, y0, y1, y2, y3]) rfl ⟨_, a3, i3, j3, m3, rfl, hst'.out, hp3, ?_, ?_, four_turns ht4 (by omega) _ _ _ _⟩
        · exact four_far (g := w.heap.size + 1) hR3 (by omega) _ _ _ _
        · exact (hd3.turns (four_one w3 (w.heap.size + 1) _ _ _ _) (fun g _ hs hh => by simp at hs; omega)).mono (fun g _ hs => by simp at hs; omega)
  rw [if_neg h1]
  have e1 := kb _ _ n1
  have e3 := kb _ _ n3
  have e4 := kb X.t.k 4 (by omega)
  have e5 := kb X.t.k 5 (by omega)
  have e6 := kb X.t.k 6 (by omega)
  have e7 := kb X.t.k 7 (by omega)
  clear h1 n1 n3 hRow hMark hll
  by_cases h1 : X.t.k = 2 ∨ X.t.k = 8
  · rw [if_pos h1]
    unfold tka6
    unfold RPost
    rcases h1 with h1 | h1
    · have e2 : (X.t.k == 2) = true := by simp [h1]
      clear h1
      go_enter Tryz.func45, Tryz.ntmps45
      go_wp2_with (first
        | (go_at_call 62
           have hF := fault_any X n 6
           unfold tka6 at hF
           refine (hF _).mono ?_
           rintro e w3 ⟨rfl, hb3⟩
           clear hF
           have hL3 := hL0.below hb3 (by simp)
           have hz3 := hL3.lt
           have y0 : w3.cell? ⟨w.heap.size + 1, 0, none⟩ = some (.int .i64 0) := hL3.cell 0
           have y1 : w3.cell? ⟨w.heap.size + 1, 1, none⟩ = some (.int .i64 0) := hL3.cell 1
           have y2 : w3.cell? ⟨w.heap.size + 1, 2, none⟩ = some (.string ⟨#[]⟩) := hL3.cell 2
           have y3 : w3.cell? ⟨w.heap.size + 1, 3, none⟩ = some (.slice none 0 0) := hL3.cell 3
           have f3 := hL3.free
           have ht4 : Turns (fun k => k = r) w w3 := (((Turns.refl _ w).alloc _).alloc _).trans (Turns.of_below hb3 _)
           unfold dt0 ekv))
      exact bodyPost_ret (v := .tuple #[.agg #[.int .i64 0, .int .i64 0, .string ⟨#[]⟩, .slice none 0 0], ekv (6, X.line, X.col)]) (by simp [results, Tryz.results45, go_sem, y0, y1, y2, y3, ekv]) rfl ⟨rfl, four_turns ht4 (by omega) _ _ _ _⟩
    · have e2 : (X.t.k == 2) = false := by simp [h1]
      have e8 : (X.t.k == 8) = true := by simp [h1]
      clear h1
      go_enter Tryz.func45, Tryz.ntmps45
      go_wp2_with (first
        | (go_at_call 62
           have hF := fault_any X n 6
           unfold tka6 at hF
           refine (hF _).mono ?_
           rintro e w3 ⟨rfl, hb3⟩
           clear hF
           have hL3 := hL0.below hb3 (by simp)
           have hz3 := hL3.lt
           have y0 : w3.cell? ⟨w.heap.size + 1, 0, none⟩ = some (.int .i64 0) := hL3.cell 0
           have y1 : w3.cell? ⟨w.heap.size + 1, 1, none⟩ = some (.int .i64 0) := hL3.cell 1
           have y2 : w3.cell? ⟨w.heap.size + 1, 2, none⟩ = some (.string ⟨#[]⟩) := hL3.cell 2
           have y3 : w3.cell? ⟨w.heap.size + 1, 3, none⟩ = some (.slice none 0 0) := hL3.cell 3
           have f3 := hL3.free
           have ht4 : Turns (fun k => k = r) w w3 := (((Turns.refl _ w).alloc _).alloc _).trans (Turns.of_below hb3 _)
           unfold dt0 ekv))
      exact bodyPost_ret (v := .tuple #[.agg #[.int .i64 0, .int .i64 0, .string ⟨#[]⟩, .slice none 0 0], ekv (6, X.line, X.col)]) (by simp [results, Tryz.results45, go_sem, y0, y1, y2, y3, ekv]) rfl ⟨rfl, four_turns ht4 (by omega) _ _ _ _⟩
  rw [if_neg h1]
  have e2 := kb X.t.k 2 (by omega)
  have e8 := kb X.t.k 8 (by omega)
  clear h1
  have hM := Lib.hid (fun w' => kindOf_any X n w')
  unfold tka6 at hM ⊢
  unfold RPost
  have hT0 := (Lies.made w 103 #[.int .i64 X.t.k, .int .i64 X.t.n, .string ⟨X.t.s.toArray⟩, .int .i64 X.line, .int .i64 X.col, .int .i64 (n : Nat)]).alloc (.cells zd4.toArray 24)
  have hp'' := Lib.hid hp'
  generalize hkk : RM.kof X.t.k = kk at *
  clear hp' hkk
  go_enter Tryz.func45, Tryz.ntmps45
  go_wp2_with fail
  go_region_held3 (fun w' => w'.cell? ⟨w.heap.size, 0, none⟩ = some (.int .i64 X.t.k) ∧ w'.cell? ⟨w.heap.size, 1, none⟩ = some (.int .i64 X.t.n) ∧ w'.cell? ⟨w.heap.size, 2, none⟩ = some (.string ⟨X.t.s.toArray⟩) ∧ w'.cell? ⟨w.heap.size, 3, none⟩ = some (.int .i64 X.line) ∧ w'.cell? ⟨w.heap.size, 4, none⟩ = some (.int .i64 X.col) ∧ w'.cell? ⟨w.heap.size, 5, none⟩ = some (.int .i64 (n : Nat))) (first | go_keep | with_reducible exact kx | ((repeat' apply And.intro) <;> go_keep))
    (first
      | (go_at_call 65
         refine (hM.out _).mono ?_
         rintro e w3 ⟨rfl, hb3⟩
         have hT3 := hT0.drew.below hb3 (by simp; omega)
         have hL3 := hL0.drew.below hb3 (by simp)
         have hR3 := (Lies.drew hR0).below hb3 (by simp; omega)
         have kx : w3.cell? ⟨w.heap.size, 0, none⟩ = some (.int .i64 X.t.k) ∧ w3.cell? ⟨w.heap.size, 1, none⟩ = some (.int .i64 X.t.n) ∧ w3.cell? ⟨w.heap.size, 2, none⟩ = some (.string ⟨X.t.s.toArray⟩) ∧ w3.cell? ⟨w.heap.size, 3, none⟩ = some (.int .i64 X.line) ∧ w3.cell? ⟨w.heap.size, 4, none⟩ = some (.int .i64 X.col) ∧ w3.cell? ⟨w.heap.size, 5, none⟩ = some (.int .i64 (n : Nat)) := ⟨hT3.cell 0, hT3.cell 1, hT3.cell 2, hT3.cell 3, hT3.cell 4, hT3.cell 5⟩
         have hz3 := hL3.lt
         have y0 : w3.cell? ⟨w.heap.size + 1, 0, none⟩ = some (.int .i64 0) := hL3.cell 0
         have y1 : w3.cell? ⟨w.heap.size + 1, 1, none⟩ = some (.int .i64 0) := hL3.cell 1
         have y2 : w3.cell? ⟨w.heap.size + 1, 2, none⟩ = some (.string ⟨#[]⟩) := hL3.cell 2
         have y3 : w3.cell? ⟨w.heap.size + 1, 3, none⟩ = some (.slice none 0 0) := hL3.cell 3
         have f3 := hL3.free
         have ht3 : Turns (fun k => k = r) w w3 := ((((Turns.refl _ w).alloc _).alloc _).drew).trans (Turns.of_below hb3 _)
         clear hb3))
  all_goals
    go_wp2_with fail
    refine bodyPost_ret (v := .tuple #[.agg #[.int .i64 kk, .int .i64 X.t.n, .string ⟨X.t.s.toArray⟩, .slice none 0 0], .nilIface]) (by simp [results, Tryz.results45, go_sem, y0, y1, y2, y3]) rfl ⟨_, a, i, j, m, rfl, rfl, hp''.out, ?_, ?_, ?_⟩
    · exact four_far (g := w.heap.size + 1) hR3 (by omega) _ _ _ _
    · exact Dat.nil _ _
    · exact four_turns ht3 (by omega) _ _ _ _

/-- all of them -/
theorem begun_all : ∀ v : Nat, v ≤ 65 → BegC v
  | 0, _ => by
    intro w r s a i j m X n hR hp
    by_cases h14 : X.t.k = 14
    · have e : RM.beg 0 X (stt s a i j m) = .error (5, X.line, X.col) := by unfold RM.beg; rw [if_pos h14]
      rw [e]
      exact begun_end w r s a i j m X n _ hR h14
    · have e : RM.beg 0 X (stt s a i j m) = .error (14, X.line, X.col) := by unfold RM.beg; rw [if_neg h14]
      rw [e]
      exact begun_deep w r s a i j m X n _ (by omega) hR h14
  | v + 1, hv => by
    have hB := begun_all v (by omega)
    have hD := datum_any hB
    exact begun_of (by omega) (row_of (by omega) hB (dotted_of (by omega) hD)) (marked_of (by omega) hD)
end Go.Proofs.YtbomodendobnkaaGreat
