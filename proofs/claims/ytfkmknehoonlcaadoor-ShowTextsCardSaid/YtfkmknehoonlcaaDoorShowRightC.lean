/- The document's Right, and which data are few enough for a statement: of a whole datum. -/
import Derived.Test.YtfkmknehoonlcaaDoorShowRightB
namespace Go.Proofs.YtfkmknehoonlcaaDoor
open Go.ChangeShapes Go.WideShapes Go.ChangeAt Go.RowKit

theorem rr_any (x : RM.Dm) : RrOk x := RM.Dl.all_of RrOk rr_step (.one x) 0 x (by cases x; rfl)
def SM.small (x : RM.Dm) : Bool := decide (SM.hi x.is + 1 ≤ 90) && decide (SM.sz x.is + 1 < 5000)
set_option maxRecDepth 100000 in
set_option maxHeartbeats 2000000 in
theorem rright_any (x : RM.Dm) (w : World) (v : Value) (h : In w v x.is) : Calls Tryd.prog 11 #[dtv x v] w fun e w' => e = .returned (.bool (SM.okd x)) ∧ Went w w' := by
  obtain ⟨A, c, rfl⟩ := h.read
  obtain ⟨Z, hZ⟩ : ∃ Z, SM.sz x.is = Z := ⟨_, rfl⟩
  obtain ⟨H, hH⟩ : ∃ H, SM.hi x.is = H := ⟨_, rfl⟩
  obtain ⟨G, hG⟩ : ∃ G, (SM.kd x.k x.n x.s x.is && SM.rgt x.is) = G := ⟨_, rfl⟩
  have hD := Lib.hid (fun (w' : World) (hb : Below w.heap.size w w') => hi_any x w' (.slice A x.is.len c) 70 (h.below hb) (by omega) (by omega))
  have hC := Lib.hid (fun (w' : World) (hb : Below w.heap.size w w') (hf : (H : Int) ≤ 100000) => rparts_any x w' (.slice A x.is.len c) (h.below hb) (by rw [hH]; exact hf))
  have hR := Lib.hid (fun (w' : World) (hb : Below w.heap.size w w') (hf : (H : Int) + 1 ≤ 64) => rr_any x w' (.slice A x.is.len c) 64 (h.below hb) (by rw [hH]; exact hf) (by omega))
  rw [hG] at hR
  rw [hZ] at hC
  rw [hH] at hD
  unfold SM.okd
  rw [hZ, hG, hH]
  clear hZ hG hH h
  unfold dtv at hC hR hD ⊢
  obtain ⟨N, hN⟩ : ∃ N, x.is.len = N := ⟨_, rfl⟩
  rw [hN] at hC hR hD ⊢
  clear hN
  have hL := Lies.made w 24 #[.int .i64 x.k, .int .i64 x.n, .string ⟨x.s.toArray⟩, .slice A N c]
  have hb0 : Below w.heap.size w (w.alloc (.cells #[.int .i64 x.k, .int .i64 x.n, .string ⟨x.s.toArray⟩, .slice A N c] 24)) := went_box _ _ _
  by_cases h1 : H + 1 ≤ 64
  · by_cases h2 : Z + 1 ≤ 4000
    · rw [decide_eq_true h1, decide_eq_true h2, Bool.true_and, Bool.true_and]
      go_enter Tryd.func11, Tryd.ntmps11
      go_wp2_with (first
        | (go_at_call 17
           refine (hD.out _ hb0).mono ?_
           rintro e w5 ⟨y5, h50, rfl, hb5⟩
           have hy : y5 ≤ 64 := by omega
           clear h50
           have hM := hL.below hb5 hL.lt
           have hb6 : Below w.heap.size w w5 := hb0.trans (hb5.mono (by simp))
           have y0 := hM.cell 0
           have y1 := hM.cell 1
           have y2 := hM.cell 2
           have y3 := hM.cell 3
           simp only [List.getElem?_cons_succ, List.getElem?_cons_zero] at y0 y1 y2 y3
           clear hL hb0 hb5)
        | (go_at_call 16
           refine (hC.out _ hb6 (by omega)).mono ?_
           rintro e w7 ⟨y7, h70, rfl, hb7⟩
           have hy : y7 ≤ 4000 := by omega
           clear h70
           have hM2 := hM.below hb7 hM.lt
           have hb8 : Below w.heap.size w w7 := hb6.trans (hb7.mono hb6.size)
           have y0 := hM2.cell 0
           have y1 := hM2.cell 1
           have y2 := hM2.cell 2
           have y3 := hM2.cell 3
           simp only [List.getElem?_cons_succ, List.getElem?_cons_zero] at y0 y1 y2 y3
           clear hM hM2 hb7 hb6)
        | (go_at_call 19
           refine (hR.out _ hb8 (by omega)).mono ?_
           rintro e w9 ⟨rfl, hb9⟩))
      go_ret
      exact ⟨rfl, hb8.trans (hb9.mono hb8.size)⟩
    · rw [decide_eq_true h1, decide_eq_false h2, Bool.false_and, Bool.false_and]
      go_enter Tryd.func11, Tryd.ntmps11
      go_wp2_with (first
        | (go_at_call 17
           refine (hD.out _ hb0).mono ?_
           rintro e w5 ⟨y5, h50, rfl, hb5⟩
           have hy : y5 ≤ 64 := by omega
           clear h50
           have hM := hL.below hb5 hL.lt
           have hb6 : Below w.heap.size w w5 := hb0.trans (hb5.mono (by simp))
           have y0 := hM.cell 0
           have y1 := hM.cell 1
           have y2 := hM.cell 2
           have y3 := hM.cell 3
           simp only [List.getElem?_cons_succ, List.getElem?_cons_zero] at y0 y1 y2 y3
           clear hL hb0 hb5 hM)
        | (go_at_call 16
           refine (hC.out _ hb6 (by omega)).mono ?_
           rintro e w7 ⟨y7, h70, rfl, hb7⟩
           have hy : 4000 < y7 := by omega
           clear h70))
      go_ret
      exact ⟨rfl, hb6.trans (hb7.mono hb6.size)⟩
  · rw [decide_eq_false h1, Bool.and_false, Bool.false_and]
    go_enter Tryd.func11, Tryd.ntmps11
    go_wp2_with (
      go_at_call 17
      refine (hD.out _ hb0).mono ?_
      rintro e w5 ⟨y5, h50, rfl, hb5⟩
      have hy : 64 < y5 := by omega
      clear h50)
    go_ret
    exact ⟨rfl, hb0.trans (hb5.mono (by simp))⟩
set_option maxRecDepth 100000 in
set_option maxHeartbeats 2000000 in
theorem small_any (x : RM.Dm) (w : World) (v : Value) (h : In w v x.is) : Calls Tryd.prog 7 #[dtv x v] w fun e w' => e = .returned (.bool (SM.small x)) ∧ Went w w' := by
  obtain ⟨A, c, rfl⟩ := h.read
  obtain ⟨Z, hZ⟩ : ∃ Z, SM.sz x.is = Z := ⟨_, rfl⟩
  obtain ⟨H, hH⟩ : ∃ H, SM.hi x.is = H := ⟨_, rfl⟩
  have hD := Lib.hid (fun (w' : World) (hb : Below w.heap.size w w') => hi_any x w' (.slice A x.is.len c) 100 (h.below hb) (by omega) (by omega))
  have hC := Lib.hid (fun (w' : World) (hb : Below w.heap.size w w') (hf : (H : Int) ≤ 100000) => rparts_any x w' (.slice A x.is.len c) (h.below hb) (by rw [hH]; exact hf))
  rw [hZ] at hC
  rw [hH] at hD
  unfold SM.small
  rw [hZ, hH]
  clear hZ hH h
  unfold dtv at hC hD ⊢
  obtain ⟨N, hN⟩ : ∃ N, x.is.len = N := ⟨_, rfl⟩
  rw [hN] at hC hD ⊢
  clear hN
  have hL := Lies.made w 24 #[.int .i64 x.k, .int .i64 x.n, .string ⟨x.s.toArray⟩, .slice A N c]
  have hb0 : Below w.heap.size w (w.alloc (.cells #[.int .i64 x.k, .int .i64 x.n, .string ⟨x.s.toArray⟩, .slice A N c] 24)) := went_box _ _ _
  by_cases h1 : H + 1 ≤ 90
  · rw [decide_eq_true h1, Bool.true_and]
    go_enter Tryd.func7, Tryd.ntmps7
    go_wp2_with (first
      | (go_at_call 17
         refine (hD.out _ hb0).mono ?_
         rintro e w5 ⟨y5, h50, rfl, hb5⟩
         have hy : y5 ≤ 90 := by omega
         clear h50
         have hM := hL.below hb5 hL.lt
         have hb6 : Below w.heap.size w w5 := hb0.trans (hb5.mono (by simp))
         have y0 := hM.cell 0
         have y1 := hM.cell 1
         have y2 := hM.cell 2
         have y3 := hM.cell 3
         simp only [List.getElem?_cons_succ, List.getElem?_cons_zero] at y0 y1 y2 y3
         clear hL hb0 hb5 hM)
      | (go_at_call 16
         refine (hC.out _ hb6 (by omega)).mono ?_
         rintro e w7 ⟨y7, h70, rfl, hb7⟩
         have h70' := Lib.hid h70
         clear h70))
    go_ret
    exact ⟨ret_b (by have h70 := h70'.out; rw [Bool.eq_iff_iff]; simp; omega), hb6.trans (hb7.mono hb6.size)⟩
  · rw [decide_eq_false h1, Bool.false_and]
    go_enter Tryd.func7, Tryd.ntmps7
    go_wp2_with (
      go_at_call 17
      refine (hD.out _ hb0).mono ?_
      rintro e w5 ⟨y5, h50, rfl, hb5⟩
      have hy : 90 < y5 := by omega
      clear h50)
    go_ret
    exact ⟨rfl, hb0.trans (hb5.mono (by simp))⟩
end Go.Proofs.YtfkmknehoonlcaaDoor
